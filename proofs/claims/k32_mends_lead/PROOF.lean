import PyProof.Rows.All
import Wide.All
import OpenK.AllK
import Wide.FinOn
import Lean
import PyProof.EqAt
import PyProof.EqKinds
import PyProof.TupleCall
import KE.KTryMore
import PyProof.ExcAttrAll.ValueError
import KE.KRevIter
import PyProof.SetNew
import PyProof.SetRoads
import PyProof.Rows.SetObj
import PyProof.DictCompW
import PyProof.DictItems
import PyProof.Rows.SetFrom
import PyProof.ListRange
import PyProof.Rows.Range3
import KE.IntBitsLaws
import PyProof.AttrMissHeap
import PyProof.FactsAll.bool_1
import KE.KDictOf
import PyProof.DictRoadsH
import PyProof.P3Eq
import PyProof.Rows.SortStr
import PyProof.Rows.SortWalk
import PyProof.FactsAll.set
import PyProof.CollectWalk
import PyProof.WalkInts
import PyProof.CollectIter
import KE.KMinBuiltin
import PyProof.Rows.CallKwBuiltin
import KE.RegKIsAll
import KE.RegKTryMore
import PySem.Challenge.RW_callbinds_k32_mends_lead
set_option Elab.async false
set_option linter.all false
set_option maxRecDepth 100000
set_option maxHeartbeats 4000000
namespace L2
open PySem PySem.Spec PyProof.Rows
abbrev Key:=Sum Int Str
def keyIs:Key->Value->Bool
 | .inl k,v=>Value.isInt k v
 | .inr x,v=>Value.isStrOf x v
def keyH (w:World):Key->Int
 | .inl k=>hashInt k
 | .inr x=>hashStr w x
theorem keyIs_shape:∀ {k:Key} {v:Value},keyIs k v = true->(∃ i t,k = Sum.inl i/\v = Value.int i t)\/(∃ x t,k = Sum.inr x/\v = Value.str x t)
 | .inl i,v,h=>by
  obtain ⟨t,e⟩:=Value.isInt_shape (k:=i) (v:=v) h
  exact .inl ⟨i,t,rfl,e⟩
 | .inr x,v,h=>by
  obtain ⟨t,e⟩:=Value.isStrOf_shape (x:=x) (v:=v) h
  exact .inr ⟨x,t,rfl,e⟩
theorem keyIs_int (i:Int) (t:Tok):keyIs (.inl i) (.int i t) = true:=by simp [keyIs,Value.isInt]
theorem keyIs_str (x:Str) (t:Tok):keyIs (.inr x) (.str x t) = true:=by simp [keyIs,Value.isStrOf]
theorem key_ll (a b:Int):decide ((Sum.inl a:Key) = Sum.inl b) = (a == b):=by
 by_cases e:a = b
 ·subst e; simp
 ·have h:¬ (Sum.inl a:Key) = Sum.inl b:=fun q=>e (Sum.inl.inj q)
  rw [decide_eq_false h]
  exact (beq_eq_false_iff_ne.mpr e).symm
theorem key_rr (a b:Str):decide ((Sum.inr a:Key) = Sum.inr b) = decide (a = b):=by
 by_cases e:a = b
 ·subst e; simp
 ·have h:¬ (Sum.inr a:Key) = Sum.inr b:=fun q=>e (Sum.inr.inj q)
  rw [decide_eq_false h,decide_eq_false e]
theorem key_lr (a:Int) (b:Str):decide ((Sum.inl a:Key) = Sum.inr b) = false:=decide_eq_false (fun q=>nomatch q)
theorem key_rl (a:Str) (b:Int):decide ((Sum.inr a:Key) = Sum.inl b) = false:=decide_eq_false (fun q=>nomatch q)
def mixKind (prog:Program) (w:World):PySem.KeyKind prog w Key where
 is:=keyIs
 hash:=keyH w
 inj:=fun v a b ha hb=>by
  rcases keyIs_shape ha with ⟨i,t,rfl,rfl⟩ | ⟨x,t,rfl,rfl⟩
  ·rcases keyIs_shape hb with ⟨j,u,rfl,e⟩ | ⟨y,u,rfl,e⟩
   ·injection e with e1 _; rw [e1]
   ·exact nomatch e
  ·rcases keyIs_shape hb with ⟨j,u,rfl,e⟩ | ⟨y,u,rfl,e⟩
   ·exact nomatch e
   ·injection e with e1 _; rw [e1]
 byValue:=fun k v h=>by
  rcases keyIs_shape h with ⟨i,t,rfl,rfl⟩ | ⟨x,t,rfl,rfl⟩ <;> rfl
 pyHash:=fun hv h=>by
  rcases keyIs_shape hv with ⟨i,t,rfl,rfl⟩ | ⟨x,t,rfl,rfl⟩
  ·exact wpAny_pyHash_int h
  ·exact wpAny_pyHash_str h
 eqBool:=fun hu hv h=>by
  rcases keyIs_shape hu with ⟨i,t,rfl,rfl⟩ | ⟨x,t,rfl,rfl⟩
  ·rcases keyIs_shape hv with ⟨j,u,rfl,rfl⟩ | ⟨y,u,rfl,rfl⟩
   ·rw [key_ll] at h; exact wpAny_eqBool_int h
   ·rw [key_lr] at h; exact SeqAt.EqAt.int_str i t y u _ _ _ _ h
  ·rcases keyIs_shape hv with ⟨j,u,rfl,rfl⟩ | ⟨y,u,rfl,rfl⟩
   ·rw [key_rl] at h; exact SeqAt.EqAt.str_int x t j u _ _ _ _ h
   ·rw [key_rr] at h; exact wpAny_eqBool_str h
 «strs»:=fun k x t v h=>by
  rcases keyIs_shape h with ⟨i,u,rfl,e⟩ | ⟨y,u,rfl,e⟩
  ·exact nomatch e
  ·injection e with e1 _
   subst e1
   cases v <;> rfl
theorem mixKind_int (prog:Program) (w:World) (i:Int) (t:Tok):(mixKind prog w).is (.inl i) (.int i t) = true:=keyIs_int i t
theorem mixKind_str (prog:Program) (w:World) (x:Str) (t:Tok):(mixKind prog w).is (.inr x) (.str x t) = true:=keyIs_str x t
inductive V where
 | non | bl (b:Bool) | int (i:Int) | str (x:Str) | byt (b:Array UInt8) | flt (b:UInt64) | ref (a:Addr) | ty (n:String)
 deriving DecidableEq
def RelV:V->Value->Prop
 | .non,u=>u = Value.none
 | .bl b,u=>u = Value.bool b
 | .int i,u=>∃ t,u = Value.int i t
 | .str x,u=>∃ t,u = Value.str x t
 | .byt b,u=>∃ t,u = Value.bytes b t
 | .flt b,u=>∃ t,u = Value.float b t
 | .ref a,u=>u = Value.ref a
 | .ty n,u=>u = Value.type n
abbrev Vals:List V->List Value->Prop:=Paired RelV
theorem Vals.length {xs:List V} {us:List Value} (r:Vals xs us):xs.length = us.length:=Paired.length r
theorem Vals.get:∀ {xs:List V} {us:List Value} {i:Nat} {x:V},Vals xs us->xs[i]? = some x->∃ u,us[i]? = some u/\RelV x u
 | _,_,_,_,.nil,e=>by simp at e
 | _,_,0,_,.cons r _,e=>by simp at e; subst e; exact ⟨_,rfl,r⟩
 | _,_,i + 1,x,.cons _ t,e=>by
  obtain ⟨u,h1,h2⟩:=Vals.get (i:=i) (x:=x) t (by simpa using e)
  exact ⟨u,by simpa using h1,h2⟩
theorem Vals.append:∀ {xs ys:List V} {us ws:List Value},Vals xs us->Vals ys ws->Vals (xs ++ ys) (us ++ ws)
 | _,_,_,_,.nil,s=>s
 | _,_,_,_,.cons r t,s=>.cons r (Vals.append t s)
theorem Vals.take:∀ {xs:List V} {us:List Value} (n:Nat),Vals xs us->Vals (xs.take n) (us.take n)
 | _,_,0,_=>.nil
 | _,_,_ + 1,.nil=>.nil
 | _,_,n + 1,.cons r t=>.cons r (Vals.take n t)
theorem Vals.drop:∀ {xs:List V} {us:List Value} (n:Nat),Vals xs us->Vals (xs.drop n) (us.drop n)
 | _,_,0,r=>r
 | _,_,_ + 1,.nil=>.nil
 | _,_,n + 1,.cons _ t=>Vals.drop n t
def RelO:Option V->Option Value->Prop
 | some v,some u=>RelV v u
 | none,none=>True
 | _,_=>False
def KV {κ : Type}:List (κ × V)->List (κ × Value)->Prop:=Paired fun (p : κ × V) (q : κ × Value)=>p.1 = q.1/\RelV p.2 q.2
def kV:Key->V
 | .inl i=>.int i
 | .inr x=>.str x
inductive HO where
 | lst (xs:List V)
 | tup (xs:List V)
 | dK (kvs:List (Key × V)) | dT (kvs:List (List Key × V))
 | set (S:Int->Bool) (n:Nat)
 | ins (C dx:Addr) (fs:List (Str × V))
 | own (x:Addr)
 | xd (fs:List (Str × V))
 | met (f x:Addr)
 | rng (lo hi:Int)
 | frz (o:Obj) (u:HO)
 | tbl (ps:Array Value)
 | ext (φ : Heap->Prop)
abbrev Hp:=Addr->Option HO
def upd (H:Hp) (a:Addr) (o:HO):Hp:=fun b=>if b = a then some o else H b
theorem upd_same {H:Hp} {a:Addr} {o:HO}:upd H a o a = some o:=by unfold upd; rw [if_pos rfl]
theorem upd_ne {H:Hp} {a b:Addr} {o:HO} (h:b ≠ a):upd H a o b = H b:=by unfold upd; rw [if_neg h]
theorem upd_upd {H:Hp} {a:Addr} {o u:HO}:upd (upd H a o) a u = upd H a u:=by
 funext b; unfold upd; split <;> rfl
theorem ne_of {H:Hp} {a b:Addr} {o u:HO} (h:H a = some o) (h':H b = some u) (d:o ≠ u):a ≠ b:=by
 intro e; subst e; rw [h] at h'; exact d (Option.some.inj h')
theorem ne_of_none {H:Hp} {a b:Addr} {o:HO} (h:H a = some o) (h':H b = none):a ≠ b:=by
 intro e; subst e; rw [h] at h'; cases h'
section
variable (P:Program) (w:World)
def ObjOk (H:Hp) (h:Heap) (a:Addr):HO->Prop
 | .lst xs=>xs.length<=sizeLine/\∃ (its:List Value) (n:Nat),Vals xs its/\h.get? a = some { cls:=.type "list",data:=.seq its.toArray n }
 | .tup xs=>xs.length<=sizeLine/\∃ its:List Value,Vals xs its/\IsTup h a its.toArray
 | .dK kvs=>kvs.length<=sizeLine/\(a == sysModules) = false/\∃ vs,KV kvs vs/\h.DictOf (mixKind P w) a vs
 | .dT kvs=>kvs.length<=sizeLine/\(a == sysModules) = false/\∃ xs:List (List Key × Addr × Value),
   Paired (fun (p:List Key × V) (q:List Key × Addr × Value)=>p.1 = q.1/\H q.2.1 = some (.tup (p.1.map kV))/\RelV p.2 q.2.2) kvs xs/\
   ∃ o es ep,h.get? a = some o/\o.ExactDict/\o.data = .dict es ep/\es.toList = xs.map (entryOfKey (tupleKind (mixKind P w)))/\(xs.map (·.1)).Nodup
 | .set S n=>h.SetOf (intKind P w) a S n
 | .ins C dx fs=>H dx = some (.own a)/\fs.length<=1000/\dx ≠ a/\h.get? a = some (PySem.W.instObj C dx)/\
   ∃ mA,h.Ns1 dx mA/\(∀ f,RelO (fs.lookup f) (mA f))/\PySem.Within mA (fs.map (·.1))
 | .own _=>∃ o,h.get? a = some o
 | .xd fs=>∃ mA,h.Ns1 a mA/\∀ f,RelO (fs.lookup f) (mA f)
 | .rng lo hi=>∃ t u v,h.get? a = some { cls:=.type "range",data:=.fields #[.int lo t,.int hi u,.int 1 v] }
 | .frz o u=>h.get? a = some o/\ObjOk H h a u
 | .tbl ps=>h.get? a = some { cls:=.none,data:=.fields ps }
 | .met f x=>h.get? a = some (PySem.W.methodObj (.ref f) (.ref x))
 | .ext φ=>φ h/\(∃ o,h.get? a = some o)/\∀ h1 h2:Heap,φ h1->(∀ o,h1.get? a = some o->h2.get? a = some o)->φ h2
def HOk (H:Hp) (h:Heap):Prop:=∀ a o,H a = some o->ObjOk P w H h a o
end
section
variable {P:Program} {w:World} {H H':Hp} {h h':Heap} {a:Addr} {o:HO}
theorem ObjOk.lt (x:ObjOk P w H h a o):a < h.objs.size:=by
 cases o with
 | lst xs=>obtain ⟨_,_,_,_,e⟩:=x; exact Heap.lt_size e
 | tup xs=>obtain ⟨_,_,_,p⟩:=x; exact p.lt
 | dK kvs=>obtain ⟨_,_,_,_,o,_,_,e,_⟩:=x; exact Heap.lt_size e
 | dT kvs=>obtain ⟨_,_,_,_,o,_,_,e,_⟩:=x; exact Heap.lt_size e
 | set S n=>obtain ⟨o,_,_,_,e,_⟩:=x; exact Heap.lt_size e
 | ins C dx fs=>obtain ⟨_,_,_,e,_⟩:=x; exact Heap.lt_size e
 | own y=>obtain ⟨_,e⟩:=x; exact Heap.lt_size e
 | xd fs=>obtain ⟨_,⟨_,_,_,e,_⟩,_⟩:=x; exact Heap.lt_size e
 | rng lo hi=>obtain ⟨_,_,_,e⟩:=x; exact Heap.lt_size e
 | frz ob u=>obtain ⟨e,_⟩:=x; exact Heap.lt_size e
 | tbl ps=>exact Heap.lt_size (show h.get? a = some _ from x)
 | met f y=>exact Heap.lt_size (show h.get? a = some _ from x)
 | ext φ=>obtain ⟨_,⟨_,e⟩,_⟩:=x; exact Heap.lt_size e
theorem Paired.mapP {α β : Type} {F G : α->β->Prop}:∀ {l₁:List α} {l₂:List β},Paired F l₁ l₂->(∀ a b,F a b->G a b)->Paired G l₁ l₂
 | _,_,.nil,_=>.nil
 | _,_,.cons r t,f=>.cons (f _ _ r) (Paired.mapP t f)
theorem Paired.imp' {α β : Type} {F G : α->β->Prop} (f:∀ a b,F a b->G a b) {l₁:List α} {l₂:List β} (r:Paired F l₁ l₂):Paired G l₁ l₂:=Paired.mapP r f
theorem ObjOk.stay (x:ObjOk P w H h a o) (k:∀ b u,(b = a\/H b = some (.own a))->h.get? b = some u->h'.get? b = some u)
  (ho:∀ b,H b = some (.own a)->H' b = some (.own a)) (ht:∀ b xs,H b = some (.tup xs)->H' b = some (.tup xs)):ObjOk P w H' h' a o:=by
 induction o with
 | lst xs=>obtain ⟨z,its,n,r,e⟩:=x; exact ⟨z,its,n,r,k _ _ (.inl rfl) e⟩
 | tup xs=>obtain ⟨z,its,r,ob,e,c⟩:=x; exact ⟨z,its,r,ob,k _ _ (.inl rfl) e,c⟩
 | dK kvs=>obtain ⟨z,y,vs,r,ob,es,ep,e,c⟩:=x; exact ⟨z,y,vs,r,ob,es,ep,k _ _ (.inl rfl) e,c⟩
 | dT kvs=>
  obtain ⟨z,y,xs,r,ob,es,ep,e,c⟩:=x
  exact ⟨z,y,xs,Paired.mapP r fun p q z=>⟨z.1,ht _ _ z.2.1,z.2.2⟩,ob,es,ep,k _ _ (.inl rfl) e,c⟩
 | set S n=>obtain ⟨ob,es,ep,t,e,c⟩:=x; exact ⟨ob,es,ep,t,k _ _ (.inl rfl) e,c⟩
 | ins C dx fs=>
  obtain ⟨d,z,ne,e,mA,⟨od,es,ep,e2,c⟩,r⟩:=x
  exact ⟨ho _ d,z,ne,k _ _ (.inl rfl) e,mA,⟨od,es,ep,k _ _ (.inr d) e2,c⟩,r⟩
 | own y=>obtain ⟨ob,e⟩:=x; exact ⟨ob,k _ _ (.inl rfl) e⟩
 | xd fs=>obtain ⟨mA,⟨od,es,ep,e,c⟩,r⟩:=x; exact ⟨mA,⟨od,es,ep,k _ _ (.inl rfl) e,c⟩,r⟩
 | rng lo hi=>obtain ⟨t,u,v,e⟩:=x; exact ⟨t,u,v,k _ _ (.inl rfl) e⟩
 | frz ob u ih=>obtain ⟨e,q⟩:=x; exact ⟨k _ _ (.inl rfl) e,ih q⟩
 | tbl ps=>
  have e:h.get? a = some { cls:=.none,data:=.fields ps }:=x
  show h'.get? a = some { cls:=.none,data:=.fields ps }
  exact k a _ (.inl rfl) e
 | met f y=>
  have e:h.get? a = some (PySem.W.methodObj (.ref f) (.ref y)):=x
  show h'.get? a = some (PySem.W.methodObj (.ref f) (.ref y))
  exact k a _ (.inl rfl) e
 | ext φ=>obtain ⟨p,⟨o,e⟩,st⟩:=x; exact ⟨st _ _ p fun o q=>k _ _ (.inl rfl) q,⟨o,k _ _ (.inl rfl) e⟩,st⟩
theorem HOk.lt (x:HOk P w H h) (e:H a = some o):a < h.objs.size:=(x a o e).lt
theorem HOk.fresh (x:HOk P w H h) (e:h.objs.size<=a):H a = none:=by
 cases q:H a with
 | none=>rfl
 | some u=>exact absurd (Nat.lt_of_lt_of_le (x.lt q) e) (Nat.lt_irrefl _)
theorem HOk.kept (x:HOk P w H h) (k:∀ b u,h.get? b = some u->h'.get? b = some u):HOk P w H h':=fun a o e=>
 (x a o e).stay (fun b u _ q=>k b u q) (fun _ q=>q) fun _ _ q=>q
theorem HOk.laid (x:HOk P w H h) (k:∀ b u,h.get? b = some u->h'.get? b = some u) (hp:h.objs.size<=a) (new:ObjOk P w (upd H a o) h' a o):HOk P w (upd H a o) h':=fun b u e=>by
 have hn:=x.fresh hp
 by_cases hb:b = a
 ·subst hb; rw [upd_same] at e; cases e; exact new
 ·rw [upd_ne hb] at e
  exact (x b u e).stay (fun c v _ q=>k c v q) (fun c q=>by rw [upd_ne (ne_of_none q hn)]; exact q) fun c xs q=>by rw [upd_ne (ne_of_none q hn)]; exact q
end
def Rd (H:Hp) (a:Addr) (u:HO):Prop:=H a = some u\/∃ o,H a = some (.frz o u)
theorem Rd.ok {P:Program} {w:World} {H:Hp} {h:Heap} {a:Addr} {u:HO} (r:Rd H a u) (x:HOk P w H h):ObjOk P w H h a u:=by
 rcases r with r | ⟨o,r⟩
 ·exact x a u r
 ·obtain ⟨_,q⟩:=x a _ r
  exact q
def Mut:Option HO->Prop
 | some (.lst _)=>True
 | some (.dK _)=>True
 | some (.dT _)=>True
 | some (.set _ _)=>True
 | some (.ins _ _ _)=>True
 | some (.ext _)=>True
 | _=>False
section
variable {P:Program} {w:World} {H:Hp} {h h':Heap} {x e:Addr} {o':HO}
theorem HOk.write (ok:HOk P w H h) (mu:Mut (H x)) (he:e = x\/H e = some (.own x)) (k:∀ b u,b ≠ e->h.get? b = some u->h'.get? b = some u) (heo:∃ u,h'.get? e = some u)
  (new:ObjOk P w (upd H x o') h' x o'):HOk P w (upd H x o') h':=fun b u q=>by
 have nown:∀ c y,H c = some (.own y)->c ≠ x:=fun c y r z=>by subst z; rw [r] at mu; exact mu
 have ntup:∀ c xs,H c = some (.tup xs)->c ≠ x:=fun c xs r z=>by subst z; rw [r] at mu; exact mu
 by_cases hb:b = x
 ·subst hb; rw [upd_same] at q; cases q; exact new
 ·rw [upd_ne hb] at q
  by_cases hbe:b = e
  ·have q':H b = some (.own x):=by
    rcases he with z | z
    ·exact absurd (hbe.trans z) hb
    ·rw [hbe]; exact z
   rw [q] at q'; cases q'
   obtain ⟨v,hv⟩:=heo
   exact ⟨v,by rw [hbe]; exact hv⟩
  ·refine (ok b u q).stay (fun c v hc r=>k c v ?_ r) (fun c r=>by rw [upd_ne (nown c b r)]; exact r) fun c xs r=>by rw [upd_ne (ntup c xs r)]; exact r
   rcases hc with rfl | hc
   ·exact hbe
   ·rintro rfl
    rcases he with z | z
    ·exact nown c b hc z
    ·rw [hc] at z; cases z; exact hb rfl
end
structure Un (fs ex:List Addr) (H H':Hp) (h h':Heap):Prop where
 keep:∀ b o,h.get? b = some o->H b = none->b ∉ fs->b ∉ ex->h'.get? b = some o
 slot:∀ b o,h.get? b = some o->H b = none->b ∈ fs->b ∉ ex->∃ sl,h'.get? b = some { o with slots:=sl }
 free:∀ b o,h.get? b = some o->H b = none->b ∉ ex->H' b = none
 there:∀ b o,h.get? b = some o->b ∉ ex->∃ o',h'.get? b = some o'
 tups:∀ b xs,H b = some (.tup xs)->H' b = some (.tup xs)
 frzs:∀ b o u,H b = some (.frz o u)->H' b = some (.frz o u)
 tbls:∀ b ps,H b = some (.tbl ps)->∃ more,H' b = some (.tbl (ps ++ more))
section
variable {fs fs' ex ex':List Addr} {H H1 H2:Hp} {h h1 h2 h':Heap} {a x e:Addr} {o:HO}
theorem Un.any (u:Un fs ex H H1 h h1) {b:Addr} {ob:Obj} (q:h.get? b = some ob) (n:H b = none) (hx:b ∉ ex):∃ sl,h1.get? b = some { ob with slots:=sl }:=by
 by_cases hb:b ∈ fs
 ·exact u.slot b ob q n hb hx
 ·exact ⟨ob.slots,u.keep b ob q n hb hx⟩
theorem Un.kept (k:∀ b u,h.get? b = some u->h'.get? b = some u):Un fs ex H H h h':=
 ⟨fun b ob q _ _ _=>k b ob q,fun b ob q _ _ _=>⟨ob.slots,k b ob q⟩,fun _ _ _ n _=>n,fun b ob q _=>⟨ob,k b ob q⟩,fun _ _ q=>q,fun _ _ _ q=>q,fun _ ps q=>⟨#[],by rw [q]; simp⟩⟩
theorem Un.refl:Un fs ex H H h h:=Un.kept fun _ _ q=>q
theorem Un.laid (k:∀ b u,h.get? b = some u->h'.get? b = some u) (hp:h.objs.size<=a) (hn:H a = none):Un fs ex H (upd H a o) h h' where
 keep:=fun b u q _ _ _=>k b u q
 slot:=fun b u q _ _ _=>⟨u.slots,k b u q⟩
 free:=fun b u q n _=>by rw [upd_ne (Nat.ne_of_lt (Nat.lt_of_lt_of_le (Heap.lt_size q) hp))]; exact n
 there:=fun b u q _=>⟨u,k b u q⟩
 tups:=fun b xs q=>by rw [upd_ne (ne_of_none q hn)]; exact q
 frzs:=fun b u xs q=>by rw [upd_ne (ne_of_none q hn)]; exact q
 tbls:=fun b ps q=>⟨#[],by rw [upd_ne (ne_of_none q hn),q]; simp⟩
theorem Un.write (mu:Mut (H x)) (he:e = x\/H e = some (.own x)) (k:∀ b u,b ≠ e->h.get? b = some u->h'.get? b = some u) (heo:∃ u,h'.get? e = some u):Un fs ex H (upd H x o) h h':=by
 have hx:∀ b,H b = none->b ≠ x:=fun b n z=>by subst z; rw [n] at mu; exact mu
 have hb:∀ b,H b = none->b ≠ e:=fun b n z=>by
  subst z
  rcases he with r | r
  ·exact hx b n r
  ·rw [n] at r; cases r
 have hm:∀ b u,H b = some u->¬ Mut (some u)->b ≠ x:=fun b u q nm z=>by subst z; rw [q] at mu; exact nm mu
 refine ⟨fun b u q n _ _=>k b u (hb b n) q,fun b u q n _ _=>⟨u.slots,k b u (hb b n) q⟩,fun b u q n _=>by rw [upd_ne (hx b n)]; exact n,fun b u q _=>?_,
  fun b xs q=>by rw [upd_ne (hm b _ q fun z=>z)]; exact q,fun b u xs q=>by rw [upd_ne (hm b _ q fun z=>z)]; exact q,fun b ps q=>⟨#[],by rw [upd_ne (hm b _ q fun z=>z),q]; simp⟩⟩
 by_cases hbe:b = e
 ·subst hbe; exact heo
 ·exact ⟨u,k b u hbe q⟩
end
def trk (h:Heap) (H:Hp):List Addr:=(List.range h.objs.size).filter fun a=>(H a).isSome
def hidT (h:Heap) (H:Hp):Heap:=PySem.W.hideAll h (trk h H)
theorem hidT_size (h:Heap) (H:Hp):(hidT h H).objs.size = h.objs.size:=PySem.W.hideAll_size _ _
theorem hidT_get {h:Heap} {H:Hp} {b:Addr} {o:Obj} (e:h.get? b = some o) (n:H b = none):(hidT h H).get? b = some o:=
 PySem.W.hideAll_get _ e fun hm=>by
  have q:(H b).isSome = true:=(List.mem_filter.mp hm).2
  rw [n] at q; simp at q
theorem of_hidT {h:Heap} {H:Hp} {b:Addr} {o:Obj} (e:(hidT h H).get? b = some o):h.get? b = some o/\H b = none:=by
 have e':h.get? b = some o:=PySem.W.of_hideAll (trk h H) e
 refine ⟨e',?_⟩
 cases q:H b with
 | none=>rfl
 | some x=>
  have hm:b ∈ trk h H:=List.mem_filter.mpr ⟨List.mem_range.mpr (Heap.lt_size e'),by simp [q]⟩
  have z:(hidT h H).get? b = none:=PySem.W.hideAll_none (trk h H) hm
  rw [z] at e; cases e
def allNews (g h:Heap) (L:Addr):List (Addr × Obj):=(List.range h.objs.size).filterMap fun a=>if a = L\/(g.get? a).isSome = true then none else (h.get? a).map fun o=>(a,o)
def rest (g h:Heap) (L d:Addr):List (Addr × Obj):=(allNews g h L).filter fun p=>decide (p.1 ≠ d)
structure Mod (K:PySem.W.Frag) (mg:Str->Option Value) (base:Heap):Prop where
 kin:K.In base
 glob:base.Ns mainGlobals mg
 blt:∃ mb,base.Ns builtinsNs mb/\∀ x:Str,x ≠ "__name__"->mb x = bootBuiltins x
 nolimit:base.NoLimit
structure Cx where
 prog:Program
 w:World
 K:PySem.W.Frag
 mg:Str->Option Value
 base:Heap
 A:Around
 N:List Str
 s₀:Shared
 H₀:Hp
 env:Env
 outer:List Env
 stack:List Env
 ex:List Addr
 fn:Str->Bool
 calm:Bool
 pn:List (Addr × Obj)
 xe:Value->Shared->Prop
def frs (l:List Env):List Addr:=l.filterMap (·.frame)
abbrev Cx.fs (X:Cx):List Addr:=frs X.outer
def Vis (sc:Scope) (x:Str):Prop:=sc.names.lookup x = some .local\/sc.names.lookup x = some .cell\/sc.names.lookup x = some .free
def Loc (sc:Scope) (x:Str):Prop:=sc.names.lookup x = some .local\/sc.names.lookup x = some .cell
def Look (env:Env) (h:Heap) (m:Str->Option Value) (x:Str) (u:Value):Prop:=
 (env.kindOf x = some .local/\m x = some u)\/((env.kindOf x = some .cell\/env.kindOf x = some .free)/\∃ c,env.cells.lookup x = some c/\h.IsCell c (some u))
structure Cx.Ok (X:Cx):Prop where
 mod:Mod X.K X.mg X.base
 kind:X.env.scope.kind = .function
 glob:X.env.globals = mainGlobals
 blt:X.env.builtins = builtinsNs
 above:X.s₀.heap.objs.size<=X.env.locals
 inj:∀ x y c,X.env.cells.lookup x = some c->X.env.cells.lookup y = some c->x = y
 has:∀ x,(X.env.kindOf x = some .cell\/X.env.kindOf x = some .free)->∃ c,X.env.cells.lookup x = some c
 cab:∀ x c,X.fn x = true->X.env.cells.lookup x = some c->X.s₀.heap.objs.size<=c
 hd:X.calm = true->X.A.handled = none
 frames:X.A.frames = some X.stack
 stk:X.stack = X.outer\/(X.stack = X.env :: X.outer/\X.env.frame = some X.env.locals)
 exf:∀ b ∈ X.ex,b ≠ X.env.locals/\∀ x c,X.env.cells.lookup x = some c->c ≠ b
 bs:∀ b o,X.base.get? b = some o->X.s₀.heap.get? b = some o/\X.H₀ b = none
 bsz:X.base.objs.size<=X.s₀.heap.objs.size
 noex:∀ b o,X.base.get? b = some o->b ∉ X.ex
 exfs:∀ b ∈ X.ex,b ∉ X.fs
 funs:X.s₀.heap.FunFrames X.base X.outer
 frf:∀ b ∈ X.fs,X.H₀ b = none
structure Inv (X:Cx) (pins:List (Addr × Obj)) (σ : List (Option V)) (H:Hp) (s:Shared):Prop where
 ok:X.Ok
 os:s.os = X.s₀.os
 bare:AllBare s.gens
 base:Un X.fs X.ex X.H₀ H X.s₀.heap s.heap
 loc:∃ m,s.heap.Ns X.env.locals m/\∀ (i:Nat) (x:Str) (v:V),X.N[i]? = some x->σ[i]? = some (some v)->Vis X.env.scope x->∃ u,RelV v u/\Look X.env s.heap m x u
 cell:∀ x c,X.env.cells.lookup x = some c->∃ v,s.heap.IsCell c v
 free:H X.env.locals = none
 freeC:∀ x c,X.env.cells.lookup x = some c->H c = none
 pin:∀ p ∈ X.pn ++ pins,s.heap.get? p.1 = some p.2/\H p.1 = none/\p.1 ≠ X.env.locals/\p.1 ∉ X.fs/\∀ v,p.2.data ≠ .cell v
 hok:HOk X.prog X.w H s.heap
 len : σ.length = X.N.length
section
variable {X:Cx} {pins:List (Addr × Obj)} {σ : List (Option V)} {H H':Hp} {s:Shared} {h':Heap}
theorem Cx.Ok.nofr (ok:X.Ok) {b:Addr} {o:Obj} (e:X.base.get? b = some o):b ∉ X.fs:=fun hb=>by
 have:=(ok.funs.mem hb).1
 rw [e] at this; cases this
theorem Inv.bs (I:Inv X pins σ H s):∀ b o,X.base.get? b = some o->s.heap.get? b = some o/\H b = none:=fun b o e=>
 ⟨I.base.keep b o (I.ok.bs b o e).1 (I.ok.bs b o e).2 (I.ok.nofr e) (I.ok.noex b o e),I.base.free b o (I.ok.bs b o e).1 (I.ok.bs b o e).2 (I.ok.noex b o e)⟩
theorem Inv.bk (I:Inv X pins σ H s):∀ b o,X.base.get? b = some o->s.heap.get? b = some o:=fun b o e=>(I.bs b o e).1
theorem Inv.mod (I:Inv X pins σ H s):Mod X.K X.mg X.base:=I.ok.mod
theorem Inv.kIn (I:Inv X pins σ H s):X.K.In s.heap:=I.ok.mod.kin.keeps I.bk
theorem Inv.fr (I:Inv X pins σ H s):∃ m,Fr X.base X.env.locals s.heap m:=
 let ⟨m,hn,_⟩:=I.loc
 ⟨m,hn,I.bk,Nat.le_trans I.ok.bsz I.ok.above⟩
theorem Inv.lt (I:Inv X pins σ H s):X.env.locals < s.heap.objs.size:=let ⟨_,hn,_⟩:=I.loc; hn.lt
theorem Inv.sz (I:Inv X pins σ H s):X.s₀.heap.objs.size<=s.heap.objs.size:=Nat.le_trans I.ok.above (Nat.le_of_lt I.lt)
theorem Inv.nofs (I:Inv X pins σ H s) {a:Addr} (h:s.heap.objs.size<=a):a ∉ X.fs:=fun hb=>by
 obtain ⟨_,o,ho,_⟩:=I.ok.funs.mem hb
 exact absurd (Nat.lt_of_lt_of_le (Heap.lt_size ho) (Nat.le_trans I.sz h)) (Nat.lt_irrefl _)
theorem Inv.cne (I:Inv X pins σ H s):∀ x c,X.env.cells.lookup x = some c->c ≠ X.env.locals:=fun x c e z=>by
 obtain ⟨v,o,ho,hd⟩:=I.cell x c e
 obtain ⟨m,⟨o',es,ep,ho',hd',_⟩,_⟩:=I.loc
 rw [z,ho'] at ho; cases ho; rw [hd'] at hd; cases hd
theorem Inv.funs (I:Inv X pins σ H s):s.heap.FunFrames X.base X.outer:=by
 have all:∀ (l:List Env),(∀ b ∈ frs l,b ∈ X.fs)->X.s₀.heap.FunFrames X.base l->s.heap.FunFrames X.base l:=by
  intro l
  induction l with
  | nil=>intro _ _; trivial
  | cons env r ih=>
   intro hs hl
   obtain ⟨hk,⟨L,o,hf,hn,ho,hd⟩,hr⟩:=hl
   have hL:L ∈ X.fs:=hs L (by unfold frs; rw [List.filterMap_cons,hf]; exact List.mem_cons_self)
   obtain ⟨sl,e⟩:=I.base.slot L o ho (I.ok.frf L hL) hL fun z=>I.ok.exfs L z hL
   exact ⟨hk,⟨L,_,hf,hn,e,hd⟩,ih (fun b hb=>hs b (by unfold frs; rw [List.filterMap_cons,hf]; exact List.mem_cons_of_mem _ hb)) hr⟩
 exact all X.outer (fun _ hb=>hb) I.ok.funs
theorem Inv.stack (I:Inv X pins σ H s):s.heap.FunFrames X.base X.stack:=by
 rcases I.ok.stk with e | ⟨e,hf⟩
 ·rw [e]; exact I.funs
 ·rw [e]
  obtain ⟨m,hn,_⟩:=I.loc
  refine .cons (by rw [I.ok.kind]; decide) hf hn ?_ I.funs
  exact Heap.get?_none_of_le (Nat.le_trans I.ok.bsz I.ok.above)
theorem Inv.stkSub (I:Inv X pins σ H s):∀ b ∈ frs X.stack,b ∈ X.env.locals :: X.fs:=fun b hb=>by
 rcases I.ok.stk with e | ⟨e,hf⟩
 ·rw [e] at hb; exact List.mem_cons_of_mem _ hb
 ·rw [e] at hb
  unfold frs at hb
  rw [List.filterMap_cons,hf] at hb
  exact hb
theorem Inv.stkFree (I:Inv X pins σ H s):∀ b ∈ frs X.stack,H b = none:=fun b hb=>by
 rcases List.mem_cons.mp (I.stkSub b hb) with e | hb
 ·rw [e]; exact I.free
 ·obtain ⟨_,o,ho,_⟩:=I.ok.funs.mem hb
  exact I.base.free b o ho (I.ok.frf b hb) fun z=>I.ok.exfs b z hb
theorem Inv.step {g':Array GenState} {t':Nat} {d':Drawn} {ch:List Addr} (I:Inv X pins σ H s)
  (hch:∀ b ∈ ch,(b ∈ X.ex\/X.s₀.heap.objs.size<=b)/\b ≠ X.env.locals/\(∀ x c,X.env.cells.lookup x = some c->c ≠ b)/\∀ p ∈ X.pn ++ pins,p.1 ≠ b)
  (keep:∀ b o,b ≠ X.env.locals->b ∉ X.fs->b ∉ ch->s.heap.get? b = some o->H b = none->h'.get? b = some o)
  (slot:∀ b o,b ≠ X.env.locals->b ∈ X.fs->b ∉ ch->s.heap.get? b = some o->H b = none->∃ sl,h'.get? b = some { o with slots:=sl }) (free:∀ b o,b ∉ ch->s.heap.get? b = some o->H b = none->H' b = none)
  (there:∀ b o,b ∉ ch->s.heap.get? b = some o->∃ o',h'.get? b = some o')
  (tups:∀ b xs,H b = some (.tup xs)->H' b = some (.tup xs)) (frzs:∀ b o u,H b = some (.frz o u)->H' b = some (.frz o u)) (tbls:∀ b ps,H b = some (.tbl ps)->∃ more,H' b = some (.tbl (ps ++ more)))
  (ns:∀ m,s.heap.Ns X.env.locals m->h'.Ns X.env.locals m) (hok:HOk X.prog X.w H' h') (hg:AllBare g') :
  Inv X pins σ H' { s with heap:=h',gens:=g',drawn:=d',toks:=t' }:=by
 have neL:∀ b o,X.s₀.heap.get? b = some o->b ≠ X.env.locals:=fun b o e=>Nat.ne_of_lt (Nat.lt_of_lt_of_le (Heap.lt_size e) I.ok.above)
 have neC:∀ b o,X.s₀.heap.get? b = some o->b ∉ X.ex->b ∉ ch:=fun b o e hx hb=>by
  rcases (hch b hb).1 with z | z
  ·exact hx z
  ·exact absurd (Nat.lt_of_lt_of_le (Heap.lt_size e) z) (Nat.lt_irrefl _)
 have cellK:∀ x c,X.env.cells.lookup x = some c->∀ v,s.heap.IsCell c v->h'.IsCell c v:=fun x c e v ⟨o,ho,hd⟩=>by
  have nch:c ∉ ch:=fun z=>(hch c z).2.2.1 x c e rfl
  by_cases hc:c ∈ X.fs
  ·obtain ⟨sl,q⟩:=slot c o (I.cne x c e) hc nch ho (I.freeC x c e)
   exact ⟨_,q,hd⟩
  ·exact ⟨o,keep c o (I.cne x c e) hc nch ho (I.freeC x c e),hd⟩
 refine ⟨I.ok,I.os,hg,⟨fun b o e n hb hx=>?_,fun b o e n hb hx=>?_,fun b o e n hx=>?_,fun b o e hx=>?_,fun b xs e=>tups b xs (I.base.tups b xs e),fun b o xs e=>frzs b o xs (I.base.frzs b o xs e),fun b ps e=>?_⟩,?_,fun x c e=>?_,?_,fun x c e=>?_,fun p hp=>?_,hok,I.len⟩
 ·exact keep b o (neL b o e) hb (neC b o e hx) (I.base.keep b o e n hb hx) (I.base.free b o e n hx)
 ·obtain ⟨sl,e1⟩:=I.base.slot b o e n hb hx
  obtain ⟨sl',e2⟩:=slot b _ (neL b o e) hb (neC b o e hx) e1 (I.base.free b o e n hx)
  exact ⟨sl',e2⟩
 ·obtain ⟨o',e1⟩:=I.base.there b o e hx
  exact free b o' (neC b o e hx) e1 (I.base.free b o e n hx)
 ·obtain ⟨o',e1⟩:=I.base.there b o e hx
  exact there b o' (neC b o e hx) e1
 ·obtain ⟨m1,e1⟩:=I.base.tbls b ps e
  obtain ⟨m2,e2⟩:=tbls b _ e1
  exact ⟨m1 ++ m2,by rw [e2,Array.append_assoc]⟩
 ·obtain ⟨m,hn,hl⟩:=I.loc
  refine ⟨m,ns m hn,fun i x v e1 e2 e3=>?_⟩
  obtain ⟨u,r,l⟩:=hl i x v e1 e2 e3
  refine ⟨u,r,?_⟩
  rcases l with l | ⟨k,c,e,z⟩
  ·exact .inl l
  ·exact .inr ⟨k,c,e,cellK x c e _ z⟩
 ·obtain ⟨v,z⟩:=I.cell x c e
  exact ⟨v,cellK x c e v z⟩
 ·obtain ⟨m,⟨o,_,_,ho,_⟩,_⟩:=I.loc
  exact free _ o (fun z=>(hch _ z).2.1 rfl) ho I.free
 ·obtain ⟨v,o,ho,hd⟩:=I.cell x c e
  exact free c o (fun z=>(hch c z).2.2.1 x c e rfl) ho (I.freeC x c e)
 ·obtain ⟨e,n,ne,nf,d⟩:=I.pin p hp
  have nch:p.1 ∉ ch:=fun z=>(hch p.1 z).2.2.2 p hp rfl
  exact ⟨keep p.1 p.2 ne nf nch e n,free p.1 p.2 nch e n,ne,nf,d⟩
theorem Inv.un {t':Nat} (I:Inv X pins σ H s) (u:Un X.fs [] H H' s.heap h') (hok:HOk X.prog X.w H' h'):Inv X pins σ H' { s with heap:=h',toks:=t' }:=by
 obtain ⟨m,⟨o,es,ep,ho,r⟩,_⟩:=id I.loc
 obtain ⟨sl,hL⟩:=u.any ho I.free (by simp)
 exact I.step (g':=s.gens) (d':=s.drawn) (ch:=[]) (fun _ z=>nomatch z) (fun b o _ hb _ e n=>u.keep b o e n hb (by simp)) (fun b o _ hb _ e n=>u.slot b o e n hb (by simp)) (fun b o _ e n=>u.free b o e n (by simp)) (fun b o _ e=>u.there b o e (by simp)) u.tups u.frzs u.tbls (fun m' hm=>by
  obtain ⟨o',es',ep',ho',r'⟩:=hm
  rw [ho] at ho'; cases ho'
  exact ⟨_,es',ep',hL,r'⟩) hok I.bare
theorem Inv.call {g':Array GenState} {t':Nat} {d':Drawn} {ch:List Addr} (I:Inv X pins σ H s) (u:Un (frs X.stack) ch H H' s.heap h') (hok:HOk X.prog X.w H' h') (hg:AllBare g')
  (hch:∀ b ∈ ch,(b ∈ X.ex\/X.s₀.heap.objs.size<=b)/\b ≠ X.env.locals/\(∀ x c,X.env.cells.lookup x = some c->c ≠ b)/\∀ p ∈ X.pn ++ pins,p.1 ≠ b) :
  Inv X pins σ H' { s with heap:=h',gens:=g',drawn:=d',toks:=t' }:=by
 obtain ⟨m,⟨o,es,ep,ho,r⟩,_⟩:=id I.loc
 obtain ⟨sl,hL⟩:=u.any ho I.free fun z=>(hch _ z).2.1 rfl
 exact I.step (ch:=ch) hch (fun b o hL hb hc e n=>u.keep b o e n (fun z=>(List.mem_cons.mp (I.stkSub b z)).elim hL hb) hc) (fun b o _ _ hc e n=>u.any e n hc) (fun b o hc e n=>u.free b o e n hc) (fun b o hc e=>u.there b o e hc) u.tups u.frzs u.tbls (fun m' hm=>by
  obtain ⟨o',es',ep',ho',r'⟩:=hm
  rw [ho] at ho'; cases ho'
  exact ⟨_,es',ep',hL,r'⟩) hok hg
theorem Inv.turned {t':Nat} {it:Addr} (I:Inv X pins σ H s) (k:∀ b o,b ≠ it->s.heap.get? b = some o->h'.get? b = some o) (hn:H it = none) (hL:it ≠ X.env.locals)
  (h1:it ∈ X.ex\/X.s₀.heap.objs.size<=it) (h2:∀ x c,X.env.cells.lookup x = some c->c ≠ it) (h3:∀ p ∈ X.pn ++ pins,p.1 ≠ it):Inv X pins σ H { s with heap:=h',toks:=t' }:=by
 have nit:∀ b u,H b = some u->b ≠ it:=fun b u e z=>by rw [z,hn] at e; cases e
 refine I.step (g':=s.gens) (d':=s.drawn) (ch:=[it]) (fun b hb=>?_) (fun b o _ _ hc e _=>k b o (fun z=>hc (by simp [z])) e) (fun b o _ _ hc e _=>⟨o.slots,k b o (fun z=>hc (by simp [z])) e⟩) (fun _ _ _ _ n=>n)
  (fun b o hc e=>⟨o,k b o (fun z=>hc (by simp [z])) e⟩) (fun _ _ e=>e) (fun _ _ _ e=>e) (fun b ps e=>⟨#[],by rw [e]; simp⟩) (fun m hm=>?_) (fun b u e=>?_) I.bare
 ·have e:b = it:=by simpa using hb
  subst e
  exact ⟨h1,hL,h2,h3⟩
 ·obtain ⟨o,es,ep,ho,r⟩:=hm
  exact ⟨o,es,ep,k _ o (Ne.symm hL) ho,r⟩
 ·refine (I.hok b u e).stay (fun c v hc q=>k c v ?_ q) (fun _ q=>q) fun _ _ q=>q
  rcases hc with z | z
  ·rw [z]; exact nit b u e
  ·exact nit c _ z
theorem Inv.tok (I:Inv X pins σ H s) (t:Nat):Inv X pins σ H { s with toks:=t }:=I.un (h':=s.heap) (t':=t) Un.refl I.hok
theorem Inv.kept {t':Nat} (I:Inv X pins σ H s) (k:∀ b u,s.heap.get? b = some u->h'.get? b = some u):Inv X pins σ H { s with heap:=h',toks:=t' }:=I.un (Un.kept k) (I.hok.kept k)
theorem Inv.laid {a:Addr} {o:HO} {t':Nat} (I:Inv X pins σ H s) (k:∀ b u,s.heap.get? b = some u->h'.get? b = some u) (hp:s.heap.objs.size<=a) (new:ObjOk X.prog X.w (upd H a o) h' a o) :
  Inv X pins σ (upd H a o) { s with heap:=h',toks:=t' }:=I.un (Un.laid k hp (I.hok.fresh hp)) (I.hok.laid k hp new)
theorem Inv.write {x e:Addr} {o:HO} {t':Nat} (I:Inv X pins σ H s) (mu:Mut (H x)) (he:e = x\/H e = some (.own x)) (k:∀ b u,b ≠ e->s.heap.get? b = some u->h'.get? b = some u) (heo:∃ u,h'.get? e = some u)
  (new:ObjOk X.prog X.w (upd H x o) h' x o):Inv X pins σ (upd H x o) { s with heap:=h',toks:=t' }:=I.un (Un.write mu he k heo) (I.hok.write mu he k heo new)
theorem Inv.weak {σ':List (Option V)} (I:Inv X pins σ H s) (hl : σ'.length = σ.length) (w:∀ (i:Nat) v,σ'[i]? = some (some v)->σ[i]? = some (some v)):Inv X pins σ' H s:=
 ⟨I.ok,I.os,I.bare,I.base,let ⟨m,hn,hl'⟩:=I.loc; ⟨m,hn,fun i x v e1 e2 e3=>hl' i x v e1 (w i v e2) e3⟩,I.cell,I.free,I.freeC,I.pin,I.hok,hl.trans I.len⟩
theorem Inv.pins_of {pins':List (Addr × Obj)} (I:Inv X pins σ H s) (h:∀ p ∈ pins',s.heap.get? p.1 = some p.2/\H p.1 = none/\p.1 ≠ X.env.locals/\p.1 ∉ X.fs/\∀ v,p.2.data ≠ .cell v):Inv X pins' σ H s:=
 ⟨I.ok,I.os,I.bare,I.base,I.loc,I.cell,I.free,I.freeC,fun p hp=>(List.mem_append.mp hp).elim (fun z=>I.pin p (List.mem_append_left _ z)) (h p),I.hok,I.len⟩
theorem nodup_ix {N:List Str} (hN:N.Nodup) {i j:Nat} {x:Str} (a:N[i]? = some x) (b:N[j]? = some x):i = j:=by
 obtain ⟨h1,e1⟩:=List.getElem?_eq_some_iff.mp a
 obtain ⟨h2,e2⟩:=List.getElem?_eq_some_iff.mp b
 exact (List.getElem_inj hN).mp (e1.trans e2.symm)
theorem store_ok2 {M:Model} {A:Around} {E:Value->Shared->Prop} {i:Nat} {x:Str} {v:V} {u:Value} {Q:Unit->Shared->Prop} (I:Inv X pins σ H s) (hN:X.N.Nodup) (hi:X.N[i]? = some x) (hx:Loc X.env.scope x) (r:RelV v u)
  (h:∀ s',Inv X pins (σ.set i (some v)) H s'->(∃ a,Heap.SameBut a s.heap s'.heap/\(a = X.env.locals\/X.env.cells.lookup x = some a))->Q () s') (hf:X.fn x = true\/X.env.scope.names.lookup x = some .local:=by first | exact .inl rfl | exact .inr rfl | assumption):wpAny M A (storeName X.env x u) Q E s:=by
 obtain ⟨m,hn,hl⟩:=id I.loc
 have hcls:(X.env.scope.kind == .class || (X.env.scope.kind == .module && X.env.locals != X.env.globals)) = false:=by rw [I.ok.kind]; rfl
 have hiσ : i < σ.length:=by rw [I.len]; exact (List.getElem?_eq_some_iff.mp hi).1
 have cne:=I.cne
 have tracked:∀ {a:Addr} {h':Heap},(∃ o,s.heap.get? a = some o/\H a = none)->Heap.SameBut a s.heap h'->HOk X.prog X.w H h':=fun {a h'} ha hs b ob e=>by
  obtain ⟨_,_,hfree⟩:=ha
  refine (I.hok b ob e).stay (fun c w' hc q=>(hs.2 c ?_).trans q) (fun _ q=>q) fun _ _ q=>q
  rintro rfl
  rcases hc with rfl | hc
  ·rw [hfree] at e; cases e
  ·rw [hfree] at hc; cases hc
 rcases hx with hk | hk
 ·refine wpAny_storeName_local hk hn (fun h' hn' hs=>?_) hcls
  obtain ⟨oL,_,_,hoL,_⟩:=id hn
  refine h _ ⟨I.ok,I.os,I.bare,⟨fun b o e n hb hx=>?_,fun b o e n hb hx=>?_,I.base.free,fun b o e hx=>?_,I.base.tups,I.base.frzs,I.base.tbls⟩,⟨_,hn',fun j y v' e1 e2 e3=>?_⟩,fun y c e=>?_,I.free,I.freeC,fun p hp=>?_,tracked ⟨oL,hoL,I.free⟩ hs,by simpa using I.len⟩ ⟨_,hs,.inl rfl⟩
  ·exact (hs.2 b (Nat.ne_of_lt (Nat.lt_of_lt_of_le (Heap.lt_size e) I.ok.above))).trans (I.base.keep b o e n hb hx)
  ·obtain ⟨sl,e1⟩:=I.base.slot b o e n hb hx
   exact ⟨sl,(hs.2 b (Nat.ne_of_lt (Nat.lt_of_lt_of_le (Heap.lt_size e) I.ok.above))).trans e1⟩
  ·obtain ⟨o',e1⟩:=I.base.there b o e hx
   exact ⟨o',(hs.2 b (Nat.ne_of_lt (Nat.lt_of_lt_of_le (Heap.lt_size e) I.ok.above))).trans e1⟩
  ·by_cases hj:j = i
   ·subst hj
    rw [hi] at e1; cases e1
    rw [List.getElem?_set_self hiσ] at e2
    cases e2
    exact ⟨u,r,.inl ⟨hk,by simp⟩⟩
   ·rw [List.getElem?_set_ne (Ne.symm hj)] at e2
    obtain ⟨u',r',q⟩:=hl j y v' e1 e2 e3
    refine ⟨u',r',?_⟩
    rcases q with ⟨k,e⟩ | ⟨k,c,e,z⟩
    ·refine .inl ⟨k,?_⟩
     have:y ≠ x:=fun e=>hj (nodup_ix hN e1 (e ▸ hi))
     simp [this,e]
    ·exact .inr ⟨k,c,e,z.sameBut hs (cne y c e)⟩
  ·obtain ⟨w',z⟩:=I.cell y c e
   exact ⟨w',z.sameBut hs (cne y c e)⟩
  ·obtain ⟨e,n,ne,nf,d⟩:=I.pin p hp
   exact ⟨(hs.2 p.1 ne).trans e,n,ne,nf,d⟩
 ·have hfn:X.fn x = true:=by
   rcases hf with z | z
   ·exact z
   ·rw [z] at hk; cases hk
  obtain ⟨c,hc⟩:=I.ok.has x (.inl hk)
  obtain ⟨w',z⟩:=I.cell x c hc
  refine wpAny_storeName_cell I.ok.kind hk hc z (fun h' hc' hs=>?_)
  obtain ⟨oc,hoc,hocd⟩:=id z
  refine h { s with heap:=h' } ⟨I.ok,I.os,I.bare,⟨fun b o e n hb hx=>?_,fun b o e n hb hx=>?_,I.base.free,fun b o e hx=>?_,I.base.tups,I.base.frzs,I.base.tbls⟩,⟨m,hn.sameBut hs (Ne.symm (cne x c hc)),fun j y v' e1 e2 e3=>?_⟩,fun y c' e=>?_,I.free,I.freeC,fun p hp=>?_,tracked ⟨oc,hoc,I.freeC x c hc⟩ hs,by simpa using I.len⟩ ⟨c,hs,.inr hc⟩
  ·exact (hs.2 b (Nat.ne_of_lt (Nat.lt_of_lt_of_le (Heap.lt_size e) (I.ok.cab x c hfn hc)))).trans (I.base.keep b o e n hb hx)
  ·obtain ⟨sl,e1⟩:=I.base.slot b o e n hb hx
   exact ⟨sl,(hs.2 b (Nat.ne_of_lt (Nat.lt_of_lt_of_le (Heap.lt_size e) (I.ok.cab x c hfn hc)))).trans e1⟩
  ·obtain ⟨o',e1⟩:=I.base.there b o e hx
   exact ⟨o',(hs.2 b (Nat.ne_of_lt (Nat.lt_of_lt_of_le (Heap.lt_size e) (I.ok.cab x c hfn hc)))).trans e1⟩
  ·by_cases hj:j = i
   ·subst hj
    rw [hi] at e1; cases e1
    rw [List.getElem?_set_self hiσ] at e2
    cases e2
    exact ⟨u,r,.inr ⟨.inl hk,c,hc,hc'⟩⟩
   ·rw [List.getElem?_set_ne (Ne.symm hj)] at e2
    obtain ⟨u',r',q⟩:=hl j y v' e1 e2 e3
    refine ⟨u',r',?_⟩
    rcases q with q | ⟨k,c',e,z'⟩
    ·exact .inl q
    ·refine .inr ⟨k,c',e,z'.sameBut hs ?_⟩
     rintro rfl
     exact hj (nodup_ix hN e1 (I.ok.inj _ _ _ e hc ▸ hi))
  ·by_cases hcc:c' = c
   ·subst hcc; exact ⟨_,hc'⟩
   ·obtain ⟨w2,z2⟩:=I.cell y c' e
    exact ⟨w2,z2.sameBut hs hcc⟩
  ·obtain ⟨e,n,ne,nf,d⟩:=I.pin p hp
   refine ⟨(hs.2 p.1 ?_).trans e,n,ne,nf,d⟩
   intro q
   rw [q,hoc] at e
   have q':oc = p.2:=Option.some.inj e
   exact d w' (by rw [<- q']; exact hocd)
theorem store_ok {M:Model} {A:Around} {E:Value->Shared->Prop} {i:Nat} {x:Str} {v:V} {u:Value} {Q:Unit->Shared->Prop} (I:Inv X pins σ H s) (hN:X.N.Nodup) (hi:X.N[i]? = some x) (hx:Loc X.env.scope x) (r:RelV v u)
  (h:∀ s',Inv X pins (σ.set i (some v)) H s'->Q () s') (hf:X.fn x = true\/X.env.scope.names.lookup x = some .local:=by first | exact .inl rfl | exact .inr rfl | assumption):wpAny M A (storeName X.env x u) Q E s:=
 store_ok2 I hN hi hx r (fun s' I' _=>h s' I') hf
theorem Inv.call' {s':Shared} {ch:List Addr} (I:Inv X pins σ H s) (ho:s'.os = s.os) (u:Un (frs X.stack) ch H H' s.heap s'.heap) (hok:HOk X.prog X.w H' s'.heap) (hg:AllBare s'.gens)
  (hch:∀ b ∈ ch,(b ∈ X.ex\/X.s₀.heap.objs.size<=b)/\b ≠ X.env.locals/\(∀ x c,X.env.cells.lookup x = some c->c ≠ b)/\∀ p ∈ X.pn ++ pins,p.1 ≠ b):Inv X pins σ H' s':=by
 obtain ⟨h',g',d',t',o'⟩:=s'
 have e:o' = s.os:=ho
 subst e
 exact I.call (g':=g') (t':=t') (d':=d') u hok hg hch
end
abbrev XK:=Value->Option Addr->Hp->Prop
abbrev St:=List (Option V)
abbrev VK:=V->Hp->Prop
abbrev TE:=St->Hp->VK->Prop
abbrev TT:=St->Hp->(Bool->Hp->Prop)->Prop
abbrev TA:=St->Hp->(List V->Hp->Prop)->Prop
structure Ends where
 nx:St->Hp->Prop
 rt:VK
 bk:St->Hp->Prop:=fun _ _=>False
 ct:St->Hp->Prop:=fun _ _=>False
abbrev TS:=Ends->St->Hp->Prop
def EP (X:Cx) (pins:List (Addr × Obj)) (σ : St) (Q:VK) (u:Value) (s':Shared):Prop:=∃ v H',Inv X pins σ H' s'/\RelV v u/\Q v H'
def TP (X:Cx) (pins:List (Addr × Obj)) (σ : St) (Q:Bool->Hp->Prop) (b:Bool) (s':Shared):Prop:=∃ H',Inv X pins σ H' s'/\Q b H'
def AP (X:Cx) (pins:List (Addr × Obj)) (σ : St) (Q:List V->Hp->Prop) (us:List Value) (s':Shared):Prop:=∃ vs H',Inv X pins σ H' s'/\Vals vs us/\Q vs H'
def SP (X:Cx) (pins:List (Addr × Obj)) (D:Ends) (f:Flow) (s':Shared):Prop:=
 match f with
 | .next=>∃ σ' H',Inv X pins σ' H' s'/\D.nx σ' H'
 | .brk=>∃ σ' H',Inv X pins σ' H' s'/\D.bk σ' H'
 | .cont=>∃ σ' H',Inv X pins σ' H' s'/\D.ct σ' H'
 | .ret u=>∃ v σ' H',Inv X pins σ' H' s'/\RelV v u/\D.rt v H'
structure PE (X:Cx) (e:Expr) (t:TE):Prop where
 run:∀ (pins:List (Addr × Obj)) (s:Shared) (σ : St) (H:Hp) (Q:VK),Inv X pins σ H s->t σ H Q->wpAny (model X.prog X.w) X.A (eval e X.env) (EP X pins σ Q) X.xe s
instance {X:Cx} {e:Expr} {t:TE}:CoeFun (PE X e t) (fun _=>∀ (pins:List (Addr × Obj)) (s:Shared) (σ : St) (H:Hp) (Q:VK),Inv X pins σ H s->t σ H Q->wpAny (model X.prog X.w) X.A (eval e X.env) (EP X pins σ Q) X.xe s):=⟨PE.run⟩
structure PT (X:Cx) (e:Expr) (t:TT):Prop where
 run:∀ (pins:List (Addr × Obj)) (s:Shared) (σ : St) (H:Hp) (Q:Bool->Hp->Prop),Inv X pins σ H s->t σ H Q->wpAny (model X.prog X.w) X.A (isTrue e X.env (eval e X.env)) (TP X pins σ Q) X.xe s
instance {X:Cx} {e:Expr} {t:TT}:CoeFun (PT X e t) (fun _=>∀ (pins:List (Addr × Obj)) (s:Shared) (σ : St) (H:Hp) (Q:Bool->Hp->Prop),Inv X pins σ H s->t σ H Q->wpAny (model X.prog X.w) X.A (isTrue e X.env (eval e X.env)) (TP X pins σ Q) X.xe s):=⟨PT.run⟩
structure PW (X:Cx) (e:Expr) (t:TT):Prop where
 run:∀ (whole:Sem Value) (pins:List (Addr × Obj)) (s:Shared) (σ : St) (H:Hp) (Q:Bool->Hp->Prop),Inv X pins σ H s->t σ H Q->wpAny (model X.prog X.w) X.A (isTrue e X.env whole) (TP X pins σ Q) X.xe s
instance {X:Cx} {e:Expr} {t:TT}:CoeFun (PW X e t) (fun _=>∀ (whole:Sem Value) (pins:List (Addr × Obj)) (s:Shared) (σ : St) (H:Hp) (Q:Bool->Hp->Prop),Inv X pins σ H s->t σ H Q->wpAny (model X.prog X.w) X.A (isTrue e X.env whole) (TP X pins σ Q) X.xe s):=⟨PW.run⟩
theorem PW.pt {X:Cx} {e:Expr} {t:TT} (h:PW X e t):PT X e t:=⟨h _⟩
structure PA (X:Cx) (es:List Expr) (t:TA):Prop where
 run:∀ (pos:Pos) (pins:List (Addr × Obj)) (s:Shared) (σ : St) (H:Hp) (Q:List V->Hp->Prop),Inv X pins σ H s->t σ H Q->wpAny (model X.prog X.w) X.A (spliced (backTo pos (starEach es X.env))) (AP X pins σ Q) X.xe s
instance {X:Cx} {es:List Expr} {t:TA}:CoeFun (PA X es t) (fun _=>∀ (pos:Pos) (pins:List (Addr × Obj)) (s:Shared) (σ : St) (H:Hp) (Q:List V->Hp->Prop),Inv X pins σ H s->t σ H Q->wpAny (model X.prog X.w) X.A (spliced (backTo pos (starEach es X.env))) (AP X pins σ Q) X.xe s):=⟨PA.run⟩
structure PS (X:Cx) (st:Stmt) (t:TS):Prop where
 run:∀ (pins:List (Addr × Obj)) (s:Shared) (σ : St) (H:Hp) (D:Ends),Inv X pins σ H s->t D σ H->wpAny (model X.prog X.w) X.A (exec st X.env) (SP X pins D) X.xe s
instance {X:Cx} {st:Stmt} {t:TS}:CoeFun (PS X st t) (fun _=>∀ (pins:List (Addr × Obj)) (s:Shared) (σ : St) (H:Hp) (D:Ends),Inv X pins σ H s->t D σ H->wpAny (model X.prog X.w) X.A (exec st X.env) (SP X pins D) X.xe s):=⟨PS.run⟩
structure PSs (X:Cx) (st:List Stmt) (t:TS):Prop where
 run:∀ (pins:List (Addr × Obj)) (s:Shared) (σ : St) (H:Hp) (D:Ends),Inv X pins σ H s->t D σ H->wpAny (model X.prog X.w) X.A (execs st X.env) (SP X pins D) X.xe s
instance {X:Cx} {st:List Stmt} {t:TS}:CoeFun (PSs X st t) (fun _=>∀ (pins:List (Addr × Obj)) (s:Shared) (σ : St) (H:Hp) (D:Ends),Inv X pins σ H s->t D σ H->wpAny (model X.prog X.w) X.A (execs st X.env) (SP X pins D) X.xe s):=⟨PSs.run⟩
theorem thn {α : Type} {t:Sem α} {Q Q' : α->Shared->Prop} {M:Model} {A:Around} {E:Value->Shared->Prop} {s:Shared} (h:wpAny M A t Q E s) (hQ:∀ a s,Q a s->Q' a s):wpAny M A t Q' E s:=wpAny_mono h hQ fun _ _ x=>x
section
variable {X:Cx}
theorem bin {a b:Expr} {ta tb:TE} (ha:PE X a ta) (hb:PE X b tb) {pins:List (Addr × Obj)} {s:Shared} {σ : St} {H:Hp} {R:V->V->Hp->Prop} (I:Inv X pins σ H s) (h:ta σ H fun x H1=>tb σ H1 fun y H2=>R x y H2)
  {α : Type} {Q : α->Shared->Prop} {f:Value->Value->Sem α}
  (hf:∀ v u s2 x y H2,Inv X pins σ H2 s2->RelV x v->RelV y u->R x y H2->wpAny (model X.prog X.w) X.A (f v u) Q X.xe s2) :
  wpAny (model X.prog X.w) X.A (eval a X.env) (fun v s₁=>wpAny (model X.prog X.w) X.A (eval b X.env) (fun u s₂=>wpAny (model X.prog X.w) X.A (f v u) Q X.xe s₂) X.xe s₁) X.xe s:=by
 refine thn (ha pins s σ H _ I h) fun v s1 ⟨x,H1,I1,r1,q1⟩=>?_
 refine thn (hb pins s1 σ H1 _ I1 q1) fun u s2 ⟨y,H2,I2,r2,q2⟩=>?_
 exact hf v u s2 x y H2 I2 r1 r2 q2
inductive IVar (i:Nat) (σ : St) (H:Hp) (Q:VK):Prop where
 | mk (v:V) (e : σ[i]? = some (some v)) (q:Q v H)
def tVar (i:Nat):TE:=fun σ H Q=>IVar i σ H Q
def tC (v:V):TE:=fun _ H Q=>Q v H
theorem pe_var {i:Nat} {x:Str} {pos:Pos} (hN:X.N[i]? = some x) (hv:Vis X.env.scope x) (hd:(x == ("__debug__" : Str)) = false:=by decide) (hcd:(x == ("__classdict__" : Str)) = false:=by decide):PE X (.Name x pos) (tVar i):=by
 refine ⟨?_⟩
 intro pins s σ H Q I h
 obtain ⟨v,e,h⟩:=h
 obtain ⟨m,hn,hl⟩:=I.loc
 obtain ⟨u,r,l⟩:=hl i x v hN e hv
 have fin:EP X pins σ Q u s:=⟨v,H,I,r,h⟩
 rcases l with ⟨hk,hm⟩ | ⟨hk,c,hc,hcell⟩
 ·exact wpAny_Name (wpAny_loadName_local I.ok.kind hk hn hm fin) hd
 ·rcases hk with hk | hk
  ·exact wpAny_Name (wpAny_loadName_cell I.ok.kind hk hc hcell fin) hd
  ·exact wpAny_Name (wpAny_loadName_free I.ok.kind hk hc hcell fin hcd) hd
theorem pe_int {i j pos}:PE X (.Constant (.int i) j pos) (tC (.int i)):=⟨fun _ _ _ H _ I h=>wpAny_Constant_int ⟨.int i,H,I.tok _,⟨_,rfl⟩,h⟩⟩
theorem pe_bl {b j pos}:PE X (.Constant (.bool b) j pos) (tC (.bl b)):=⟨fun _ _ _ H _ I h=>Constant_bool ⟨.bl b,H,I,rfl,h⟩⟩
theorem pe_non {j pos}:PE X (.Constant .none j pos) (tC .non):=⟨fun _ _ _ H _ I h=>Constant_none ⟨.non,H,I,rfl,h⟩⟩
theorem pe_str {x j pos}:PE X (.Constant (.str x) j pos) (tC (.str x)):=⟨fun _ _ _ H _ I h=>Calls.Constant_str ⟨.str x,H,I.tok _,⟨_,rfl⟩,h⟩⟩
def Gl (X:Cx) (x:Str):Prop:=X.env.kindOf x = some .globalImplicit
theorem ld_glob {E:Value->Shared->Prop} {pins:List (Addr × Obj)} {s:Shared} {σ : St} {H:Hp} {x:Str} {u:Value} {pos:Pos} {Q:Value->Shared->Prop} (I:Inv X pins σ H s) (hg:Gl X x) (hm:X.mg x = some u) (h:Q u s)
  (hd:(x == ("__debug__" : Str)) = false:=by decide):wpAny (model X.prog X.w) X.A (eval (.Name x pos) X.env) Q E s:=
 Calls.Name_function_global I.ok.kind hg (Calls.loadGlobal_global (by rw [I.ok.glob]; exact I.mod.glob.keeps I.bk) hm h) hd
theorem ld_blt {E:Value->Shared->Prop} {pins:List (Addr × Obj)} {s:Shared} {σ : St} {H:Hp} {x:Str} {u:Value} {pos:Pos} {Q:Value->Shared->Prop} (I:Inv X pins σ H s) (hg:Gl X x) (hm:X.mg x = none) (hv:bootBuiltins x = some u) (h:Q u s)
  (hn:x ≠ "__name__":=by decide) (hd:(x == ("__debug__" : Str)) = false:=by decide):wpAny (model X.prog X.w) X.A (eval (.Name x pos) X.env) Q E s:=by
 obtain ⟨mb,h1,h2⟩:=I.mod.blt
 exact Calls.Name_function_global I.ok.kind hg (Calls.loadGlobal_builtin (by rw [I.ok.glob]; exact I.mod.glob.keeps I.bk) hm (by rw [I.ok.blt]; exact h1.keeps I.bk) ((h2 x hn).trans hv) h) hd
theorem pe_glob {x:Str} {v:V} {u:Value} {pos:Pos} (hg:Gl X x) (hm:X.mg x = some u) (r:RelV v u) (hd:(x == ("__debug__" : Str)) = false:=by decide):PE X (.Name x pos) (tC v):=⟨fun _ _ _ H _ I h=>ld_glob I hg hm ⟨v,H,I,r,h⟩ hd⟩
theorem pe_bltn {x:Str} {v:V} {u:Value} {pos:Pos} (hg:Gl X x) (hm:X.mg x = none) (hv:bootBuiltins x = some u) (r:RelV v u) (hn:x ≠ "__name__":=by decide) (hd:(x == ("__debug__" : Str)) = false:=by decide):PE X (.Name x pos) (tC v):=⟨fun _ _ _ H _ I h=>ld_blt I hg hm hv ⟨v,H,I,r,h⟩ hn hd⟩
variable {a b:Expr} {ta tb:TE} {pos:Pos}
structure PC (X:Cx) (op:CmpOp) (a b:Expr) (t:TE):Prop where
 run:∀ (pins:List (Addr × Obj)) (s:Shared) (σ : St) (H:Hp) (Q:VK),Inv X pins σ H s->t σ H Q->
  wpAny (model X.prog X.w) X.A (eval a X.env) (fun v s₁=>wpAny (model X.prog X.w) X.A (eval b X.env) (fun u s₂=>wpAny (model X.prog X.w) X.A (compareOp op v u) (EP X pins σ Q) X.xe s₂) X.xe s₁) X.xe s
instance {X:Cx} {op:CmpOp} {a b:Expr} {t:TE}:CoeFun (PC X op a b t) (fun _=>∀ (pins:List (Addr × Obj)) (s:Shared) (σ : St) (H:Hp) (Q:VK),Inv X pins σ H s->t σ H Q->
  wpAny (model X.prog X.w) X.A (eval a X.env) (fun v s₁=>wpAny (model X.prog X.w) X.A (eval b X.env) (fun u s₂=>wpAny (model X.prog X.w) X.A (compareOp op v u) (EP X pins σ Q) X.xe s₂) X.xe s₁) X.xe s):=⟨PC.run⟩
theorem nobehind (b:Expr) {op:CmpOp} (h:op ≠ .In) (h2:op ≠ .NotIn):behindInMarks op b = false:=by
 have e1:(op == CmpOp.In) = false:=by cases op <;> first | rfl | exact absurd rfl h
 have e2:(op == CmpOp.NotIn) = false:=by cases op <;> first | rfl | exact absurd rfl h2
 cases b <;> simp [behindInMarks,e1,e2]
def tIsN (ta:TE):TE:=fun σ H Q=>ta σ H fun x H1=>Q (.bl (decide (x = .non))) H1
def tNotN (ta:TE):TE:=fun σ H Q=>ta σ H fun x H1=>Q (.bl (!decide (x = .non))) H1
theorem RelV.none_iff {x:V} {v:Value} (r:RelV x v):(v == Value.none) = decide (x = .non):=by
 cases x with
 | non=>cases r; rfl
 | bl _=>cases r; rfl
 | int _=>obtain ⟨t,rfl⟩:=r; rfl
 | str _=>obtain ⟨t,rfl⟩:=r; rfl
 | byt _=>obtain ⟨t,rfl⟩:=r; rfl
 | flt _=>obtain ⟨t,rfl⟩:=r; rfl
 | ref _=>cases r; rfl
 | ty _=>cases r; rfl
theorem pc_isN {j pos'} (ha:PE X a ta):PC X .Is a (.Constant .none j pos') (tIsN ta):=by
 refine ⟨?_⟩
 intro pins s σ H Q I h
 refine thn (ha pins s σ H _ I h) fun v s1 ⟨x,H1,I1,r1,q1⟩=>?_
 exact Constant_none (is_none_gen ⟨.bl _,H1,I1,by rw [r1.none_iff]; rfl,q1⟩)
theorem pc_notN {j pos'} (ha:PE X a ta):PC X .IsNot a (.Constant .none j pos') (tNotN ta):=by
 refine ⟨?_⟩
 intro pins s σ H Q I h
 refine thn (ha pins s σ H _ I h) fun v s1 ⟨x,H1,I1,r1,q1⟩=>?_
 exact Constant_none (isnot_none_gen ⟨.bl _,H1,I1,by rw [r1.none_iff]; rfl,q1⟩)
def tB (t:TE):TT:=fun σ H Q=>t σ H fun x H1=>∃ c,x = .bl c/\Q c H1
theorem pt_cmp {op:CmpOp} {t:TE} (h:PC X op a b t) (h1:behindInMarks op b = false:=by first | exact nobehind _ (by decide) (by decide) | rfl):PT X (.Compare a [op] [b] pos) (tB t):=by
 refine ⟨?_⟩
 intro pins s σ H Q I hw
 refine wpAny_isTrue_Compare1 (thn (h pins s σ H _ I hw) fun v s1 h1=>thn h1 fun u s2 h2=>thn h2 fun c s3 ⟨x,H1,I1,r1,q1⟩=>?_) h1
 obtain ⟨d,rfl,q⟩:=q1
 cases r1
 exact wpAny_truthy_bool ⟨H1,I1,q⟩
theorem pt_val {e:Expr} {t:TE} (h:PE X e t) (he:∀ whole,isTrue e X.env whole = (do let v <- whole; standAt e.pos; holding [v] (truthy v)):=by intro _; rfl):PT X e (tB t):=by
 refine ⟨?_⟩
 intro pins s σ H Q I hw
 refine isTrue_plain (thn (h pins s σ H _ I hw) fun v s1 ⟨x,H1,I1,r1,q1⟩=>?_) (he _)
 obtain ⟨d,rfl,q⟩:=q1
 cases r1
 exact wpAny_truthy_bool ⟨H1,I1,q⟩
variable {tA tB':TT} {rest:List Expr}
def tAnd (t u:TT):TT:=fun σ H Q=>t σ H fun c H1=>if c = true then u σ H1 Q else Q false H1
def tOr (t u:TT):TT:=fun σ H Q=>t σ H fun c H1=>if c = true then Q true H1 else u σ H1 Q
def tNot (t:TT):TT:=fun σ H Q=>t σ H fun c H1=>Q (!c) H1
theorem pw_and1 (ha:PT X a tA):PW X (.BoolOp .And [a] pos) tA:=by
 refine ⟨?_⟩
 intro wh pins s σ H Q I h
 refine isTrue_and (thn (ha pins s σ H Q I h) fun c s1 e=>?_)
 cases c with
 | true=>exact isTrue_and_nil e
 | false=>exact e
theorem pw_or1 (ha:PT X a tA):PW X (.BoolOp .Or [a] pos) tA:=by
 refine ⟨?_⟩
 intro wh pins s σ H Q I h
 refine isTrue_or (thn (ha pins s σ H Q I h) fun c s1 e=>?_)
 cases c with
 | false=>exact isTrue_or_nil e
 | true=>exact e
theorem pw_and (ha:PT X a tA) (hb:PW X (.BoolOp .And (b :: rest) pos) tB'):PW X (.BoolOp .And (a :: b :: rest) pos) (tAnd tA tB'):=by
 refine ⟨?_⟩
 intro wh pins s σ H Q I h
 refine isTrue_and (thn (ha pins s σ H _ I h) fun c s1 ⟨H1,I1,q1⟩=>?_)
 cases c with
 | true=>exact hb wh pins s1 σ H1 Q I1 q1
 | false=>exact ⟨H1,I1,q1⟩
theorem pw_or (ha:PT X a tA) (hb:PW X (.BoolOp .Or (b :: rest) pos) tB'):PW X (.BoolOp .Or (a :: b :: rest) pos) (tOr tA tB'):=by
 refine ⟨?_⟩
 intro wh pins s σ H Q I h
 refine isTrue_or (thn (ha pins s σ H _ I h) fun c s1 ⟨H1,I1,q1⟩=>?_)
 cases c with
 | true=>exact ⟨H1,I1,q1⟩
 | false=>exact hb wh pins s1 σ H1 Q I1 q1
theorem pt_not (ha:PT X a tA):PT X (.UnaryOp .Not a pos) (tNot tA):=by
 refine ⟨?_⟩
 intro pins s σ H Q I h
 exact isTrue_not (ha pins s σ H (fun c H1=>Q (!c) H1) I h)
def tAndV (ta tb:TE):TE:=fun σ H Q=>ta σ H fun x H1=>∃ c,x = .bl c/\if c = true then tb σ H1 Q else Q (.bl false) H1
theorem pe_one {op} {t:TE} (h:PE X a t):PE X (.BoolOp op [a] pos) t:=⟨fun pins s σ H Q I hw=>BoolOp_one (h pins s σ H Q I hw)⟩
theorem pe_and (ha:PE X a ta) (hb:PE X (.BoolOp .And (b :: rest) pos) tb):PE X (.BoolOp .And (a :: b :: rest) pos) (tAndV ta tb):=by
 refine ⟨?_⟩
 intro pins s σ H Q I h
 refine BoolOp_and (thn (ha pins s σ H _ I h) fun v s1 ⟨x,H1,I1,r1,q1⟩=>?_)
 obtain ⟨c,rfl,q1⟩:=q1
 cases r1
 refine wpAny_truthy_bool ?_
 cases c with
 | true=>exact hb pins s1 σ H1 Q I1 q1
 | false=>exact ⟨.bl false,H1,I1,rfl,q1⟩
def tIf (t:TT) (ta tb:TE):TE:=fun σ H Q=>t σ H fun c H1=>if c = true then ta σ H1 Q else tb σ H1 Q
theorem pe_ifExp {c:Expr} (hc:PT X c tA) (ha:PE X a ta) (hb:PE X b tb):PE X (.IfExp c a b pos) (tIf tA ta tb):=by
 refine ⟨?_⟩
 intro pins s σ H Q I h
 refine wpAny_IfExp (thn (hc pins s σ H _ I h) fun d s1 ⟨H1,I1,q1⟩=>?_)
 cases d with
 | true=>exact ha pins s1 σ H1 Q I1 q1
 | false=>exact hb pins s1 σ H1 Q I1 q1
end
def SqL (K:PySem.W.Frag) (H:Hp) (a:Addr) (xs:List V):Prop:=
 Rd H a (.lst xs)\/
  ∃ (o:Obj) (its:Array Value) (n:Nat),K.lookup a = some o/\o.cls = .type "list"/\o.dict = none/\o.data = .seq its n/\its.size<=sizeLine/\Vals xs its.toList
def SqT (K:PySem.W.Frag) (H:Hp) (a:Addr) (xs:List V):Prop:=
 Rd H a (.tup xs)\/
  ∃ (o:Obj) (its:Array Value) (n:Nat),K.lookup a = some o/\o.cls = .type "tuple"/\o.data = .seq its n/\its.size<=sizeLine/\Vals xs its.toList
def absV:Value->Option V
 | .none=>some .non
 | .bool b=>some (.bl b)
 | .int i _=>some (.int i)
 | .str x _=>some (.str x)
 | .bytes b _=>some (.byt b)
 | .float b _=>some (.flt b)
 | .ref a=>some (.ref a)
 | .type n=>some (.ty n)
 | _=>none
theorem RelV.abs {x:V} {u:Value} (r:RelV x u):absV u = some x:=by
 cases x with
 | non=>cases r; rfl
 | bl _=>cases r; rfl
 | int _=>obtain ⟨t,rfl⟩:=r; rfl
 | str _=>obtain ⟨t,rfl⟩:=r; rfl
 | byt _=>obtain ⟨t,rfl⟩:=r; rfl
 | flt _=>obtain ⟨t,rfl⟩:=r; rfl
 | ref _=>cases r; rfl
 | ty _=>cases r; rfl
theorem RelV.inj {x y:V} {u:Value} (r:RelV x u) (q:RelV y u):x = y:=Option.some.inj (r.abs.symm.trans q.abs)
theorem Vals.inj:∀ {xs ys:List V} {us:List Value},Vals xs us->Vals ys us->xs = ys
 | _,_,_,.nil,.nil=>rfl
 | _,_,_,.cons r t,.cons r' t'=>by rw [r.inj r',Vals.inj t t']
section
variable {X:Cx} {pins:List (Addr × Obj)} {σ : St} {H:Hp} {s:Shared} {a:Addr} {xs ys:List V}
theorem SqL.of {K:PySem.W.Frag} (h:H a = some (.lst xs)):SqL K H a xs:=.inl (.inl h)
theorem SqT.of {K:PySem.W.Frag} (h:H a = some (.tup xs)):SqT K H a xs:=.inl (.inl h)
theorem Inv.list (I:Inv X pins σ H s) (h:SqL X.K H a xs):∃ its:List Value,Vals xs its/\PlainL s.heap a its.toArray/\xs.length<=sizeLine:=by
 rcases h with h | ⟨o,its,n,hk,hc,hd,hs,hz,r⟩
 ·obtain ⟨z,its,n,r,e⟩:=h.ok I.hok
  exact ⟨its,r,⟨_,n,e,rfl,rfl,rfl⟩,z⟩
 ·refine ⟨its.toList,r,⟨o,n,I.kIn a o hk,hc,hd,by simpa using hs⟩,?_⟩
  have e:=r.length
  simp only [Array.length_toList] at e
  omega
theorem Inv.tuple (I:Inv X pins σ H s) (h:SqT X.K H a xs):∃ its:List Value,Vals xs its/\IsTup s.heap a its.toArray/\xs.length<=sizeLine:=by
 rcases h with h | ⟨o,its,n,hk,hc,hs,hz,r⟩
 ·obtain ⟨z,its,r,p⟩:=h.ok I.hok
  exact ⟨its,r,p,z⟩
 ·refine ⟨its.toList,r,⟨o,I.kIn a o hk,hc,n,by simpa using hs⟩,?_⟩
  have e:=r.length
  simp only [Array.length_toList] at e
  omega
theorem Inv.list_inj (I:Inv X pins σ H s) (h:SqL X.K H a xs) (h':SqL X.K H a ys):xs = ys:=by
 obtain ⟨its,r,⟨o,n,e,_,_,d⟩,_⟩:=I.list h
 obtain ⟨its',r',⟨o',n',e',_,_,d'⟩,_⟩:=I.list h'
 rw [e] at e'; cases e'
 rw [d] at d'
 injection d' with d1 _
 have:its = its':=by simpa using congrArg Array.toList d1
 subst this
 exact r.inj r'
theorem Inv.tuple_inj (I:Inv X pins σ H s) (h:SqT X.K H a xs) (h':SqT X.K H a ys):xs = ys:=by
 obtain ⟨its,r,⟨o,e,_,n,d⟩,_⟩:=I.tuple h
 obtain ⟨its',r',⟨o',e',_,n',d'⟩,_⟩:=I.tuple h'
 rw [e] at e'; cases e'
 rw [d] at d'
 injection d' with d1 _
 have:its = its':=by simpa using congrArg Array.toList d1
 subst this
 exact r.inj r'
end
abbrev Cx.wish (X:Cx) (E:Value->Shared->Prop):Cx:={ X with xe:=E }
abbrev Cx.nox (X:Cx):Cx:=X.wish fun _ _=>False
theorem Cx.Ok.wish {X:Cx} (ok:X.Ok) (E:Value->Shared->Prop):(X.wish E).Ok:=
 ⟨ok.mod,ok.kind,ok.glob,ok.blt,ok.above,ok.inj,ok.has,ok.cab,ok.hd,ok.frames,ok.stk,ok.exf,ok.bs,ok.bsz,ok.noex,ok.exfs,ok.funs,ok.frf⟩
theorem Cx.Ok.unwish {X:Cx} {E:Value->Shared->Prop} (ok:(X.wish E).Ok):X.Ok:=
 ⟨ok.mod,ok.kind,ok.glob,ok.blt,ok.above,ok.inj,ok.has,ok.cab,ok.hd,ok.frames,ok.stk,ok.exf,ok.bs,ok.bsz,ok.noex,ok.exfs,ok.funs,ok.frf⟩
section
variable {X:Cx} {pins:List (Addr × Obj)} {σ : St} {H:Hp} {s:Shared} {E:Value->Shared->Prop}
theorem Inv.wish (I:Inv X pins σ H s) (E:Value->Shared->Prop):Inv (X.wish E) pins σ H s:=⟨I.ok.wish E,I.os,I.bare,I.base,I.loc,I.cell,I.free,I.freeC,I.pin,I.hok,I.len⟩
theorem Inv.unwish (I:Inv (X.wish E) pins σ H s):Inv X pins σ H s:=⟨I.ok.unwish,I.os,I.bare,I.base,I.loc,I.cell,I.free,I.freeC,I.pin,I.hok,I.len⟩
theorem SP.unwish {D:Ends} {f:Flow} {s':Shared} (h:SP (X.wish E) pins D f s'):SP X pins D f s':=by
 cases f with
 | next=>obtain ⟨σ',H',I,q⟩:=h; exact ⟨σ',H',I.unwish,q⟩
 | brk=>obtain ⟨σ',H',I,q⟩:=h; exact ⟨σ',H',I.unwish,q⟩
 | cont=>obtain ⟨σ',H',I,q⟩:=h; exact ⟨σ',H',I.unwish,q⟩
 | ret u=>obtain ⟨v,σ',H',I,r,q⟩:=h; exact ⟨v,σ',H',I.unwish,r,q⟩
theorem PSs.nox {st:List Stmt} {t:TS} (h:PSs X.nox st t):PSs X st t:=⟨fun pins s σ H D I hw=>
 wpAny_mono (h pins s σ H D (I.wish _) hw) (fun _ _ q=>q.unwish) fun _ _ z=>False.elim z⟩
end
section
variable {X:Cx} {st:Stmt} {rest:List Stmt} {t u:TS} {e:Expr} {te:TE} {pos:Pos}
def tNext:TS:=fun D σ H=>D.nx σ H
def tSeq (t u:TS):TS:=fun D σ H=>t { D with nx:=u D } σ H
theorem pss_nil:PSs X [] tNext:=⟨fun _ _ σ H _ I h=>wpAny_execs_nil ⟨σ,H,I,h⟩⟩
theorem pss_cons (h1:PS X st t) (h2:PSs X rest u):PSs X (st :: rest) (tSeq t u):=by
 refine ⟨?_⟩
 intro pins s σ H D I h
 refine wpAny_execs_cons (thn (h1 pins s σ H { D with nx:=u D } I h) fun f s1 q=>?_)
 cases f with
 | next=>
  obtain ⟨σ',H',I',q⟩:=q
  exact h2 pins s1 σ' H' D I' q
 | ret v=>exact q
 | brk=>exact q
 | cont=>exact q
theorem pss_one (h1:PS X st t):PSs X [st] t:=by
 refine ⟨?_⟩
 intro pins s σ H D I h
 refine wpAny_execs_cons (thn (h1 pins s σ H D I h) fun f s1 q=>?_)
 cases f with
 | next=>exact wpAny_execs_nil q
 | ret v=>exact q
 | brk=>exact q
 | cont=>exact q
theorem Inv.quiet {pins:List (Addr × Obj)} {σ : St} {H:Hp} {s:Shared} (I:Inv X pins σ H s):interactive X.env = false:=by simp [interactive,I.ok.kind]
def tDrop (te:TE):TS:=fun D σ H=>te σ H fun _ H1=>D.nx σ H1
theorem ps_expr (he:PE X e te) (hs:swapsWith e none pos.line X.env = pure false:=by rfl):PS X (.Expr e pos) (tDrop te):=by
 refine ⟨?_⟩
 intro pins s σ H D I h
 exact wpAny_Expr_any (thn (he pins s σ H _ I h) fun v s1 ⟨x,H1,I1,r1,q1⟩=>⟨σ,H1,I1,q1⟩) I.quiet hs
def tRet (te:TE):TS:=fun D σ H=>te σ H D.rt
theorem ps_ret (he:PE X e te):PS X (.Return (some e) pos) (tRet te):=by
 refine ⟨?_⟩
 intro pins s σ H D I h
 exact wpAny_Return_some (thn (he pins s σ H _ I h) fun v s1 ⟨x,H1,I1,r1,q1⟩=>⟨x,σ,H1,I1,r1,q1⟩)
def tIfS (c:TT) (t u:TS):TS:=fun D σ H=>c σ H fun b H1=>if b = true then t D σ H1 else u D σ H1
theorem ps_if {c:Expr} {a b:List Stmt} {tc:TT} (hc:PT X c tc) (ha:PSs X a t) (hb:PSs X b u):PS X (.If c a b pos) (tIfS tc t u):=by
 refine ⟨?_⟩
 intro pins s σ H D I h
 refine wpAny_If (thn (hc pins s σ H _ I h) fun d s1 ⟨H1,I1,q1⟩=>?_)
 cases d with
 | true=>exact ha pins s1 σ H1 D I1 q1
 | false=>exact hb pins s1 σ H1 D I1 q1
end
abbrev TG:=V->St->Hp->(St->Hp->Prop)->Prop
abbrev TGs:=List V->St->Hp->(St->Hp->Prop)->Prop
structure PG (X:Cx) (target:Expr) (t:TG):Prop where
 run:∀ (pins:List (Addr × Obj)) (s:Shared) (σ : St) (H:Hp) (v:V) (u:Value) (Q:St->Hp->Prop),Inv X pins σ H s->RelV v u->t v σ H Q->
  wpAny (model X.prog X.w) X.A (assign target X.env u) (fun _ s'=>∃ σ' H',Inv X pins σ' H' s'/\Q σ' H') X.xe s
instance {X:Cx} {target:Expr} {t:TG}:CoeFun (PG X target t) (fun _=>∀ (pins:List (Addr × Obj)) (s:Shared) (σ : St) (H:Hp) (v:V) (u:Value) (Q:St->Hp->Prop),Inv X pins σ H s->RelV v u->t v σ H Q->
  wpAny (model X.prog X.w) X.A (assign target X.env u) (fun _ s'=>∃ σ' H',Inv X pins σ' H' s'/\Q σ' H') X.xe s):=⟨PG.run⟩
structure PGs (X:Cx) (ts:List Expr) (t:TGs):Prop where
 run:∀ (pins:List (Addr × Obj)) (s:Shared) (σ : St) (H:Hp) (vs:List V) (us:List Value) (Q:St->Hp->Prop),Inv X pins σ H s->Vals vs us->t vs σ H Q->
  wpAny (model X.prog X.w) X.A (assignInOrder ((assignEach ts X.env).map (·.2)) us) (fun _ s'=>∃ σ' H',Inv X pins σ' H' s'/\Q σ' H') X.xe s
instance {X:Cx} {ts:List Expr} {t:TGs}:CoeFun (PGs X ts t) (fun _=>∀ (pins:List (Addr × Obj)) (s:Shared) (σ : St) (H:Hp) (vs:List V) (us:List Value) (Q:St->Hp->Prop),Inv X pins σ H s->Vals vs us->t vs σ H Q->
  wpAny (model X.prog X.w) X.A (assignInOrder ((assignEach ts X.env).map (·.2)) us) (fun _ s'=>∃ σ' H',Inv X pins σ' H' s'/\Q σ' H') X.xe s):=⟨PGs.run⟩
section
variable {X:Cx} {pos:Pos}
def gName (i:Nat):TG:=fun v σ H Q=>Q (σ.set i (some v)) H
theorem pg_name {i:Nat} {x:Str} (hN:X.N.Nodup) (hi:X.N[i]? = some x) (hx:Loc X.env.scope x) (hf:X.fn x = true\/X.env.scope.names.lookup x = some .local:=by first | exact .inl rfl | exact .inr rfl | assumption):PG X (.Name x pos) (gName i):=by
 refine ⟨?_⟩
 intro pins s σ H v u Q I r h
 exact wpAny_assign_Name (store_ok I hN hi hx r (fun s' I'=>⟨_,H,I',h⟩) hf)
def gNil:TGs:=fun vs σ H Q=>vs = []/\Q σ H
def gCons (t:TG) (u:TGs):TGs:=fun vs σ H Q=>∃ v r,vs = v :: r/\t v σ H fun σ' H'=>u r σ' H' Q
theorem pgs_nil:PGs X [] gNil:=by
 refine ⟨?_⟩
 intro pins s σ H vs us Q I r h
 obtain ⟨e,h⟩:=h
 subst e
 cases r
 exact assignInOrder_nil ⟨σ,H,I,h⟩
theorem pgs_cons {e:Expr} {es:List Expr} {t:TG} {u:TGs} (h1:PG X e t) (h2:PGs X es u)
  (hs:(assignEach (e :: es) X.env).map (·.2) = assign e X.env :: (assignEach es X.env).map (·.2):=by rfl):PGs X (e :: es) (gCons t u):=by
 refine ⟨?_⟩
 intro pins s σ H vs us Q I r h
 obtain ⟨v,vr,e1,h⟩:=h
 subst e1
 cases r with
 | cons r rr=>
  rw [hs]
  refine assignInOrder_cons (thn (h1 pins s σ H _ _ _ I r h) fun _ s1 ⟨σ1,H1,I1,q1⟩=>?_)
  exact h2 pins s1 σ1 H1 _ _ Q I1 rr q1
def gTup (K:PySem.W.Frag) (n:Nat) (t:TGs):TG:=fun v σ H Q=>∃ a xs,v = .ref a/\SqT K H a xs/\xs.length = n/\t xs σ H Q
theorem pg_tup {es:List Expr} {k:Nat} {t:TGs} {n:Nat} (hc:X.calm = true) (h:PGs X es t)
  (hn:(assignEach es X.env).length = n:=by rfl) (hst:(assignEach es X.env).findIdx? (·.1) = none:=by rfl):PG X (.Tuple es k pos) (gTup X.K n t):=by
 refine ⟨?_⟩
 intro pins s σ H v u Q I r hw
 obtain ⟨a,xs,e1,hq,hl,hw⟩:=hw
 subst e1
 cases r
 obtain ⟨its,rv,ht,hz⟩:=I.tuple hq
 refine assign_Tuple_tuple (I.ok.hd hc) ht (by simp [hn,<- hl,rv.length]) hst fun h' hx=>?_
 have I1:Inv X pins σ H { s with heap:=h' }:=I.kept (t':=s.toks) fun b o e=>hx b o (Nat.ne_of_lt (Heap.lt_size e)) e
 exact h pins _ σ H xs _ Q I1 (by simpa using rv) hw
def tAsg (te:TE) (g:TG):TS:=fun D σ H=>te σ H fun x H1=>g x σ H1 D.nx
theorem ps_asg {tg e:Expr} {te:TE} {g:TG} (he:PE X e te) (hg:PG X tg g) (hs:swapsWithSole [tg] e pos.line X.env = pure false:=by rfl) (hw:swappedStores [tg] e X.env = pure none:=by rfl)
  (h1:(assignEach [tg] X.env).map (·.2) = [assign tg X.env]:=by rfl):PS X (.Assign [tg] e pos) (tAsg te g):=by
 refine ⟨?_⟩
 intro pins s σ H D I h
 refine wpAny_Assign_stores (thn (he pins s σ H _ I h) fun v s1 ⟨x,H1,I1,r1,q1⟩=>?_) hs hw
 rw [h1]
 exact thn (hg pins s1 σ H1 x v _ I1 r1 q1) fun _ s2 q=>q
theorem ps_set {i:Nat} {x:Str} {e:Expr} {te:TE} {pos':Pos} (hN:X.N.Nodup) (hi:X.N[i]? = some x) (hx:Loc X.env.scope x) (he:PE X e te) (hs:swapsWith e (some (.Name x pos')) pos.line X.env = pure false:=by rfl) (hf:X.fn x = true\/X.env.scope.names.lookup x = some .local:=by first | exact .inl rfl | exact .inr rfl | assumption) :
  PS X (.Assign [.Name x pos'] e pos) (tAsg te (gName i)):=by
 refine ⟨?_⟩
 intro pins s σ H D I h
 refine wpAny_Assign_Name (thn (he pins s σ H _ I h) fun v s1 ⟨y,H1,I1,r1,q1⟩=>?_) hs
 exact store_ok I1 hN hi hx r1 (fun s2 I2=>⟨_,H1,I2,q1⟩) hf
end
structure It where
 go:Nat->Hp->Prop
 yld:Nat->Hp->V->Hp->Prop
 stop:Nat->Hp->Prop
def FpOk (X:Cx) (pins:List (Addr × Obj)) (H:Hp) (b:Addr):Prop:=
 H b = none/\b ≠ X.env.locals/\b ∉ X.fs/\(b ∈ X.ex\/X.s₀.heap.objs.size<=b)/\(∀ x c,X.env.cells.lookup x = some c->c ≠ b)/\∀ p ∈ X.pn ++ pins,p.1 ≠ b
theorem Inv.fpOk {X:Cx} {pins:List (Addr × Obj)} {σ : St} {H H':Hp} {s:Shared} {b:Addr} (I:Inv X pins σ H s) (hb:s.heap.objs.size<=b) (hn:H' b = none):FpOk X pins H' b:=by
 refine ⟨hn,Nat.ne_of_gt (Nat.lt_of_lt_of_le I.lt hb),I.nofs hb,.inr (Nat.le_trans I.sz hb),fun x c e z=>?_,fun p hp z=>?_⟩
 ·obtain ⟨v,q⟩:=I.cell x c e
  exact absurd (Nat.lt_of_lt_of_le q.lt (by rw [z]; exact hb)) (Nat.lt_irrefl _)
 ·exact absurd (Nat.lt_of_lt_of_le (Heap.lt_size (I.pin p hp).1) (by rw [z]; exact hb)) (Nat.lt_irrefl _)
structure Turn (P:Program) (w:World) (K:PySem.W.Frag) (tg:Expr) (J:It) (fp:List Addr) (it:Addr) (tn:Nat->Heap->Prop):Prop where
 mem:it ∈ fp
 obj:∀ i h,tn i h->∀ b ∈ fp,∃ o,h.get? b = some o/\∀ v,o.data ≠ .cell v
 keep:∀ i h h',tn i h->(∀ b ∈ fp,∀ o,h.get? b = some o->h'.get? b = some o)->tn i h'
 item:∀ (X:Cx),X.prog = P->X.w = w->X.K = K->X.calm = true->∀ (i:Nat) (pins:List (Addr × Obj)) (s:Shared) (σ : St) (H:Hp) (E:Value->Shared->Prop),Inv X pins σ H s->(∀ b ∈ fp,FpOk X pins H b)->tn i s.heap->J.go i H->
  wpAny (model P w) X.A (pyNext (.ref it)) (fun r s1=>∃ u,r = some u/\
   wpAny (model P w) X.A (letOwnedTupleGo tg (.ref it) u) (fun _ s2=>∃ x H',Inv X pins σ H' s2/\RelV x u/\J.yld i H x H'/\tn (i + 1) s2.heap/\∀ b ∈ fp,H' b = none) E s1) E s
 done:∀ (X:Cx),X.prog = P->X.w = w->X.K = K->X.calm = true->∀ (i:Nat) (pins:List (Addr × Obj)) (s:Shared) (σ : St) (H:Hp) (E:Value->Shared->Prop),Inv X pins σ H s->(∀ b ∈ fp,FpOk X pins H b)->tn i s.heap->J.stop i H->
  wpAny (model P w) X.A (pyNext (.ref it)) (fun r s1=>r = none/\Inv X pins σ H s1) E s
 self:∀ (A:Around) (i:Nat) (s:Shared) (Q:Value->Shared->Prop) (E:Value->Shared->Prop),tn i s.heap->Q (.ref it) s->wpAny (model P w) A (pyIter (.ref it)) Q E s
abbrev TI:=St->Hp->(It->Hp->Prop)->Prop
def PIE (X:Cx) (pins:List (Addr × Obj)) (σ : St) (tg:Expr) (R:It->Hp->Prop) (itv:Value) (s2:Shared):Prop:=
 ∃ (it:Addr) (fp:List Addr) (tn:Nat->Heap->Prop) (J:It) (H':Hp),itv = .ref it/\Inv X pins σ H' s2/\Turn X.prog X.w X.K tg J fp it tn/\tn 0 s2.heap/\(∀ b ∈ fp,FpOk X pins H' b)/\R J H'
structure PI (X:Cx) (tg iter:Expr) (wi:TI):Prop where
 run:∀ (pins:List (Addr × Obj)) (s:Shared) (σ : St) (H:Hp) (R:It->Hp->Prop),Inv X pins σ H s->wi σ H R->
  wpAny (model X.prog X.w) X.A (eval iter X.env) (fun v s1=>wpAny (model X.prog X.w) X.A (pyIter v) (PIE X pins σ tg R) X.xe s1) X.xe s
instance {X:Cx} {tg iter:Expr} {wi:TI}:CoeFun (PI X tg iter wi) (fun _=>∀ (pins:List (Addr × Obj)) (s:Shared) (σ : St) (H:Hp) (R:It->Hp->Prop),Inv X pins σ H s->wi σ H R->
  wpAny (model X.prog X.w) X.A (eval iter X.env) (fun v s1=>wpAny (model X.prog X.w) X.A (pyIter v) (PIE X pins σ tg R) X.xe s1) X.xe s):=⟨PI.run⟩
theorem go_of {M:Model} {A:Around} {E:Value->Shared->Prop} {s:Shared} {tg:Expr} {it:Addr} {u:Value} {o:Obj} {n:String} {vs:Array Value} {Q:Unit->Shared->Prop} (ho:s.heap.get? it = some o) (hc:o.cls = .type n) (hd:o.data = .fields vs)
  (hn:["enumerate","zip","dict_itemiterator","dict_reverseitemiterator","odict_iterator","itertools.zip_longest","itertools.pairwise"].contains n = false) (hQ:Q () s):wpAny M A (letOwnedTupleGo tg (.ref it) u) Q E s:=by
 unfold letOwnedTupleGo
 cases tg <;> first
  | exact wpAny_pure hQ
  | (cases u <;> first
    | exact wpAny_pure hQ
    | (refine wpAny_bind (wpAny_load ho ?_)
       rw [hc,hd]
       show wpAny M A (if (["enumerate","zip","dict_itemiterator","dict_reverseitemiterator","odict_iterator","itertools.zip_longest","itertools.pairwise"].contains n && vs[0]? == some (rawInt _)) = true then _ else _) Q E s
       rw [if_neg (by intro h; rw [hn,Bool.false_and] at h; cases h)]
       exact wpAny_pure hQ))
def Itl (K:PySem.W.Frag) (a:Addr):It:=
 ⟨fun i H=>∃ xs x,SqL K H a xs/\xs[i]? = some x,fun i H x H'=>H' = H/\∀ xs,SqL K H a xs->xs[i]? = some x,fun i H=>∃ xs,SqL K H a xs/\xs.length<=i⟩
def Itt (K:PySem.W.Frag) (a:Addr):It:=
 ⟨fun i H=>∃ xs x,SqT K H a xs/\xs[i]? = some x,fun i H x H'=>H' = H/\∀ xs,SqT K H a xs->xs[i]? = some x,fun i H=>∃ xs,SqT K H a xs/\xs.length<=i⟩
def Itr (lo:Int) (n:Nat):It:=⟨fun i _=>i < n,fun i H x H'=>H' = H/\x = .int (lo + i),fun i _=>n<=i⟩
theorem turn_list {P:Program} {w:World} {K:PySem.W.Frag} {tg:Expr} (a it:Addr):Turn P w K tg (Itl K a) [it] it (fun i h=>h.IsListIter it a i) where
 mem:=by simp
 obj:=fun i h st b hb=>by
  have e:b = it:=by simpa using hb
  subst e
  obtain ⟨o,e,c,d⟩:=st
  exact ⟨o,e,fun v z=>by rw [d] at z; cases z⟩
 keep:=fun i h h' st k=>st.at fun o e=>k it (by simp) o e
 item:=by
  intro X hP hw hK hc i pins s σ H E I hf st hg
  subst hP hw hK
  obtain ⟨xs,x,hq,hx⟩:=hg
  obtain ⟨its,rv,p,hz⟩:=I.list hq
  obtain ⟨u,hu,ru⟩:=rv.get hx
  obtain ⟨f0,f1,f2,f3,f4,f5⟩:=hf it (by simp)
  refine wpAny_pyNext_list_item st p.isList (x:=u) (by simpa using hu) fun h' st' sb=>?_
  have I1:Inv X pins σ H { s with heap:=h' }:=I.turned (t':=s.toks) (fun b o hb e=>(sb.2 b hb).trans e) f0 f1 f3 f4 f5
  obtain ⟨o,e,c,d⟩:=id st'
  exact ⟨u,rfl,go_of (s:={ s with heap:=h' }) e c d (by decide) ⟨x,H,I1,ru,⟨rfl,fun ys hy=>by rw [I.list_inj hy hq]; exact hx⟩,st',fun b hb=>(hf b hb).1⟩⟩
 done:=by
  intro X hP hw hK hc i pins s σ H E I hf st hg
  subst hP hw hK
  obtain ⟨xs,hq,hx⟩:=hg
  obtain ⟨its,rv,p,hz⟩:=I.list hq
  obtain ⟨f0,f1,f2,f3,f4,f5⟩:=hf it (by simp)
  have hl:=rv.length
  exact wpAny_pyNext_list_end (I.ok.hd hc) st p.isList (by simp; omega) fun h' eb=>⟨rfl,I.turned (t':=s.toks) (fun b o hb e=>eb b o hb e) f0 f1 f3 f4 f5⟩
 self:=fun _ _ _ _ _ st h=>wpAny_pyIter_listiter st h
theorem turn_tuple {P:Program} {w:World} {K:PySem.W.Frag} {tg:Expr} (a it:Addr):Turn P w K tg (Itt K a) [it] it (fun i h=>h.IsTupleIter it a i) where
 mem:=by simp
 obj:=fun i h st b hb=>by
  have e:b = it:=by simpa using hb
  subst e
  obtain ⟨o,e,c,d⟩:=st
  exact ⟨o,e,fun v z=>by rw [d] at z; cases z⟩
 keep:=fun i h h' st k=>st.at fun o e=>k it (by simp) o e
 item:=by
  intro X hP hw hK hc i pins s σ H E I hf st hg
  subst hP hw hK
  obtain ⟨xs,x,hq,hx⟩:=hg
  obtain ⟨its,rv,p,hz⟩:=I.tuple hq
  obtain ⟨u,hu,ru⟩:=rv.get hx
  obtain ⟨f0,f1,f2,f3,f4,f5⟩:=hf it (by simp)
  refine wpAny_pyNext_tuple_item st (show s.heap.IsTuple a its.toArray from p) (x:=u) (by simpa using hu) fun h' st' sb=>?_
  have I1:Inv X pins σ H { s with heap:=h' }:=I.turned (t':=s.toks) (fun b o hb e=>(sb.2 b hb).trans e) f0 f1 f3 f4 f5
  obtain ⟨o,e,c,d⟩:=id st'
  exact ⟨u,rfl,go_of (s:={ s with heap:=h' }) e c d (by decide) ⟨x,H,I1,ru,⟨rfl,fun ys hy=>by rw [I.tuple_inj hy hq]; exact hx⟩,st',fun b hb=>(hf b hb).1⟩⟩
 done:=by
  intro X hP hw hK hc i pins s σ H E I hf st hg
  subst hP hw hK
  obtain ⟨xs,hq,hx⟩:=hg
  obtain ⟨its,rv,p,hz⟩:=I.tuple hq
  obtain ⟨f0,f1,f2,f3,f4,f5⟩:=hf it (by simp)
  have hl:=rv.length
  exact wpAny_pyNext_tuple_end (I.ok.hd hc) st (show s.heap.IsTuple a its.toArray from p) (by simp; omega) fun h' eb=>⟨rfl,I.turned (t':=s.toks) (fun b o hb e=>eb b o hb e) f0 f1 f3 f4 f5⟩
 self:=fun _ _ _ _ _ st h=>wpAny_pyIter_tupleiter st h
theorem turn_range {P:Program} {w:World} {K:PySem.W.Frag} {tg:Expr} (it:Addr) (lo:Int) (n:Nat):Turn P w K tg (Itr lo n) [it] it (fun i h=>IsRangeIter h it (lo + (i:Nat) * 1) ((n:Int) - (i:Nat)) 1) where
 mem:=by simp
 obj:=fun i h st b hb=>by
  have e:b = it:=by simpa using hb
  subst e
  exact ⟨_,st,fun v z=>by
   have z':Data.fields _ = Data.cell v:=z
   cases z'⟩
 keep:=fun i h h' st k=>k it (by simp) _ st
 item:=by
  intro X hP hw hK hc i pins s σ H E I hf st hg
  subst hP hw hK
  obtain ⟨f0,f1,f2,f3,f4,f5⟩:=hf it (by simp)
  have W:=Walks.range (prog:=X.prog) (w:=X.w) (I.ok.hd hc) it lo 1 n
  refine W.item i s _ _ hg st fun v h' tk hv st' kk=>?_
  obtain ⟨t,rfl⟩:=hv
  have I1:Inv X pins σ H { s with heap:=h',toks:=tk }:=I.turned (fun b o hb e=>kk b o (by simpa using hb) e) f0 f1 f3 f4 f5
  refine ⟨_,rfl,go_of (s:={ s with heap:=h',toks:=tk }) (n:="range_iterator") st' rfl rfl (by decide) ⟨.int (lo + i),H,I1,⟨t,?_⟩,⟨rfl,rfl⟩,st',fun b hb=>(hf b hb).1⟩⟩
  rw [Int.mul_one]
 done:=by
  intro X hP hw hK hc i pins s σ H E I hf st hg
  subst hP hw hK
  obtain ⟨f0,f1,f2,f3,f4,f5⟩:=hf it (by simp)
  exact wpAny_pyNext_range_end (I.ok.hd hc) st (by have:n<=i:=hg; omega) fun h' eb=>⟨rfl,I.turned (t':=s.toks) (fun b o hb e=>eb b o hb e) f0 f1 f3 f4 f5⟩
 self:=fun _ _ _ _ _ st h=>wpAny_pyIter_rangeiter st h
section
variable {X:Cx} {tg:Expr}
def iList (K:PySem.W.Frag) (tl:TE):TI:=fun σ H R=>tl σ H fun x H1=>∃ a,x = .ref a/\(∃ xs,SqL K H1 a xs)/\R (Itl K a) H1
def iTup (K:PySem.W.Frag) (tl:TE):TI:=fun σ H R=>tl σ H fun x H1=>∃ a,x = .ref a/\(∃ xs,SqT K H1 a xs)/\R (Itt K a) H1
theorem pi_list {l:Expr} {tl:TE} (hl:PE X l tl):PI X tg l (iList X.K tl):=by
 refine ⟨?_⟩
 intro pins s σ H R I h
 refine thn (hl pins s σ H _ I h) fun v s1 ⟨x,H1,I1,r1,q1⟩=>?_
 obtain ⟨a,e,⟨xs,hq⟩,q⟩:=q1
 subst e
 cases r1
 obtain ⟨its,rv,p,hz⟩:=I1.list hq
 refine wpAny_pyIter_list p.isList ?_
 refine ⟨s1.heap.objs.size,[s1.heap.objs.size],_,_,H1,rfl,I1.kept (t':=s1.toks) fun b o e=>Heap.get?_push_of_some _ e,turn_list a _,⟨_,Heap.get?_push_size _ rfl,rfl,rfl⟩,fun b hb=>?_,q⟩
 have e:b = s1.heap.objs.size:=by simpa using hb
 subst e
 exact I1.fpOk (Nat.le_refl _) (I1.hok.fresh (Nat.le_refl _))
theorem pi_tup {l:Expr} {tl:TE} (hl:PE X l tl):PI X tg l (iTup X.K tl):=by
 refine ⟨?_⟩
 intro pins s σ H R I h
 refine thn (hl pins s σ H _ I h) fun v s1 ⟨x,H1,I1,r1,q1⟩=>?_
 obtain ⟨a,e,⟨xs,hq⟩,q⟩:=q1
 subst e
 cases r1
 obtain ⟨its,rv,p,hz⟩:=I1.tuple hq
 refine wpAny_pyIter_tuple (show s1.heap.IsTuple a its.toArray from p) ?_
 refine ⟨s1.heap.objs.size,[s1.heap.objs.size],_,_,H1,rfl,I1.kept (t':=s1.toks) fun b o e=>Heap.get?_push_of_some _ e,turn_tuple a _,⟨_,Heap.get?_push_size _ rfl,rfl,rfl⟩,fun b hb=>?_,q⟩
 have e:b = s1.heap.objs.size:=by simpa using hb
 subst e
 exact I1.fpOk (Nat.le_refl _) (I1.hok.fresh (Nat.le_refl _))
theorem range_it {pins:List (Addr × Obj)} {σ : St} {H:Hp} {s:Shared} {R:It->Hp->Prop} {E:Value->Shared->Prop} {lo hi:Int} {t u v:Tok} {tk:Nat} (I:Inv X pins σ H s) (h1 : -(2 ^ 62)<=lo) (h2:lo < 2 ^ 62) (h3 : -(2 ^ 62)<=hi) (h4:hi < 2 ^ 62)
  (q:R (Itr lo (hi - lo).toNat) H):wpAny (model X.prog X.w) X.A (pyIter (.ref s.heap.objs.size)) (PIE X pins σ tg R) E { s with heap:=s.heap.push { cls:=.type "range",data:=.fields #[.int lo t,.int hi u,.int 1 v] },toks:=tk }:=by
 refine wpAny_pyIter_range (IsRange.new ..) (small_one h1 h2 h3 h4) ?_
 have I1:Inv X pins σ H { s with heap:=s.heap.push { cls:=.type "range",data:=.fields #[.int lo t,.int hi u,.int 1 v] },toks:=tk }:=I.kept fun b o e=>Heap.get?_push_of_some _ e
 refine ⟨(s.heap.push { cls:=.type "range",data:=.fields #[.int lo t,.int hi u,.int 1 v] }).objs.size,[(s.heap.push { cls:=.type "range",data:=.fields #[.int lo t,.int hi u,.int 1 v] }).objs.size],_,_,H,rfl,
  I1.kept (t':=tk) fun b o e=>Heap.get?_push_of_some _ e,turn_range _ lo (hi - lo).toNat,?_,fun b hb=>?_,q⟩
 ·have e1:lo + ((0:Nat):Int) * 1 = lo:=by simp
  have e2:(((hi - lo).toNat:Nat):Int) - ((0:Nat):Int) = Builtin.Range.rangeSize lo hi 1:=by rw [rangeSize_one]; split <;> omega
  show IsRangeIter _ _ (lo + ((0:Nat):Int) * 1) ((((hi - lo).toNat:Nat):Int) - ((0:Nat):Int)) 1
  rw [e1,e2]
  exact Heap.get?_push_size _ rfl
 ·have e:b = (s.heap.push { cls:=.type "range",data:=.fields #[.int lo t,.int hi u,.int 1 v] }).objs.size:=by simpa using hb
  subst e
  exact I1.fpOk (Nat.le_refl _) (I1.hok.fresh (Nat.le_refl _))
def iRng1 (ta:TA):TI:=fun σ H R=>ta σ H fun vs H1=>∃ j:Int,vs = [.int j]/\-(2 ^ 62)<=j/\j < 2 ^ 62/\R (Itr 0 j.toNat) H1
def iRng2 (ta:TA):TI:=fun σ H R=>ta σ H fun vs H1=>∃ i j:Int,vs = [.int i,.int j]/\(-(2 ^ 62)<=i/\i < 2 ^ 62/\-(2 ^ 62)<=j/\j < 2 ^ 62)/\R (Itr i (j - i).toNat) H1
theorem pi_range1 {a:Expr} {ta:TA} {p pos:Pos} (hg:Gl X "range") (hm:X.mg "range" = none) (ha:PA X [a] ta) (hs:starEach [a] X.env = [(false,eval a X.env)]:=by rfl):PI X tg (.Call (.Name "range" p) [a] [] pos) (iRng1 ta):=by
 refine ⟨?_⟩
 intro pins s σ H R I h
 refine Call_ (ld_blt I hg hm boot_range (PyProof.Rows.callWith_type1 (thn (ha pos pins s σ H _ I h) fun us s1 ⟨vs,H1,I1,r1,q1⟩=>?_) hs rfl))
 obtain ⟨j,e,q1,q2,q⟩:=q1
 subst e
 cases r1 with
 | cons r rr=>
  cases rr
  obtain ⟨t,rfl⟩:=r
  exact call_range_1 (range_it I1 (by omega) (by omega) q1 q2 (by simpa using q))
theorem pi_range2 {a b:Expr} {ta:TA} {p pos:Pos} (hg:Gl X "range") (hm:X.mg "range" = none) (ha:PA X [a,b] ta) (hs:starEach [a,b] X.env = [(false,eval a X.env),(false,eval b X.env)]:=by rfl) (hs2:starEach [b] X.env = [(false,eval b X.env)]:=by rfl) :
  PI X tg (.Call (.Name "range" p) [a,b] [] pos) (iRng2 ta):=by
 refine ⟨?_⟩
 intro pins s σ H R I h
 refine Call_ (ld_blt I hg hm boot_range (PyProof.Rows.callWith_type1 (thn (ha pos pins s σ H _ I h) fun us s1 ⟨vs,H1,I1,r1,q1⟩=>?_) (by rw [hs,hs2]) (by rw [hs2]; rfl)))
 obtain ⟨i,j,e,⟨q1,q2,q3,q4⟩,q⟩:=q1
 subst e
 cases r1 with
 | cons r rr=>
  cases rr with
  | cons r' rr=>
   cases rr
   obtain ⟨t,rfl⟩:=r
   obtain ⟨t',rfl⟩:=r'
   exact call_range_2 (range_it I1 q1 q2 q3 q4 q)
def tFor (wi:TI) (g:TG) (tb:TS):TS:=fun D σ H=>wi σ H fun J H1=>∃ W:Nat->Nat->St->Hp->Prop,(∃ m,W 0 m σ H1)/\∀ i m σ H,W i m σ H->
 (J.stop i H/\D.nx σ H)\/(J.go i H/\∃ N:St->Hp->Prop,(∀ σ' H',N σ' H'->∃ m',m' < m/\W (i + 1) m' σ' H')/\∀ x H',J.yld i H x H'->g x σ H' fun σ2 H2=>tb { D with nx:=N,ct:=N,bk:=D.nx } σ2 H2)
def pinsAt (fp:List Addr) (h:Heap):List (Addr × Obj):=fp.filterMap fun b=>(h.get? b).map fun o=>(b,o)
theorem mem_pinsAt {fp:List Addr} {h:Heap} {b:Addr} {o:Obj} (hb:b ∈ fp) (e:h.get? b = some o):(b,o) ∈ pinsAt fp h:=List.mem_filterMap.mpr ⟨b,hb,by rw [e]; rfl⟩
theorem of_pinsAt {fp:List Addr} {h:Heap} {p:Addr × Obj} (hp:p ∈ pinsAt fp h):p.1 ∈ fp/\h.get? p.1 = some p.2:=by
 obtain ⟨b,hb,e⟩:=List.mem_filterMap.mp hp
 cases q:h.get? b with
 | none=>rw [q] at e; cases e
 | some o=>
  rw [q] at e
  have e':(b,o) = p:=Option.some.inj e
  subst e'
  exact ⟨hb,q⟩
theorem Inv.pinned {pins:List (Addr × Obj)} {σ : St} {H:Hp} {s:Shared} {fp:List Addr} (I:Inv X pins σ H s) (hf:∀ b ∈ fp,FpOk X pins H b) (ho:∀ b ∈ fp,∃ o,s.heap.get? b = some o/\∀ v,o.data ≠ .cell v):Inv X (pins ++ pinsAt fp s.heap) σ H s:=
 I.pins_of fun p hp=>(List.mem_append.mp hp).elim (fun z=>I.pin p (List.mem_append_right _ z)) fun z=>by
  obtain ⟨hb,e⟩:=of_pinsAt z
  obtain ⟨f0,f1,f2,_⟩:=hf p.1 hb
  obtain ⟨o,e',d⟩:=ho p.1 hb
  rw [e] at e'; cases e'
  exact ⟨e,f0,f1,f2,d⟩
theorem Inv.unpinned {pins pl:List (Addr × Obj)} {σ : St} {H:Hp} {s:Shared} (I:Inv X (pins ++ pl) σ H s):Inv X pins σ H s:=I.pins_of fun p hp=>I.pin p (List.mem_append_right _ (List.mem_append_left _ hp))
theorem ps_for {iter:Expr} {body:List Stmt} {wi:TI} {g:TG} {tb:TS} {pos:Pos} (hp:PassesOwn (model X.prog X.w) X.A X.env X.xe) (hc:X.calm = true) (hi:PI X tg iter wi) (hg:PG X tg g) (hb:PSs X body tb)
  (hs:∀ x,foldedSetIterable iter X.env x = pure x:=by intro _; rfl):PS X (.For tg iter body [] pos) (tFor wi g tb):=by
 refine ⟨?_⟩
 intro pins s σ H D I h
 refine wpAny_For (thn (hi pins s σ H _ I h) fun v s1 h1=>thn h1 fun itv s2 h2=>?_) hs
 obtain ⟨it,fp,tn,J,H2,e,I2,T,st2,f2,W,⟨m0,w0⟩,turn⟩:=h2
 subst e
 have stat:∀ {H':Hp},(∀ b ∈ fp,H' b = none)->∀ b ∈ fp,FpOk X pins H' b:=fun hn b hb=>⟨hn b hb,(f2 b hb).2⟩
 refine codeAny_forLoop_any (fun n s'=>∃ i σ' H',Inv X pins σ' H' s'/\tn i s'.heap/\(∀ b ∈ fp,H' b = none)/\W i n σ' H') ?_ m0 ⟨0,σ,H2,I2,st2,fun b hb=>(f2 b hb).1,w0⟩
 rintro n s3 ⟨i,σ3,H3,I3,st3,fr3,w3⟩
 rcases turn i n σ3 H3 w3 with ⟨stop,qn⟩ | ⟨go,N,hN,step⟩
 ·refine wpAny_passesOwn hp (thn (T.done X rfl rfl rfl hc i pins s3 σ3 H3 X.xe I3 (stat fr3) st3 stop) fun r s4 ⟨hr,I4⟩=>?_)
  subst hr
  exact wpAny_execs_nil ⟨σ3,H3,I4,qn⟩
 ·refine wpAny_passesOwn hp (thn (T.item X rfl rfl rfl hc i pins s3 σ3 H3 X.xe I3 (stat fr3) st3 go) fun r s4 ⟨u,hr,h4⟩=>?_)
  subst hr
  refine wpAny_passesOwn hp (thn h4 fun _ s5 ⟨x,H5,I5,r5,y5,st5,fr5⟩=>?_)
  have I5':=I5.pinned (stat fr5) (T.obj _ _ st5)
  refine wpAny_passesOwn hp (thn (hg _ s5 σ3 H5 x u _ I5' r5 (step x H5 y5)) fun _ s6 ⟨σ6,H6,I6,q6⟩=>?_)
  refine wpAny_passesOwn hp (thn (hb _ s6 σ6 H6 _ I6 q6) fun f s7 q7=>?_)
  have again:∀ {σ7:St} {H7:Hp},Inv X (pins ++ pinsAt fp s5.heap) σ7 H7 s7->N σ7 H7->∃ m,m < n/\∃ i σ' H',Inv X pins σ' H' s7/\tn i s7.heap/\(∀ b ∈ fp,H' b = none)/\W i m σ' H':=fun {σ7 H7} I7 n7=>by
   obtain ⟨m',hm,w7⟩:=hN σ7 H7 n7
   refine ⟨m',hm,i + 1,σ7,H7,I7.unpinned,T.keep _ _ _ st5 fun b hb o e=>(I7.pin (b,o) (List.mem_append_right _ (List.mem_append_right _ (mem_pinsAt hb e)))).1,fun b hb=>?_,w7⟩
   obtain ⟨o,e,d⟩:=T.obj _ _ st5 b hb
   exact (I7.pin (b,o) (List.mem_append_right _ (List.mem_append_right _ (mem_pinsAt hb e)))).2.1
  cases f with
  | next=>obtain ⟨σ7,H7,I7,n7⟩:=q7; exact again I7 n7
  | cont=>obtain ⟨σ7,H7,I7,n7⟩:=q7; exact again I7 n7
  | brk=>obtain ⟨σ7,H7,I7,q7⟩:=q7; exact ⟨σ7,H7,I7.unpinned,q7⟩
  | ret v=>obtain ⟨x7,σ7,H7,I7,r7,q7⟩:=q7; exact ⟨x7,σ7,H7,I7.unpinned,r7,q7⟩
end
theorem for_list {K:PySem.W.Frag} {a:Addr} {xs:List V} {g:TG} {tb:TS} {D:Ends} {σ : St} {H:Hp} (Pv:Nat->St->Hp->Prop) (h0:Pv 0 σ H) (hl:∀ i σ H,i<=xs.length->Pv i σ H->SqL K H a xs)
  (hs:∀ i x σ H,xs[i]? = some x->Pv i σ H->g x σ H fun σ2 H2=>tb { D with nx:=Pv (i + 1),ct:=Pv (i + 1),bk:=D.nx } σ2 H2) (hd:∀ σ H,Pv xs.length σ H->D.nx σ H) :
  ∃ W:Nat->Nat->St->Hp->Prop,(∃ m,W 0 m σ H)/\∀ i m σ H,W i m σ H->
   ((Itl K a).stop i H/\D.nx σ H)\/((Itl K a).go i H/\∃ N:St->Hp->Prop,(∀ σ' H',N σ' H'->∃ m',m' < m/\W (i + 1) m' σ' H')/\∀ x H',(Itl K a).yld i H x H'->g x σ H' fun σ2 H2=>tb { D with nx:=N,ct:=N,bk:=D.nx } σ2 H2):=by
 refine ⟨fun i m σ H=>m = xs.length - i/\i<=xs.length/\Pv i σ H,⟨xs.length,by simp,Nat.zero_le _,h0⟩,?_⟩
 rintro i m σ H ⟨rfl,hi,p⟩
 have q:=hl i σ H hi p
 by_cases hlt:i < xs.length
 ·refine .inr ⟨⟨xs,xs[i],q,by simp [hlt]⟩,Pv (i + 1),fun σ' H' p'=>⟨xs.length - (i + 1),by omega,rfl,hlt,p'⟩,fun x H' y=>?_⟩
  obtain ⟨e,y⟩:=y
  subst e
  exact hs i x σ _ (y xs q) p
 ·have e:i = xs.length:=by omega
  subst e
  exact .inl ⟨⟨xs,q,Nat.le_refl _⟩,hd σ H p⟩
theorem for_range {lo:Int} {n:Nat} {g:TG} {tb:TS} {D:Ends} {σ : St} {H:Hp} (Pv:Nat->St->Hp->Prop) (h0:Pv 0 σ H)
  (hs:∀ i σ H,i < n->Pv i σ H->g (.int (lo + i)) σ H fun σ2 H2=>tb { D with nx:=Pv (i + 1),ct:=Pv (i + 1),bk:=D.nx } σ2 H2) (hd:∀ σ H,Pv n σ H->D.nx σ H) :
  ∃ W:Nat->Nat->St->Hp->Prop,(∃ m,W 0 m σ H)/\∀ i m σ H,W i m σ H->
   ((Itr lo n).stop i H/\D.nx σ H)\/((Itr lo n).go i H/\∃ N:St->Hp->Prop,(∀ σ' H',N σ' H'->∃ m',m' < m/\W (i + 1) m' σ' H')/\∀ x H',(Itr lo n).yld i H x H'->g x σ H' fun σ2 H2=>tb { D with nx:=N,ct:=N,bk:=D.nx } σ2 H2):=by
 refine ⟨fun i m σ H=>m = n - i/\i<=n/\Pv i σ H,⟨n,by simp,Nat.zero_le _,h0⟩,?_⟩
 rintro i m σ H ⟨rfl,hi,p⟩
 by_cases hlt:i < n
 ·refine .inr ⟨hlt,Pv (i + 1),fun σ' H' p'=>⟨n - (i + 1),by omega,rfl,hlt,p'⟩,fun x H' y=>?_⟩
  obtain ⟨e,y⟩:=y
  subst e y
  exact hs i σ _ hlt p
 ·have e:i = n:=by omega
  subst e
  exact .inl ⟨Nat.le_refl _,hd σ H p⟩
abbrev R2:=V->V->Hp->VK->Prop
def OpR (X:Cx) (f:Value->Value->Sem Value) (r:R2):Prop:=
 ∀ (pins:List (Addr × Obj)) (s:Shared) (σ : St) (H:Hp) (x y:V) (v u:Value) (Q:VK),Inv X pins σ H s->RelV x v->RelV y u->r x y H Q->
  wpAny (model X.prog X.w) X.A (f v u) (EP X pins σ Q) X.xe s
def UnR (X:Cx) (f:Value->Sem Value) (r:V->Hp->VK->Prop):Prop:=
 ∀ (pins:List (Addr × Obj)) (s:Shared) (σ : St) (H:Hp) (x:V) (v:Value) (Q:VK),Inv X pins σ H s->RelV x v->r x H Q->
  wpAny (model X.prog X.w) X.A (f v) (EP X pins σ Q) X.xe s
def CallR (X:Cx) (f:Value) (r:List V->Hp->VK->Prop):Prop:=
 ∀ (pins:List (Addr × Obj)) (s:Shared) (σ : St) (H:Hp) (xs:List V) (us:List Value) (Q:VK),Inv X pins σ H s->Vals xs us->r xs H Q->
  wpAny (model X.prog X.w) X.A (call f us) (EP X pins σ Q) X.xe s
def tOp (r:R2) (ta tb:TE):TE:=fun σ H Q=>ta σ H fun x H1=>tb σ H1 fun y H2=>r x y H2 Q
def tUn (r:V->Hp->VK->Prop) (ta:TE):TE:=fun σ H Q=>ta σ H fun x H1=>r x H1 Q
inductive IrI (C:Int->Int->Prop) (g:Int->Int->V) (x y:V) (H:Hp) (Q:VK):Prop where
 | mk (i j:Int) (e1:x = .int i) (e2:y = .int j) (c:C i j) (q:Q (g i j) H)
def rI (C:Int->Int->Prop) (g:Int->Int->V):R2:=fun x y H Q=>IrI C g x y H Q
inductive IrI0 (g:Int->Int->V) (x y:V) (H:Hp) (Q:VK):Prop where
 | mk (i j:Int) (e1:x = .int i) (e2:y = .int j) (q:Q (g i j) H)
def rI0 (g:Int->Int->V):R2:=fun x y H Q=>IrI0 g x y H Q
def rU (g:Int->V):V->Hp->VK->Prop:=fun x H Q=>∃ i,x = .int i/\Q (g i) H
section
variable {X:Cx} {a b c:Expr} {ta tb tc:TE} {pos:Pos}
theorem binT (ha:PE X a ta) (hb:PE X b tb) {pins:List (Addr × Obj)} {s:Shared} {σ : St} {H:Hp} {R:V->V->Hp->Prop} (I:Inv X pins σ H s)
  (h:ta σ H fun x H1=>tb σ H1 fun y H2=>R x y H2) {Q:Value->Shared->Prop} {f:Value->Value->Sem Value}
  (hf:∀ v u s2 x y H2,Inv X pins σ H2 s2->RelV x v->RelV y u->R x y H2->wpAny (model X.prog X.w) X.A (f v u) Q X.xe s2) :
  wpAny (model X.prog X.w) X.A (eval a X.env) (fun v s₁=>wpAny (model X.prog X.w) X.A (eval b X.env) (fun u s₂=>wpAny (model X.prog X.w) X.A (f v u) Q X.xe s₂) X.xe s₁) X.xe s:=by
 refine thn (ha pins s σ H _ I h) fun v s1 ⟨x,H1,I1,r1,q1⟩=>?_
 refine thn (hb pins s1 σ H1 _ I1 q1) fun u s2 ⟨y,H2,I2,r2,q2⟩=>?_
 exact hf v u s2 x y H2 I2 r1 r2 q2
theorem pe_op {op:Operator} {r:R2} (ho:OpR X (binaryOp op) r) (ha:PE X a ta) (hb:PE X b tb):PE X (.BinOp a op b pos) (tOp r ta tb):=by
 refine ⟨?_⟩
 intro pins s σ H Q I h
 exact wpAny_BinOp (binT ha hb I h fun v u s2 x y H2 I2 rx ry q=>ho pins s2 σ H2 x y v u Q I2 rx ry q)
theorem pe_un {op:UnaryOp} {r:V->Hp->VK->Prop} (ho:UnR X (unaryOp op) r) (ha:PE X a ta):PE X (.UnaryOp op a pos) (tUn r ta):=by
 refine ⟨?_⟩
 intro pins s σ H Q I h
 exact UnaryOp_ (thn (ha pins s σ H _ I h) fun v s1 ⟨x,H1,I1,r1,q1⟩=>ho pins s1 σ H1 x v Q I1 r1 q1)
theorem opI {f:Value->Value->Sem Value} {C:Int->Int->Prop} {g:Int->Int->Int}
  (rule:∀ (i j:Int) (t u:Tok) (s:Shared) (Q:Value->Shared->Prop) (E:Value->Shared->Prop),C i j->Q (.int (g i j) s.toks) { s with toks:=s.toks + 1 }->wpAny (model X.prog X.w) X.A (f (.int i t) (.int j u)) Q E s) :
  OpR X f (rI C fun i j=>.int (g i j)):=by
 intro pins s σ H x y v u Q I rx ry h
 obtain ⟨i,j,rfl,rfl,hc,q⟩:=h
 obtain ⟨t,rfl⟩:=rx
 obtain ⟨t',rfl⟩:=ry
 exact rule i j t t' s _ _ hc ⟨.int (g i j),H,I.tok _,⟨_,rfl⟩,q⟩
theorem opI0 {f:Value->Value->Sem Value} {g:Int->Int->Int}
  (rule:∀ (i j:Int) (t u:Tok) (s:Shared) (Q:Value->Shared->Prop) (E:Value->Shared->Prop),Q (.int (g i j) s.toks) { s with toks:=s.toks + 1 }->wpAny (model X.prog X.w) X.A (f (.int i t) (.int j u)) Q E s) :
  OpR X f (rI0 fun i j=>.int (g i j)):=by
 intro pins s σ H x y v u Q I rx ry h
 obtain ⟨i,j,rfl,rfl,q⟩:=h
 obtain ⟨t,rfl⟩:=rx
 obtain ⟨t',rfl⟩:=ry
 exact rule i j t t' s _ _ ⟨.int (g i j),H,I.tok _,⟨_,rfl⟩,q⟩
theorem opB0 {f:Value->Value->Sem Value} {g:Int->Int->Bool}
  (rule:∀ (i j:Int) (t u:Tok) (s:Shared) (Q:Value->Shared->Prop) (E:Value->Shared->Prop),Q (.bool (g i j)) s->wpAny (model X.prog X.w) X.A (f (.int i t) (.int j u)) Q E s) :
  OpR X f (rI0 fun i j=>.bl (g i j)):=by
 intro pins s σ H x y v u Q I rx ry h
 obtain ⟨i,j,rfl,rfl,q⟩:=h
 obtain ⟨t,rfl⟩:=rx
 obtain ⟨t',rfl⟩:=ry
 exact rule i j t t' s _ _ ⟨.bl (g i j),H,I,rfl,q⟩
def CDiv (i j:Int):Prop:=0 < j/\j < 1073741824
def CPow (i j:Int):Prop:=0<=j/\j<=1000000/\i.natAbs < 2 ^ 64
def CMul (i j:Int):Prop:=(-(2 ^ 64) < i/\i < 2 ^ 64)\/(-(2 ^ 64) < j/\j < 2 ^ 64)
theorem CMul.ok {i j:Int} (h:CMul i j):IntMulOk i j:=by
 rcases h with ⟨h1,h2⟩ | ⟨h1,h2⟩
 ·exact .of_left (intBits_le_64 h1 h2)
 ·exact .of_right (intBits_le_64 h1 h2)
theorem op_add:OpR X (binaryOp .Add) (rI0 fun i j=>.int (i + j)):=opI0 fun _ _ _ _ _ _ _ q=>add_int q
theorem op_sub:OpR X (binaryOp .Sub) (rI0 fun i j=>.int (i - j)):=opI0 fun _ _ _ _ _ _ _ q=>sub_int q
theorem op_mul:OpR X (binaryOp .Mult) (rI CMul fun i j=>.int (i * j)):=opI fun _ _ _ _ _ _ _ hc q=>mul_int q hc.ok
theorem op_fdiv:OpR X (binaryOp .FloorDiv) (rI CDiv fun i j=>.int (i / j)):=opI fun i j _ _ _ _ _ hc q=>by
 have h1:(0:Int) < j:=hc.1
 have h2:j < 1073741824:=hc.2
 exact floordiv_int (by omega) (by rw [Int.fdiv_eq_ediv_of_nonneg i (by omega)]; exact q) (.inl (PyProof.noPylong_small (by omega)))
theorem op_mod:OpR X (binaryOp .Mod) (rI (fun _ j=>0 < j) fun i j=>.int (i % j)):=opI fun i j _ _ _ _ _ hc q=>by
 have h1:(0:Int) < j:=hc
 exact mod_int' (by omega) (by rw [Int.fmod_eq_emod_of_nonneg i (by omega)]; exact q)
theorem op_pow:OpR X (binaryOp .Pow) (rI CPow fun i j=>.int (i ^ j.toNat)):=opI fun _ _ _ _ _ _ _ hc q=>pow_int_small hc.1 hc.2.1 hc.2.2 q
theorem unI {f:Value->Sem Value} {g:Int->Int}
  (rule:∀ (i:Int) (t:Tok) (s:Shared) (Q:Value->Shared->Prop) (E:Value->Shared->Prop),Q (.int (g i) s.toks) { s with toks:=s.toks + 1 }->wpAny (model X.prog X.w) X.A (f (.int i t)) Q E s) :
  UnR X f (rU fun i=>.int (g i)):=by
 intro pins s σ H x v Q I rx h
 obtain ⟨i,rfl,q⟩:=h
 obtain ⟨t,rfl⟩:=rx
 exact rule i t s _ _ ⟨.int (g i),H,I.tok _,⟨_,rfl⟩,q⟩
theorem un_neg:UnR X (unaryOp .USub) (rU fun i=>.int (-i)):=unI fun _ _ _ _ _ q=>neg_int q
end
def scal:V->V->Bool
 | .non,.non=>true | .non,.int _=>true | .int _,.non=>true | .non,.bl _=>true | .bl _,.non=>true | .non,.str _=>true | .str _,.non=>true
 | .int _,.int _=>true | .bl _,.bl _=>true | .str _,.str _=>true | .byt _,.byt _=>true
 | .int _,.str _=>true | .str _,.int _=>true | .bl _,.str _=>true | .str _,.bl _=>true
 | _,_=>false
def rEq:R2:=fun x y H Q=>scal x y = true/\Q (.bl (decide (x = y))) H
def rNe:R2:=fun x y H Q=>scal x y = true/\Q (.bl (!decide (x = y))) H
theorem dec_int {i j:Int}:decide (V.int i = V.int j) = (i == j):=by
 rw [Bool.eq_iff_iff]
 simp
theorem dec_bl {i j:Bool}:decide (V.bl i = V.bl j) = (i == j):=by
 rw [Bool.eq_iff_iff]
 simp
theorem dec_str {i j:Str}:decide (V.str i = V.str j) = (i == j):=by
 rw [Bool.eq_iff_iff]
 simp
theorem dec_byt {i j:Array UInt8}:decide (V.byt i = V.byt j) = (i.toList == j.toList):=by
 rw [Bool.eq_iff_iff]
 cases i
 cases j
 simp
section
variable {X:Cx} {a b c:Expr} {ta tb tc:TE} {pos:Pos}
theorem fin_bl {pins:List (Addr × Obj)} {σ : St} {H:Hp} {s:Shared} {Q:VK} {k k':Bool} (I:Inv X pins σ H s) (q:Q (.bl k) H) (e:k = k'):EP X pins σ Q (.bool k') s:=by
 subst e
 exact ⟨.bl k,H,I,rfl,q⟩
theorem op_eq:OpR X (compareOp .Eq) rEq:=by
 intro pins s σ H x y v u Q I rx ry h
 obtain ⟨hs,q⟩:=h
 cases x with
 | non=>
  cases rx
  cases y with
  | non=>cases ry; exact PySem.EqNone.eq_none_none (fin_bl I q (by simp))
  | bl j=>cases ry; exact PySem.EqNone.eq_none_bool (fin_bl I q (by simp))
  | int j=>obtain ⟨t',rfl⟩:=ry; exact PySem.EqNone.eq_none_int (fin_bl I q (by simp))
  | str j=>obtain ⟨t',rfl⟩:=ry; exact PySem.EqNone.eq_none_str (fin_bl I q (by simp))
  | _=>exact absurd (show false = true from hs) Bool.false_ne_true
 | bl i=>
  cases rx
  cases y with
  | non=>cases ry; exact PySem.EqNone.eq_bool_none (fin_bl I q (by simp))
  | bl j=>cases ry; exact eq_bool (fin_bl I q dec_bl)
  | str j=>obtain ⟨t',rfl⟩:=ry; exact PySem.EqMixed.eq_bool_str (fin_bl I q (by simp))
  | _=>exact absurd (show false = true from hs) Bool.false_ne_true
 | int i=>
  obtain ⟨t,rfl⟩:=rx
  cases y with
  | non=>cases ry; exact PySem.EqNone.eq_int_none (fin_bl I q (by simp))
  | int j=>obtain ⟨t',rfl⟩:=ry; exact eq_int (fin_bl I q dec_int)
  | str j=>obtain ⟨t',rfl⟩:=ry; exact PySem.EqMixed.eq_int_str (fin_bl I q (by simp))
  | _=>exact absurd (show false = true from hs) Bool.false_ne_true
 | str i=>
  obtain ⟨t,rfl⟩:=rx
  cases y with
  | non=>cases ry; exact PySem.EqNone.eq_str_none (fin_bl I q (by simp))
  | bl j=>cases ry; exact PySem.EqMixed.eq_str_bool (fin_bl I q (by simp))
  | int j=>obtain ⟨t',rfl⟩:=ry; exact PySem.EqMixed.eq_str_int (fin_bl I q (by simp))
  | str j=>obtain ⟨t',rfl⟩:=ry; exact eq_str (fin_bl I q dec_str)
  | _=>exact absurd (show false = true from hs) Bool.false_ne_true
 | byt i=>
  obtain ⟨t,rfl⟩:=rx
  cases y with
  | byt j=>obtain ⟨t',rfl⟩:=ry; exact PySem.W.eq_bytes (fin_bl I q dec_byt)
  | _=>exact absurd (show false = true from hs) Bool.false_ne_true
 | _=>cases y <;> exact absurd (show false = true from hs) Bool.false_ne_true
theorem op_ne:OpR X (compareOp .NotEq) rNe:=by
 intro pins s σ H x y v u Q I rx ry h
 obtain ⟨hs,q⟩:=h
 cases x with
 | non=>
  cases rx
  cases y with
  | non=>cases ry; exact PySem.EqNone.ne_none_none (fin_bl I q (by simp))
  | bl j=>cases ry; exact PySem.EqNone.ne_none_bool (fin_bl I q (by simp))
  | int j=>obtain ⟨t',rfl⟩:=ry; exact PySem.EqNone.ne_none_int (fin_bl I q (by simp))
  | str j=>obtain ⟨t',rfl⟩:=ry; exact PySem.EqNone.ne_none_str (fin_bl I q (by simp))
  | _=>exact absurd (show false = true from hs) Bool.false_ne_true
 | bl i=>
  cases rx
  cases y with
  | non=>cases ry; exact PySem.EqNone.ne_bool_none (fin_bl I q (by simp))
  | bl j=>cases ry; exact ne_bool (fin_bl I q (congrArg not dec_bl))
  | str j=>obtain ⟨t',rfl⟩:=ry; exact PySem.EqMixed.ne_bool_str (fin_bl I q (by simp))
  | _=>exact absurd (show false = true from hs) Bool.false_ne_true
 | int i=>
  obtain ⟨t,rfl⟩:=rx
  cases y with
  | non=>cases ry; exact PySem.EqNone.ne_int_none (fin_bl I q (by simp))
  | int j=>obtain ⟨t',rfl⟩:=ry; exact ne_int (fin_bl I q (congrArg not dec_int))
  | str j=>obtain ⟨t',rfl⟩:=ry; exact PySem.EqMixed.ne_int_str (fin_bl I q (by simp))
  | _=>exact absurd (show false = true from hs) Bool.false_ne_true
 | str i=>
  obtain ⟨t,rfl⟩:=rx
  cases y with
  | non=>cases ry; exact PySem.EqNone.ne_str_none (fin_bl I q (by simp))
  | bl j=>cases ry; exact PySem.EqMixed.ne_str_bool (fin_bl I q (by simp))
  | int j=>obtain ⟨t',rfl⟩:=ry; exact PySem.EqMixed.ne_str_int (fin_bl I q (by simp))
  | str j=>obtain ⟨t',rfl⟩:=ry; exact ne_str (fin_bl I q (congrArg not dec_str))
  | _=>exact absurd (show false = true from hs) Bool.false_ne_true
 | byt i=>
  obtain ⟨t,rfl⟩:=rx
  cases y with
  | byt j=>obtain ⟨t',rfl⟩:=ry; exact PySem.W.ne_bytes (fin_bl I q (congrArg not dec_byt))
  | _=>exact absurd (show false = true from hs) Bool.false_ne_true
 | _=>cases y <;> exact absurd (show false = true from hs) Bool.false_ne_true
theorem op_lt:OpR X (compareOp .Lt) (rI0 fun i j=>.bl (decide (i < j))):=opB0 fun _ _ _ _ _ _ _ q=>lt_int q
theorem op_le:OpR X (compareOp .LtE) (rI0 fun i j=>.bl (decide (i<=j))):=opB0 fun _ _ _ _ _ _ _ q=>le_int q
theorem op_gt:OpR X (compareOp .Gt) (rI0 fun i j=>.bl (decide (j < i))):=opB0 fun _ _ _ _ _ _ _ q=>gt_int q
theorem op_in_str:OpR X (compareOp .In) (fun x y H Q=>∃ i j,x = .str i/\y = .str j/\Q (.bl (!(Builtin.Str.occurrences j i 0 j.length 1).isEmpty)) H):=by
 intro pins s σ H x y v u Q I rx ry h
 obtain ⟨i,j,rfl,rfl,q⟩:=h
 obtain ⟨t,rfl⟩:=rx
 obtain ⟨t',rfl⟩:=ry
 exact in_str (fin_bl I q rfl)
theorem OpR.or {f:Value->Value->Sem Value} {r r':R2} (h:OpR X f r) (h':OpR X f r'):OpR X f (fun x y H Q=>r x y H Q\/r' x y H Q):=by
 intro pins s σ H x y v u Q I rx ry q
 rcases q with q | q
 ·exact h pins s σ H x y v u Q I rx ry q
 ·exact h' pins s σ H x y v u Q I rx ry q
theorem nomark (b:Expr) {op:CmpOp} (h:op ≠ .In:=by decide) (h2:op ≠ .NotIn:=by decide):behindInMarks op b = false:=by
 have e1:(op == CmpOp.In) = false:=by cases op <;> first | rfl | exact absurd rfl h
 have e2:(op == CmpOp.NotIn) = false:=by cases op <;> first | rfl | exact absurd rfl h2
 cases b <;> simp [behindInMarks,e1,e2]
theorem pe_cmpR {op:CmpOp} {r:R2} (ho:OpR X (compareOp op) r) (ha:PE X a ta) (hb:PE X b tb) (hm:behindInMarks op b = false):PE X (.Compare a [op] [b] pos) (tOp r ta tb):=by
 refine ⟨?_⟩
 intro pins s σ H Q I h
 exact wpAny_Compare1 (binT ha hb I h fun v u s2 x y H2 I2 rx ry q=>ho pins s2 σ H2 x y v u Q I2 rx ry q) hm
inductive ITest (x:V) (H:Hp) (Q:Bool->Hp->Prop):Prop where
 | mk (k:Bool) (e:x = .bl k) (q:Q k H)
def tTest (t:TE):TT:=fun σ H Q=>t σ H fun x H'=>ITest x H' Q
theorem pt_cmpR {op:CmpOp} {r:R2} (ho:OpR X (compareOp op) r) (ha:PE X a ta) (hb:PE X b tb) (hm:behindInMarks op b = false):PT X (.Compare a [op] [b] pos) (tTest (tOp r ta tb)):=by
 refine ⟨?_⟩
 intro pins s σ H Q I h
 refine wpAny_isTrue_Compare1 (thn (ha pins s σ H _ I h) fun v s1 ⟨x,H1,I1,r1,q1⟩=>thn (hb pins s1 σ H1 _ I1 q1) fun u s2 ⟨y,H2,I2,r2,q2⟩=>
  thn (ho pins s2 σ H2 x y v u _ I2 r1 r2 q2) fun c s3 ⟨z,H3,I3,r3,k,e,q3⟩=>?_) hm
 subst e
 cases r3
 exact wpAny_truthy_bool ⟨H3,I3,q3⟩
def tChain (r r':R2) (ta tb tc:TE):TE:=fun σ H Q=>ta σ H fun x H1=>tb σ H1 fun y H2=>r x y H2 fun z H3=>∃ k,z = .bl k/\
 (if k = true then tc σ H3 fun w' H4=>r' y w' H4 Q else Q (.bl false) H3)
theorem pt_chain {op op':CmpOp} {r r':R2} (ho:OpR X (compareOp op) r) (ho':OpR X (compareOp op') r') (ha:PE X a ta) (hb:PE X b tb) (hc:PE X c tc)
  (hm:lastMarks [op,op'] [b,c] = false:=by with_unfolding_all rfl):PT X (.Compare a [op,op'] [b,c] pos) (tTest (tChain r r' ta tb tc)):=by
 refine ⟨?_⟩
 intro pins s σ H Q I h
 refine isTrue_chain (thn (ha pins s σ H _ I h) fun v s1 ⟨x,H1,I1,r1,q1⟩=>test_link (thn (hb pins s1 σ H1 _ I1 q1) fun u s2 ⟨y,H2,I2,r2,q2⟩=>
  thn (ho pins s2 σ H2 x y v u _ I2 r1 r2 q2) fun d s3 ⟨z,H3,I3,r3,k,e,q3⟩=>?_)) hm
 subst e
 cases r3
 refine wpAny_truthy_bool ?_
 cases k with
 | false=>
  obtain ⟨k',e',q'⟩:=q3
  cases e'
  exact ite_ff ⟨H3,I3,q'⟩
 | true=>
  refine ite_tt (test_last (thn (hc pins s3 σ H3 _ I3 q3) fun w' s4 ⟨z',H4,I4,r4,q4⟩=>thn (ho' pins s4 σ H4 y z' u w' _ I4 r2 r4 q4) fun d' s5 ⟨z2,H5,I5,r5,k2,e2,q5⟩=>?_))
  subst e2
  cases r5
  exact wpAny_truthy_bool ⟨H5,I5,q5⟩
theorem line63:(sizeLine:Nat) < 2 ^ 63:=by rw [sizeLine_eq]; decide
theorem op_add_str:OpR X (binaryOp .Add) (fun x y H Q=>∃ i j,x = .str i/\y = .str j/\i.length + j.length<=sizeLine/\Q (.str (i ++ j)) H):=by
 intro pins s σ H x y v u Q I rx ry h
 obtain ⟨i,j,rfl,rfl,hz,q⟩:=h
 obtain ⟨t,rfl⟩:=rx
 obtain ⟨t',rfl⟩:=ry
 exact add_str (fun t' tk=>⟨.str (i ++ j),H,I.tok _,⟨_,rfl⟩,q⟩) hz
theorem vals1 {x:V} {us:List Value} (r:Vals [x] us):∃ u,us = [u]/\RelV x u:=by
 cases r with
 | cons r1 r2=>cases r2; exact ⟨_,rfl,r1⟩
theorem vals2 {x y:V} {us:List Value} (r:Vals [x,y] us):∃ u w',us = [u,w']/\RelV x u/\RelV y w':=by
 cases r with
 | cons r1 r2=>
  cases r2 with
  | cons r3 r4=>cases r4; exact ⟨_,_,rfl,r1,r3⟩
theorem call_max2 (hc:X.calm = true):CallR X (.builtin "max") (fun xs H Q=>∃ i j,xs = [.int i,.int j]/\Q (.int (if j > i then j else i)) H):=by
 intro pins s σ H xs us Q I r h
 obtain ⟨i,j,rfl,q⟩:=h
 obtain ⟨u,w',rfl,⟨t,rfl⟩,⟨t',rfl⟩⟩:=vals2 r
 refine max_two_ints (I.ok.hd hc) fun h' tk k=>⟨_,H,I.kept k,?_,q⟩
 by_cases hj:j > i
 ·rw [if_pos hj,if_pos hj]; exact ⟨_,rfl⟩
 ·rw [if_neg hj,if_neg hj]; exact ⟨_,rfl⟩
theorem call_int1:CallR X (.type "int") (fun xs H Q=>(∃ i,xs = [.int i]/\Q (.int i) H)\/∃ k,xs = [.bl k]/\Q (.int (if k then 1 else 0)) H):=by
 intro pins s σ H xs us Q I r h
 rcases h with ⟨i,rfl,q⟩ | ⟨k,rfl,q⟩
 ·obtain ⟨u,rfl,t,rfl⟩:=vals1 r
  exact call_int_int ⟨.int i,H,I,⟨_,rfl⟩,q⟩
 ·obtain ⟨u,rfl,r1⟩:=vals1 r
  cases r1
  exact call_int_bool ⟨.int (if k then 1 else 0),H,I.tok _,⟨_,rfl⟩,q⟩
end
structure ObjM (h:Heap) (x dx C:Addr) (mA:Str->Option Value):Prop where
 obj:h.get? x = some (PySem.W.instObj C dx)
 ns:h.Ns1 dx mA
 ne:dx ≠ x
theorem lookIn_ns {h:Heap} {dx:Addr} {mA:Str->Option Value} (n:h.Ns1 dx mA):∃ od,h.get? dx = some od/\∀ name,PySem.W.lookIn name od = some (mA name):=by
 obtain ⟨o,es,ep,ho,hd,hk,_,hm⟩:=n
 refine ⟨o,ho,fun name=>?_⟩
 have e:=hm name
 unfold nsFind findBy at e
 rw [<- Array.find?_toList] at e
 unfold PySem.W.lookIn
 rw [hd]
 dsimp only
 split
 ·rename_i y q
  rw [q] at e
  exact congrArg some e
 ·rename_i q
  rw [q] at e
  have a:es.toList.any (·.refKey) = false:=by
   rw [List.any_eq_false]
   intro y hy
   obtain ⟨z,t,hkey⟩:=hk y (Array.mem_toList_iff.mp hy)
   simp [DictEntry.refKey,hkey]
  have a':¬ es.toList.any (·.refKey) = true:=by rw [a]; exact Bool.false_ne_true
  rw [if_neg a']
  exact congrArg some e
theorem ObjM.look {h:Heap} {x dx C:Addr} {mA:Str->Option Value} (I:ObjM h x dx C mA):∃ od,PySem.W.InstAt h x (PySem.W.instObj C dx) C (some od)/\∀ name,PySem.W.lookIn name od = some (mA name):=
 let ⟨od,ho,hl⟩:=lookIn_ns I.ns
 ⟨od,⟨I.obj,rfl,rfl,ho⟩,hl⟩
section
variable {prog:Program} {w:World} {A:Around} {E:Value->Shared->Prop} {s:Shared} {K:PySem.W.Frag} {x dx C f:Addr} {mA:Str->Option Value} {name:Str} {v:Value}
theorem get_map {expr:Bool} {Q:Value->Shared->Prop} (X:K.In s.heap) (I:ObjM s.heap x dx C mA) (hg:PySem.W.plainGet K C name = true) (hh:PySem.W.hasDictIn K C = true)
  (ha:PySem.W.findIn K (.ref C) name = some none) (hv:mA name = some v) (hv':PySem.W.handedIn v = true) (h:Q v { s with toks:=s.toks + 1 }) :
  wpAny (model prog w) A (getAttr (.ref x) name expr) Q E s:=by
 obtain ⟨od,J,hl⟩:=I.look
 exact PySem.W.get_value X J (PySem.W.plainGet_of hg).1 (PySem.W.findObj_own hh ha rfl (by rw [hl,hv])) hv' h
theorem get_meth {pl:Sem Bool} {Q:Value × List Value->Shared->Prop} (X:K.In s.heap) (I:ObjM s.heap x dx C mA) (hg:PySem.W.plainGet K C name = true)
  (hf:PySem.W.findIn K (.ref C) name = some (some (.ref f))) (ht:PySem.W.isFn K (.ref f) = true) (hv:mA name = none) (h:Q (.ref f,[.ref x]) s) :
  wpAny (model prog w) A (getMethod (.ref x) name pl) Q E s:=by
 obtain ⟨od,J,hl⟩:=I.look
 exact PySem.W.method_fn X J (PySem.W.plainGet_of hg).1 (PySem.W.plainGet_of hg).2 hf (beq_iff_eq.mp ht) (by show (PySem.W.lookIn name od).map (·.isSome) = some false; rw [hl,hv]; rfl) h
theorem set_map {ns:List Str} {Q:Unit->Shared->Prop} (X:K.In s.heap) (I:ObjM s.heap x dx C mA)
  (hs:PySem.W.findIn K (.ref C) "__setattr__" = some (some (.builtin "object.__setattr__"))) (hp:PySem.W.plainOver K C = true) (ht:PySem.W.takerIn K C name = some none) (hh:PySem.W.hasDictIn K C = true)
  (hw:PySem.Within mA ns) (hsz:ns.length<=sizeLine)
  (h:∀ h',ObjM h' x dx C (fun y=>if y = name then some v else mA y)->Heap.SameBut dx s.heap h'->Q () { s with heap:=h',toks:=s.toks + 2 }) :
  wpAny (model prog w) A (setAttr (.ref x) name v) Q E s:=by
 obtain ⟨od,J,hl⟩:=I.look
 refine PySem.W.set_plain X J hs (PySem.W.osa_open (s:={ s with toks:=s.toks + 1 }) (r:=none) X J hp ht fun b=>?_)
 obtain ⟨cd,hc,hd'⟩:=PySem.W.any_some hh
 have hx:s.heap.get? x = some ⟨.ref C,some dx,.plain,#[]⟩:=I.obj
 refine wpAny_bind (wpAny_pure (wpAny_bind (wpAny_bind (wpAny_loadPart hx (wpAny_bind (PySem.W.Looks.here (s:={ s with toks:=s.toks + 1 }) (PySem.W.looks_clsIn X hc) ?_))))))
 rw [hd']
 refine wpAny_pure (a:=some dx) (wpAny_bind (wpAny_pure (wpAny_bind ?_)))
 refine wpAny_nsSet1 (s:={ s with toks:=s.toks + 1 }) I.ns fun h' hn2 hs2=>?_
 obtain ⟨oD,esD,epD,hoD,hdD,hcD⟩:=hn2.count (PySem.Within.cons name v hw)
 refine wpAny_bind (wpAny_lookBehind hoD (by rw [hdD]; exact pastItsLine_dict (Nat.le_trans hcD (by rw [List.length_cons]; omega))) ?_)
 exact wpAny_pure (h _ ⟨(hs2.2 _ (Ne.symm I.ne)).trans I.obj,hn2,I.ne⟩ hs2)
theorem make_map {R:Result->Shared->Prop} {vs:List Value} {kw:List (Str × Value)} (X:K.In s.heap) (hm:PySem.W.makesIn K C = true)
  (hi:PySem.W.findIn K (.ref C) "__init__" = some (some (.ref f))) (hf:PySem.W.typeIn K (.ref f) = some (.type "function"))
  (h:codeAny (model prog w) (A.under (.builtin "type.__call__" ⟨.ref C :: vs,kw⟩)) (.call (.ref f) ⟨.ref (s.heap.objs.size + 1) :: vs,kw⟩) (PySem.W.InitBack (s.heap.objs.size + 1) R)
   { s with heap:=(s.heap.push PySem.W.emptyDict).push (PySem.W.instObj C s.heap.objs.size) }) :
  codeAny (model prog w) A (.call (.ref C) ⟨vs,kw⟩) R s:=by
 obtain ⟨hh,g,d,t,os⟩:=s
 exact PySem.W.make_core (PySem.W.makes_of X hm) (PySem.W.looks_findIn X hi) (fun self=>PySem.W.bind_fn X self hf) (.inl rfl) h
end
def putF (f:Str) (v:V):List (Str × V)->List (Str × V)
 | []=>[(f,v)]
 | (g,x) :: r=>if g = f then (g,v) :: r else (g,x) :: putF f v r
theorem lookup_putF (f g:Str) (v:V):∀ fs:List (Str × V),(putF f v fs).lookup g = if g = f then some v else fs.lookup g
 | []=>by
  show List.lookup g [(f,v)] = _
  by_cases h:g = f
  ·have hb:(g == f) = true:=beq_iff_eq.mpr h
   simp only [List.lookup,hb,if_pos h]
  ·have hb:(g == f) = false:=beq_eq_false_iff_ne.mpr h
   simp only [List.lookup,hb,if_neg h]
 | (k,x) :: r=>by
  have ih:=lookup_putF f g v r
  rw [show putF f v ((k,x) :: r) = (if k = f then (k,v) :: r else (k,x) :: putF f v r) from rfl]
  by_cases hk:k = f
  ·rw [if_pos hk]
   by_cases h:g = k
   ·have hb:(g == k) = true:=beq_iff_eq.mpr h
    simp only [List.lookup,hb,if_pos (h.trans hk)]
   ·have hb:(g == k) = false:=beq_eq_false_iff_ne.mpr h
    simp only [List.lookup,hb,if_neg (fun e:g = f=>h (e.trans hk.symm))]
  ·rw [if_neg hk]
   by_cases h:g = k
   ·have hb:(g == k) = true:=beq_iff_eq.mpr h
    simp only [List.lookup,hb,if_neg (fun e:g = f=>hk (h.symm.trans e))]
   ·have hb:(g == k) = false:=beq_eq_false_iff_ne.mpr h
    simp only [List.lookup,hb]
    exact ih
theorem keys_putF (f:Str) (v:V):∀ fs:List (Str × V),f ∈ (putF f v fs).map (·.1)/\∀ g,g ∈ fs.map (·.1)->g ∈ (putF f v fs).map (·.1)
 | []=>⟨by simp [putF],fun g h=>by simp at h⟩
 | (k,x) :: r=>by
  obtain ⟨i1,i2⟩:=keys_putF f v r
  rw [show putF f v ((k,x) :: r) = (if k = f then (k,v) :: r else (k,x) :: putF f v r) from rfl]
  by_cases hk:k = f
  ·rw [if_pos hk]
   subst hk
   exact ⟨by simp,fun g h=>by simpa using h⟩
  ·rw [if_neg hk]
   refine ⟨?_,fun g h=>?_⟩
   ·rw [List.map_cons]
    exact List.mem_cons_of_mem _ i1
   ·rw [List.map_cons] at h |-
    rcases List.mem_cons.mp h with e | e
    ·exact List.mem_cons.mpr (.inl e)
    ·exact List.mem_cons_of_mem _ (i2 g e)
theorem length_putF (f:Str) (v:V):∀ fs:List (Str × V),(putF f v fs).length<=fs.length + 1
 | []=>by simp [putF]
 | (k,x) :: r=>by
  have ih:=length_putF f v r
  rw [show putF f v ((k,x) :: r) = (if k = f then (k,v) :: r else (k,x) :: putF f v r) from rfl]
  by_cases hk:k = f
  ·rw [if_pos hk,List.length_cons,List.length_cons]; omega
  ·rw [if_neg hk,List.length_cons,List.length_cons]; omega
theorem RelO.some_of {v:V} {o:Option Value} (r:RelO (some v) o):∃ u,o = some u/\RelV v u:=by
 cases o with
 | none=>exact (show False from r).elim
 | some u=>exact ⟨u,rfl,r⟩
theorem RelO.none_of {o:Option Value} (r:RelO none o):o = none:=by
 cases o with
 | none=>rfl
 | some u=>exact (show False from r).elim
theorem handed_of {v:V} {u:Value} (r:RelV v u):PySem.W.handedIn u = true:=by
 cases v with
 | non=>cases (show u = Value.none from r); rfl
 | bl b=>cases (show u = Value.bool b from r); rfl
 | int i=>obtain ⟨t,e⟩:=(show ∃ t,u = Value.int i t from r); cases e; rfl
 | str x=>obtain ⟨t,e⟩:=(show ∃ t,u = Value.str x t from r); cases e; rfl
 | byt b=>obtain ⟨t,e⟩:=(show ∃ t,u = Value.bytes b t from r); cases e; rfl
 | flt b=>obtain ⟨t,e⟩:=(show ∃ t,u = Value.float b t from r); cases e; rfl
 | ref a=>cases (show u = Value.ref a from r); rfl
 | ty n=>cases (show u = Value.type n from r); rfl
section
variable {P:Program} {w:World} {H H':Hp} {h h':Heap} {a C dx:Addr} {fs fs':List (Str × V)}
theorem ins_get (hok:HOk P w H h) (e:H a = some (.ins C dx fs)):∃ mA,ObjM h a dx C mA/\(∀ f,RelO (fs.lookup f) (mA f))/\PySem.Within mA (fs.map (·.1))/\fs.length<=1000/\H dx = some (.own a):=by
 obtain ⟨d,z,ne,ob,mA,n,r,q⟩:=(show ObjOk P w H h a (.ins C dx fs) from hok a _ e)
 exact ⟨mA,⟨ob,n,ne⟩,r,q,z,d⟩
end
structure Cls (K:PySem.W.Frag) (C:Addr):Prop where
 pg:PySem.W.plainGet K C Str.empty = true
 hd:PySem.W.hasDictIn K C = true
 po:PySem.W.plainOver K C = true
 sa:PySem.W.findIn K (.ref C) "__setattr__" = some (some (.builtin "object.__setattr__"))
theorem Cls.get {K:PySem.W.Frag} {C:Addr} (c:Cls K C) (f:Str):PySem.W.plainGet K C f = true:=c.pg
def NoAttr (K:PySem.W.Frag) (C:Addr) (f:Str):Prop:=PySem.W.findIn K (.ref C) f = some none
theorem NoAttr.taker {K:PySem.W.Frag} {C:Addr} {f:Str} (n:NoAttr K C f):PySem.W.takerIn K C f = some none:=by
 unfold PySem.W.takerIn
 rw [show PySem.W.findIn K (.ref C) f = some none from n]
 rfl
structure Meth (K:PySem.W.Frag) (C:Addr) (m:Str) (f:Addr):Prop where
 at_:PySem.W.findIn K (.ref C) m = some (some (.ref f))
 fn:PySem.W.isFn K (.ref f) = true
 kp:PySem.W.keepIn K (.ref f) = true
section
variable {X:Cx} {pins:List (Addr × Obj)} {σ : St} {H:Hp} {s:Shared} {a C dx:Addr} {fs:List (Str × V)} {f:Str} {v:V} {A:Around} {E:Value->Shared->Prop}
theorem getattr_ok {b:Bool} {Q:Value->Shared->Prop} (I:Inv X pins σ H s) (e:H a = some (.ins C dx fs)) (c:Cls X.K C) (n:NoAttr X.K C f) (l:fs.lookup f = some v)
  (h:∀ u s',Inv X pins σ H s'->RelV v u->Q u s'):wpAny (model X.prog X.w) A (getAttr (.ref a) f b) Q E s:=by
 obtain ⟨mA,O,r,_,_,_⟩:=ins_get I.hok e
 obtain ⟨u,hu,ru⟩:=RelO.some_of (v:=v) (o:=mA f) (by rw [<- l]; exact r f)
 exact get_map I.kIn O (c.get f) c.hd n hu (handed_of ru) (h u _ (I.tok _) ru)
theorem getmeth_ok {m:Str} {g:Addr} {pl:Sem Bool} {Q:Value × List Value->Shared->Prop} (I:Inv X pins σ H s) (e:H a = some (.ins C dx fs)) (c:Cls X.K C) (k:Meth X.K C m g) (l:fs.lookup m = none)
  (h:Q (.ref g,[.ref a]) s):wpAny (model X.prog X.w) A (getMethod (.ref a) m pl) Q E s:=by
 obtain ⟨mA,O,r,_,_,_⟩:=ins_get I.hok e
 have hn:mA m = none:=RelO.none_of (by rw [<- l]; exact r m)
 exact get_meth I.kIn O (c.get m) k.at_ k.fn hn h
theorem setattr_ok {y:V} {u:Value} {Q:Unit->Shared->Prop} (I:Inv X pins σ H s) (e:H a = some (.ins C dx fs)) (c:Cls X.K C) (n:NoAttr X.K C f) (hl:fs.length < 1000) (ry:RelV y u)
  (h:∀ s',Inv X pins σ (upd H a (.ins C dx (putF f y fs))) s'->Q () s'):wpAny (model X.prog X.w) A (setAttr (.ref a) f u) Q E s:=by
 obtain ⟨mA,O,r,wi,_,ho⟩:=ins_get I.hok e
 have hz:(fs.map (·.1)).length<=sizeLine:=by rw [List.length_map,sizeLine_eq]; omega
 refine set_map I.kIn O c.sa c.po n.taker c.hd wi hz fun h' O' sb=>h _ ?_
 have hd:∃ o,h'.get? dx = some o:=let ⟨o,_,_,e',_⟩:=O'.ns; ⟨o,e'⟩
 refine I.write (x:=a) (e:=dx) (by rw [e]; exact True.intro) (.inr ho) (fun b q hb z=>(sb.2 b hb).trans z) hd ?_
 refine ⟨by rw [upd_ne O.ne]; exact ho,?_,O.ne,O'.obj,_,O'.ns,fun g=>?_,fun g hg=>?_⟩
 ·have:=length_putF f y fs; omega
 ·show RelO ((putF f y fs).lookup g) (if g = f then some u else mA g)
  rw [lookup_putF]
  by_cases q:g = f
  ·rw [if_pos q,if_pos q]; exact ry
  ·rw [if_neg q,if_neg q]; exact r g
 ·by_cases q:g = f
  ·rw [q]; exact (keys_putF f y fs).1
  ·refine (keys_putF f y fs).2 g (wi g fun z=>hg ?_)
   show (if g = f then some u else mA g) = none
   rw [if_neg q]; exact z
theorem Inv.made (I:Inv X pins σ H s):Inv X pins σ (upd (upd H s.heap.objs.size (.own (s.heap.objs.size + 1))) (s.heap.objs.size + 1) (.ins C s.heap.objs.size []))
  { s with heap:=(s.heap.push PySem.W.emptyDict).push (PySem.W.instObj C s.heap.objs.size) }:=by
 have e1:(s.heap.push PySem.W.emptyDict).get? s.heap.objs.size = some PySem.W.emptyDict:=Heap.get?_push_size s.heap rfl
 have e2:((s.heap.push PySem.W.emptyDict).push (PySem.W.instObj C s.heap.objs.size)).get? (s.heap.objs.size + 1) = some (PySem.W.instObj C s.heap.objs.size):=by
  have:=Heap.get?_push_size (s.heap.push PySem.W.emptyDict) (o:=PySem.W.instObj C s.heap.objs.size) rfl
  rwa [Heap.size_push] at this
 have e3:(s.heap.push PySem.W.emptyDict).Ns s.heap.objs.size (fun _=>none):=⟨PySem.W.emptyDict,#[],_,e1,rfl,(fun e he=>absurd he (by simp)),fun _=>rfl⟩
 have I1:=I.laid (a:=s.heap.objs.size) (o:=.own (s.heap.objs.size + 1)) (h':=s.heap.push PySem.W.emptyDict) (t':=s.toks) (fun b u q=>Heap.get?_push_of_some _ q) (Nat.le_refl _) ⟨_,e1⟩
 refine I1.laid (a:=s.heap.objs.size + 1) (o:=.ins C s.heap.objs.size []) (t':=s.toks) (fun b u q=>Heap.get?_push_of_some _ q) (Nat.le_of_eq (Heap.size_push _ _)) ?_
 have ne:s.heap.objs.size ≠ s.heap.objs.size + 1:=Nat.ne_of_lt (Nat.lt_succ_self _)
 refine ⟨by rw [upd_ne ne,upd_same],Nat.zero_le _,ne,e2,fun _=>none,(Heap.Ns1.of_empty e3).at fun o q=>Heap.get?_push_of_some _ q,fun _=>True.intro,fun y hy=>absurd rfl hy⟩
theorem attr_of {prog:Program} {w:World} {env:Env} {e:Expr} {f:Str} {pos:Pos} {s:Shared} {Q:Value->Shared->Prop} (hb:attributeBase e f env (eval e env) = eval e env)
  (h:wpAny (model prog w) A (eval e env) (fun o s₁=>wpAny (model prog w) A (getAttr o f true) Q E s₁) E s):wpAny (model prog w) A (eval (.Attribute e f pos) env) Q E s:=
 Attribute_any_ h (by rw [arm_eval_Attribute,hb])
end
def tFld (K:PySem.W.Frag) (ta:TE) (f:Str):TE:=fun σ H Q=>ta σ H fun x H1=>∃ a C dx fs v,x = .ref a/\H1 a = some (.ins C dx fs)/\Cls K C/\NoAttr K C f/\fs.lookup f = some v/\Q v H1
def sFld (K:PySem.W.Frag) (ta tv:TE) (f:Str):TS:=fun D σ H=>tv σ H fun y H1=>ta σ H1 fun x H2=>∃ a C dx fs,x = .ref a/\H2 a = some (.ins C dx fs)/\Cls K C/\NoAttr K C f/\fs.length < 1000/\
 D.nx σ (upd H2 a (.ins C dx (putF f y fs)))
section
variable {X:Cx} {o e value:Expr} {f:Str} {pos pos' tpos:Pos} {ta tv:TE}
theorem pe_fld (he:PE X e ta) (hb:attributeBase e f X.env (eval e X.env) = eval e X.env):PE X (.Attribute e f pos) (tFld X.K ta f):=by
 refine ⟨?_⟩
 intro pins s σ H Q I h
 refine attr_of hb (thn (he pins s σ H _ I h) fun u s1 ⟨x,H1,I1,rx,a,C,dx,fs,v,ex,ea,c,n,l,q⟩=>?_)
 subst ex
 obtain rfl:u = Value.ref a:=rx
 exact getattr_ok I1 ea c n l fun u' s2 I2 ru=>⟨v,H1,I2,ru,q⟩
theorem ps_fld (ha:PE X o ta) (hv:PE X value tv) (hs:swapsWith value (some (.Attribute o f pos')) pos.line X.env = pure false):PS X (.Assign [.Attribute o f pos'] value pos) (sFld X.K ta tv f):=by
 refine ⟨?_⟩
 intro pins s σ H D I h
 refine plainObj_wpAny_Assign_Attribute (thn (hv pins s σ H _ I h) fun u s1 ⟨y,H1,I1,ry,q⟩=>thn (ha pins s1 σ H1 _ I1 q) fun ov s2 ⟨x,H2,I2,rx,a,C,dx,fs,ex,ea,c,n,l,q2⟩=>?_) hs
 subst ex
 obtain rfl:ov = Value.ref a:=rx
 exact setattr_ok I2 ea c n l ry fun s3 I3=>⟨σ,_,I3,q2⟩
theorem methcall_of {pl:Sem Bool} {m:Str} {apos:Pos} {args:List Expr} {pins:List (Addr × Obj)} {s:Shared} {σ : St} {H:Hp} {Q:Value->Shared->Prop} {te:TE} (he:PE X e te) (I:Inv X pins σ H s)
  (h:te σ H fun x H1=>∃ a C dx fs g,x = .ref a/\H1 a = some (.ins C dx fs)/\Cls X.K C/\Meth X.K C m g/\fs.lookup m = none/\
   ∀ s1,Inv X pins σ H1 s1->wpAny (model X.prog X.w) X.A (callWith pos (.ref g) [.ref a] (backTo pos (starEach args X.env)) (backToKw pos (keywordEach [] X.env))) Q X.xe s1)
  (ht:eval (.Call (.Attribute e m apos) args [] pos) X.env = (do
   let ov <- eval e X.env
   standAt apos.atName
   let (f,first) <- holding [ov] (getMethod ov m pl)
   callWith pos f first (backTo pos (starEach args X.env)) (backToKw pos (keywordEach [] X.env)))) :
  wpAny (model X.prog X.w) X.A (eval (.Call (.Attribute e m apos) args [] pos) X.env) Q X.xe s:=by
 refine PySem.W.methodCall_KW (pl:=pl) (thn (he pins s σ H _ I h) fun u s1 ⟨x,H1,I1,rx,a,C,dx,fs,g,ex,ea,c,k,l,q⟩=>?_) ht
 subst ex
 obtain rfl:u = Value.ref a:=rx
 exact getmeth_ok I1 ea c k l (q s1 I1)
end
section
variable {X:Cx} {pins:List (Addr × Obj)} {σ : St} {H:Hp} {s:Shared} {A:Around} {E:Value->Shared->Prop} {Q:Value->Shared->Prop} {c:Value} {b:Bool}
inductive TyOf (K:PySem.W.Frag) (H:Hp):V->Value->Prop where
 | non:TyOf K H .non (.type "NoneType")
 | bl (x:Bool):TyOf K H (.bl x) (.type "bool")
 | int (i:Int):TyOf K H (.int i) (.type "int")
 | str (x:Str):TyOf K H (.str x) (.type "str")
 | flt (x:UInt64):TyOf K H (.flt x) (.type "float")
 | lst {a:Addr} {xs:List V} (e:H a = some (.lst xs)):TyOf K H (.ref a) (.type "list")
 | frz {a:Addr} {o:Obj} {xs:List V} (e:H a = some (.frz o (.lst xs))):TyOf K H (.ref a) (.type "list")
 | tup {a:Addr} {xs:List V} (e:H a = some (.tup xs)):TyOf K H (.ref a) (.type "tuple")
 | dK {a:Addr} {kvs:List (Key × V)} (e:H a = some (.dK kvs)):TyOf K H (.ref a) (.type "dict")
 | dT {a:Addr} {kvs:List (List Key × V)} (e:H a = some (.dT kvs)):TyOf K H (.ref a) (.type "dict")
 | ins {a C dx:Addr} {fs:List (Str × V)} (e:H a = some (.ins C dx fs)) (cl:Cls K C) (ha:PySem.W.findIn K (.ref C) "__class__" = some (some (.builtin "object.__class__")))
   (hn:PySem.W.specialIn K (.builtin "object.__class__") "__get__" = some (some (.builtin "getset_descriptor.__get__"))) (htk:PySem.W.takesIn K (.builtin "object.__class__") = some true)
   (hm:PySem.W.mroIn K C (.type "object") = some true):TyOf K H (.ref a) (.ref C)
theorem isinst_ok {x:V} {u t:Value} (I:Inv X pins σ H s) (rx:RelV x u) (ty:TyOf X.K H x t) (e:PySem.W.kitOne X.K t c = some b) (h:∀ tk,Q (.bool b) { s with toks:=tk }) :
  wpAny (model X.prog X.w) A (call (.builtin "isinstance") [u,c]) Q E s:=by
 cases ty with
 | non=>cases (show u = Value.none from rx); exact PySem.W.kia_one PySem.W.kitx_none I.kIn True.intro e (fun z=>nomatch z) h
 | bl y=>cases (show u = Value.bool y from rx); exact PySem.W.kia_one PySem.W.kitx_bool I.kIn True.intro e (fun z=>nomatch z) h
 | int i=>obtain ⟨t,q⟩:=(show ∃ t,u = Value.int i t from rx); cases q; exact PySem.W.kia_one PySem.W.kitx_int I.kIn True.intro e (fun z=>nomatch z) h
 | str y=>obtain ⟨t,q⟩:=(show ∃ t,u = Value.str y t from rx); cases q; exact PySem.W.kia_one PySem.W.kitx_str I.kIn True.intro e (fun z=>nomatch z) h
 | flt y=>obtain ⟨t,q⟩:=(show ∃ t,u = Value.float y t from rx); cases q; exact PySem.W.kia_one PySem.W.kitx_float I.kIn True.intro e (fun z=>nomatch z) h
 | @lst a xs ea=>
  cases (show u = Value.ref a from rx)
  obtain ⟨_,_,n,_,h1⟩:=(show ObjOk X.prog X.w H s.heap a (.lst xs) from I.hok a _ ea)
  exact PySem.W.kia_one PySem.W.kitx_list I.kIn ⟨_,h1,rfl⟩ e (fun z=>nomatch z) h
 | @frz a ob xs ea=>
  cases (show u = Value.ref a from rx)
  obtain ⟨_,_,_,n,_,h1⟩:=(show ObjOk X.prog X.w H s.heap a (.frz ob (.lst xs)) from I.hok a _ ea)
  exact PySem.W.kia_one PySem.W.kitx_list I.kIn ⟨_,h1,rfl⟩ e (fun z=>nomatch z) h
 | @tup a xs ea=>
  cases (show u = Value.ref a from rx)
  obtain ⟨_,_,_,p⟩:=(show ObjOk X.prog X.w H s.heap a (.tup xs) from I.hok a _ ea)
  obtain ⟨o,h1,h2,_⟩:=p
  exact PySem.W.kia_one PySem.W.kitx_tuple I.kIn ⟨o,h1,h2⟩ e (fun z=>nomatch z) h
 | @dK a kvs ea=>
  cases (show u = Value.ref a from rx)
  obtain ⟨_,_,vs,_,p⟩:=(show ObjOk X.prog X.w H s.heap a (.dK kvs) from I.hok a _ ea)
  obtain ⟨o,es,ep,h1,h2,_⟩:=p
  exact PySem.W.kia_one PySem.W.kitx_dict I.kIn ⟨o,h1,h2.1⟩ e (fun z=>nomatch z) h
 | @dT a kvs ea=>
  cases (show u = Value.ref a from rx)
  obtain ⟨_,_,xs,_,o,es,ep,h1,h2,_⟩:=(show ObjOk X.prog X.w H s.heap a (.dT kvs) from I.hok a _ ea)
  exact PySem.W.kia_one PySem.W.kitx_dict I.kIn ⟨o,h1,h2.1⟩ e (fun z=>nomatch z) h
 | @ins a C dx fs ea cl ha hn htk hm=>
  cases (show u = Value.ref a from rx)
  obtain ⟨mA,O,_⟩:=ins_get I.hok ea
  obtain ⟨od,J,_⟩:=O.look
  exact PySem.W.kia_one (PySem.W.kitx_own (cl.get _) cl.hd ha hn htk hm) I.kIn J e (fun z=>nomatch z) h
end
structure Room (k:Nat) (A:Around):Prop where
 hd:A.handled = none
 dp:A.depth + 3 * k + 5 < recursionLimit
 un:A.units + 16 * k + 200 < cLine
theorem Room.mono {j k:Nat} {A:Around} (r:Room k A) (h:j<=k):Room j A:=⟨r.hd,by have:=r.dp; omega,by have:=r.un; omega⟩
theorem Room.deeper {k:Nat} {A:Around} (r:Room (k + 1) A) (env:Env):Room k (A.deeper env):=
 ⟨r.hd,by have:=r.dp; show A.depth + 1 + 3 * k + 5 < _; omega,by have:=r.un; show A.units + 3 + 16 * k + 200 < _; omega⟩
theorem make_depth {A:Around} {C:Addr} {us:List Value} {kw:List (Str × Value)}:(A.under (.builtin "type.__call__" ⟨.ref C :: us,kw⟩)).depth = A.depth + 1:=by
 first | rfl | simp [Around.under,Code.weight,Code.isCreation,Code.isGuard,Code.isCaller,Code.frames,Code.isFrame,guardIds]
theorem make_units {A:Around} {C:Addr} {us:List Value} {kw:List (Str × Value)}:(A.under (.builtin "type.__call__" ⟨.ref C :: us,kw⟩)).units = A.units + 1:=by
 first | rfl | simp [Around.under,Code.cUnits,Code.frames,Code.isFrame]
theorem Room.make {k:Nat} {A:Around} (r:Room (k + 1) A) (C:Addr) (us:List Value) (kw:List (Str × Value)):Room k (A.under (.builtin "type.__call__" ⟨.ref C :: us,kw⟩)):=
 ⟨r.hd,by have:=r.dp; rw [make_depth]; omega,by have:=r.un; rw [make_units]; omega⟩
theorem Room.depth {k:Nat} {A:Around} (r:Room k A):A.depth < recursionLimit:=by have:=r.dp; omega
theorem Room.units {k:Nat} {A:Around} (r:Room k A):A.units + 64 < cLine:=by have:=r.un; omega
theorem Room.units0 {k:Nat} {A:Around} (r:Room k A):A.units < cLine:=by have:=r.un; omega
def tNil:TA:=fun _ H Q=>Q [] H
def tCons (ta:TE) (tr:TA):TA:=fun σ H Q=>ta σ H fun x H1=>tr σ H1 fun xs H2=>Q (x :: xs) H2
section
variable {X:Cx} {e:Expr} {es:List Expr} {te:TE} {t:TA} {pos:Pos}
theorem pa_nil:PA X [] tNil:=⟨fun _ _ _ _ H Q I h=>Calls.spliced_nil ⟨[],H,I,.nil,h⟩⟩
theorem pa_cons (ha:PE X e te) (hr:PA X es t) (hs:starEach (e :: es) X.env = (false,eval e X.env) :: starEach es X.env:=by rfl):PA X (e :: es) (tCons te t):=by
 refine ⟨?_⟩
 intro pos pins s σ H Q I h
 rw [hs]
 show wpAny _ _ (spliced ((false,eval e X.env) :: backTo pos (starEach es X.env))) _ _ s
 refine Calls.spliced_cons (thn (ha pins s σ H _ I h) fun u s1 ⟨x,H1,I1,r1,q1⟩=>?_)
 exact thn (hr pos pins s1 σ H1 _ I1 q1) fun us s2 ⟨xs,H2,I2,r2,q2⟩=>⟨x :: xs,H2,I2,.cons r1 r2,q2⟩
def tTup (t:TA):TE:=fun σ H Q=>t σ H fun xs H1=>xs.length<=sizeLine/\∀ p,H1 p = none->Q (.ref p) (upd H1 p (.tup xs))
def tLst (t:TA):TE:=fun σ H Q=>t σ H fun xs H1=>xs.length<=sizeLine/\∀ p,H1 p = none->Q (.ref p) (upd H1 p (.lst xs))
theorem pe_tup {x1} (h:PA X es t):PE X (.Tuple es x1 pos) (tTup t):=by
 refine ⟨?_⟩
 intro pins s σ H Q I hq
 refine wpAny_Tuple_spliced (thn (h pos pins s σ H _ I hq) fun us s1 ⟨xs,H1,I1,r,z,q⟩=>⟨by rw [<- r.length]; exact z,?_⟩)
 have hf:H1 s1.heap.objs.size = none:=I1.hok.fresh (Nat.le_refl _)
 refine ⟨.ref s1.heap.objs.size,upd H1 s1.heap.objs.size (.tup xs),I1.laid (t':=s1.toks) (fun b u e=>Heap.get?_push_of_some _ e) (Nat.le_refl _) ?_,rfl,q _ hf⟩
 exact ⟨z,us,r,⟨_,Heap.get?_push_size _ rfl,rfl,_,rfl⟩⟩
theorem pe_lst (h:PA X es t):PE X (.List es pos) (tLst t):=by
 refine ⟨?_⟩
 intro pins s σ H Q I hq
 refine wpAny_List_spliced (thn (h pos pins s σ H _ I hq) fun us s1 ⟨xs,H1,I1,r,z,q⟩=>⟨by rw [<- r.length]; exact z,?_⟩)
 have hf:H1 s1.heap.objs.size = none:=I1.hok.fresh (Nat.le_refl _)
 refine ⟨.ref s1.heap.objs.size,upd H1 s1.heap.objs.size (.lst xs),I1.laid (t':=s1.toks) (fun b u e=>Heap.get?_push_of_some _ e) (Nat.le_refl _) ?_,rfl,q _ hf⟩
 exact ⟨z,us,0,r,Heap.get?_push_size _ rfl⟩
end
abbrev Sp:=List V->Hp->VK->XK->Prop
abbrev CXT:=List Env->Hp->Shared->XK->Value->Shared->Prop
structure Env0 (P:Program) (w:World) (K:PySem.W.Frag) (mg:Str->Option Value) (base:Heap) (A:Around) (outer:List Env) (s:Shared) (H:Hp):Prop where
 frames:A.frames = some outer
 mod:Mod K mg base
 bs:∀ b o,base.get? b = some o->s.heap.get? b = some o/\H b = none
 bsz:base.objs.size<=s.heap.objs.size
 funs:s.heap.FunFrames base outer
 frf:∀ b ∈ frs outer,H b = none
 hok:HOk P w H s.heap
 bare:AllBare s.gens
def CE (outer:List Env) (P:Program) (w:World) (H:Hp) (s:Shared) (Q:VK) (u:Value) (s':Shared):Prop:=
 ∃ v H',s'.os = s.os/\AllBare s'.gens/\Un (frs outer) [] H H' s.heap s'.heap/\HOk P w H' s'.heap/\RelV v u/\Q v H'
def CR (CX:CXT) (outer:List Env) (P:Program) (w:World) (H:Hp) (s:Shared) (Q:VK) (E:XK) (r:Result) (s':Shared):Prop:=
 match r with
 | .ok (.ret u)=>CE outer P w H s Q u s'
 | .ok _=>False
 | .error e=>CX outer H s E e s'
structure FnOk (P:Program) (w:World) (K:PySem.W.Frag) (mg:Str->Option Value) (base:Heap) (CX:CXT) (k:Nat) (f:Addr) (fd:FuncData) (ps:List Str) (sp:Sp):Prop where
 len:∀ vs H Q E,sp vs H Q E->vs.length = ps.length
 run:∀ (A:Around) (outer:List Env) (s:Shared) (H:Hp) (args:Args) (us:List Value) (vs:List V) (Q:VK) (E:XK),Room k A->Env0 P w K mg base A outer s H->BindsTo s fd args (ps.zip us)->Vals vs us->sp vs H Q E->
  codeAny (model P w) A (.call (.ref f) args) (CR CX outer P w H s Q E) s
theorem Env0.make {P:Program} {w:World} {K:PySem.W.Frag} {mg:Str->Option Value} {base:Heap} {A:Around} {outer:List Env} {s:Shared} {H:Hp} (e:Env0 P w K mg base A outer s H) (C:Addr) (us:List Value) (kw:List (Str × Value)) :
  Env0 P w K mg base (A.under (.builtin "type.__call__" ⟨.ref C :: us,kw⟩)) outer s H:=⟨by first | exact e.frames | (simpa [Around.under,Code.envs,Code.isFrame,pushEnvs] using e.frames),e.mod,e.bs,e.bsz,e.funs,e.frf,e.hok,e.bare⟩
section
variable {X:Cx} {pins:List (Addr × Obj)} {σ : St} {H:Hp} {s s':Shared}
theorem Inv.env0 (I:Inv X pins σ H s):Env0 X.prog X.w X.K X.mg X.base X.A X.stack s H:=
 ⟨I.ok.frames,I.ok.mod,I.bs,Nat.le_trans I.ok.bsz I.sz,I.stack,I.stkFree,I.hok,I.bare⟩
theorem Inv.after {Q:VK} {u:Value} (I:Inv X pins σ H s) (h:CE X.stack X.prog X.w H s Q u s'):EP X pins σ Q u s':=by
 obtain ⟨v,H',os,bare,un,hok,r,q⟩:=h
 obtain ⟨hh,g,d,t,os'⟩:=s'
 obtain rfl:os' = s.os:=os
 exact ⟨v,H',I.call (h':=hh) (g':=g) (d':=d) (t':=t) (ch:=[]) un hok bare (fun b z=>absurd z (by simp)),r,q⟩
end
def tCall (sp:Sp) (dvs:List V) (E:XK) (t:TA):TE:=fun σ H Q=>t σ H fun vs H1=>sp (vs ++ dvs) H1 Q E
def tMeth (C:Addr) (m:Str) (sp:Sp) (dvs:List V) (E:XK) (ta:TE) (t:TA):TE:=fun σ H Q=>ta σ H fun x H1=>∃ a dx fs,x = .ref a/\H1 a = some (.ins C dx fs)/\fs.lookup m = none/\
 t σ H1 fun vs H2=>sp (x :: (vs ++ dvs)) H2 Q E
def tMake (C:Addr) (sp:Sp) (dvs:List V) (E:XK) (t:TA):TE:=fun σ H Q=>t σ H fun vs H1=>∀ x dx,H1 x = none->H1 dx = none->dx ≠ x->
 sp (.ref x :: (vs ++ dvs)) (upd (upd H1 dx (.own x)) x (.ins C dx [])) (fun v H2=>v = .non/\Q (.ref x) H2) E
def Binds (K:PySem.W.Frag) (fd:FuncData) (ps:List Str) (ds:List Value):Prop:=
 ∀ (s:Shared) (us:List Value),K.In s.heap->(us ++ ds).length = ps.length->BindsTo s fd ⟨us,[]⟩ (ps.zip (us ++ ds))
theorem Binds.all {K:PySem.W.Frag} {fd:FuncData} {ps:List Str} (h:∀ us:List Value,us.length = ps.length->bindArgs fd ⟨us,[]⟩ = pure (ps.zip us)):Binds K fd ps []:=fun s us _ hl=>by
 rw [List.append_nil] at hl |-
 exact .of_eq (h us hl)
def Passes (CX:CXT) (X:Cx) (E:XK):Prop:=∀ (pins:List (Addr × Obj)) (σ : St) (H:Hp) (s:Shared) (e:Value) (s':Shared),Inv X pins σ H s->CX X.stack H s E e s'->X.xe e s'
section
variable {X:Cx} {CX:CXT} {k:Nat} {f C:Addr} {fd:FuncData} {ps:List Str} {sp:Sp} {dvs:List V} {ds:List Value} {E:XK} {x m:Str} {p pos apos:Pos} {e o:Expr} {es:List Expr} {ta:TE} {t:TA}
theorem run_fn {pins:List (Addr × Obj)} {σ : St} {H:Hp} {s:Shared} {Q:VK} {us:List Value} {vs:List V} (F:FnOk X.prog X.w X.K X.mg X.base CX k f fd ps sp) (hr:Room k X.A) (hb:Binds X.K fd ps ds) (hd:Vals dvs ds) (hx:Passes CX X E)
  (I:Inv X pins σ H s) (r:Vals vs us) (h:sp (vs ++ dvs) H Q E):wpAny (model X.prog X.w) X.A (call (.ref f) us) (EP X pins σ Q) X.xe s:=by
 have r2:Vals (vs ++ dvs) (us ++ ds):=r.append hd
 have hl:(us ++ ds).length = ps.length:=by rw [<- r2.length]; exact F.len _ _ _ _ h
 refine wpAny_call (codeAny_mono (F.run X.A X.stack s H ⟨us,[]⟩ (us ++ ds) (vs ++ dvs) Q E hr I.env0 (hb s us I.kIn hl) r2 h) fun r s' hq=>?_)
 cases r with
 | error e=>exact hx pins σ H s e s' I hq
 | ok fl=>
  cases fl with
  | ret u=>exact I.after hq
  | next=>exact False.elim hq
  | brk=>exact False.elim hq
  | cont=>exact False.elim hq
theorem pe_call (F:FnOk X.prog X.w X.K X.mg X.base CX k f fd ps sp) (hr:Room k X.A) (hg:Gl X x) (hm:X.mg x = some (.ref f)) (hk:PySem.W.keepIn X.K (.ref f) = true) (hb:Binds X.K fd ps ds) (hd:Vals dvs ds) (hx:Passes CX X E)
  (ha:PA X (e :: es) t) (hdb:(x == ("__debug__" : Str)) = false:=by decide) (he:starEach (e :: es) X.env = (false,eval e X.env) :: starEach es X.env:=by rfl) (hpl:(backTo pos (starEach es X.env)).any (·.1) = false:=by rfl) :
  PE X (.Call (.Name x p) (e :: es) [] pos) (tCall sp dvs E t):=by
 refine ⟨?_⟩
 intro pins s σ H Q I h
 refine wpAny_Call_Name_kw (ld_glob I hg hm ?_ hdb)
 refine PySem.W.callWith_K (h₀:=X.base) I.ok.mod.kin hk (thn (ha pos pins s σ H _ I h) fun us s1 ⟨vs,H1,I1,r,q⟩=>⟨I1.kIn,?_⟩) he hpl
 exact run_fn F hr hb hd hx I1 r q
theorem pe_meth {pl:Sem Bool} (he:PE X o ta) (c:Cls X.K C) (hm:Meth X.K C m f) (F:FnOk X.prog X.w X.K X.mg X.base CX k f fd ps sp) (hr:Room k X.A) (hb:Binds X.K fd ps ds) (hd:Vals dvs ds) (hx:Passes CX X E) (ha:PA X (e :: es) t)
  (hst:starEach (e :: es) X.env = (false,eval e X.env) :: starEach es X.env:=by rfl) (hpl:(backTo pos (starEach es X.env)).any (·.1) = false:=by rfl)
  (ht:eval (.Call (.Attribute o m apos) (e :: es) [] pos) X.env = (do
   let ov <- eval o X.env
   standAt apos.atName
   let (f,first) <- holding [ov] (getMethod ov m pl)
   callWith pos f first (backTo pos (starEach (e :: es) X.env)) (backToKw pos (keywordEach [] X.env))):=by rfl) :
  PE X (.Call (.Attribute o m apos) (e :: es) [] pos) (tMeth C m sp dvs E ta t):=by
 refine ⟨?_⟩
 intro pins s σ H Q I h
 refine PySem.W.methodCall_KW (pl:=pl) (thn (he pins s σ H _ I h) fun u s1 ⟨x,H1,I1,rx,a,dx,fs,ex,ea,l,q⟩=>?_) ht
 subst ex
 obtain rfl:u = Value.ref a:=rx
 refine getmeth_ok I1 ea c hm l ?_
 refine PySem.W.callWith_K (first:=[.ref a]) (h₀:=X.base) I.ok.mod.kin hm.kp (thn (ha pos pins s1 σ H1 _ I1 q) fun us s2 ⟨vs,H2,I2,r,q2⟩=>⟨I2.kIn,?_⟩) hst hpl
 exact run_fn (us:=.ref a :: us) (vs:=.ref a :: vs) F hr hb hd hx I2 (.cons rfl r) q2
theorem pe_meth0 {pl:Sem Bool} (he:PE X o ta) (c:Cls X.K C) (hm:Meth X.K C m f) (F:FnOk X.prog X.w X.K X.mg X.base CX k f fd ps sp) (hr:Room k X.A) (hb:Binds X.K fd ps ds) (hd:Vals dvs ds) (hx:Passes CX X E)
  (ht:eval (.Call (.Attribute o m apos) [] [] pos) X.env = (do
   let ov <- eval o X.env
   standAt apos.atName
   let (f,first) <- holding [ov] (getMethod ov m pl)
   callWith pos f first (backTo pos (starEach [] X.env)) (backToKw pos (keywordEach [] X.env))):=by rfl) :
  PE X (.Call (.Attribute o m apos) [] [] pos) (tMeth C m sp dvs E ta tNil):=by
 refine ⟨?_⟩
 intro pins s σ H Q I h
 refine PySem.W.methodCall_KW (pl:=pl) (thn (he pins s σ H _ I h) fun u s1 ⟨x,H1,I1,rx,a,dx,fs,ex,ea,l,q⟩=>?_) ht
 subst ex
 obtain rfl:u = Value.ref a:=rx
 refine getmeth_ok I1 ea c hm l ?_
 exact PySem.W.callWith_K0 (first:=[.ref a]) I1.kIn hm.kp (run_fn (us:=[.ref a]) (vs:=[.ref a]) F hr hb hd hx I1 (.cons rfl .nil) q)
structure Mk (K:PySem.W.Frag) (C f:Addr):Prop where
 makes:PySem.W.makesIn K C = true
 init:PySem.W.findIn K (.ref C) "__init__" = some (some (.ref f))
 fn:PySem.W.isFn K (.ref f) = true
 kp:PySem.W.keepIn K (.ref C) = true
theorem run_make {pins:List (Addr × Obj)} {σ : St} {H:Hp} {s:Shared} {Q:VK} {us:List Value} {vs:List V} (M:Mk X.K C f) (F:FnOk X.prog X.w X.K X.mg X.base CX k f fd ps sp) (hr:Room (k + 1) X.A) (hb:Binds X.K fd ps ds) (hd:Vals dvs ds)
  (hx:Passes CX X E) (I:Inv X pins σ H s) (r:Vals vs us)
  (h:∀ x dx,H x = none->H dx = none->dx ≠ x->sp (.ref x :: (vs ++ dvs)) (upd (upd H dx (.own x)) x (.ins C dx [])) (fun v H2=>v = .non/\Q (.ref x) H2) E) :
  wpAny (model X.prog X.w) X.A (call (.ref C) us) (EP X pins σ Q) X.xe s:=by
 have hq:=h (s.heap.objs.size + 1) s.heap.objs.size (I.hok.fresh (Nat.le_succ _)) (I.hok.fresh (Nat.le_refl _)) (Nat.ne_of_lt (Nat.lt_succ_self _))
 have I2:=Inv.made (C:=C) I
 have r2:Vals (V.ref (s.heap.objs.size + 1) :: (vs ++ dvs)) (Value.ref (s.heap.objs.size + 1) :: (us ++ ds)):=.cons rfl (r.append hd)
 have hl:(Value.ref (s.heap.objs.size + 1) :: us ++ ds).length = ps.length:=by
  have e:=r2.length
  rw [F.len _ _ _ _ hq] at e
  exact e.symm
 refine wpAny_call (make_map (f:=f) I.kIn M.makes M.init (beq_iff_eq.mp M.fn) (codeAny_mono (F.run _ X.stack _ _ ⟨Value.ref (s.heap.objs.size + 1) :: us,[]⟩ (Value.ref (s.heap.objs.size + 1) :: (us ++ ds)) _ _ E (hr.make C us [])
  (I2.env0.make C us []) (hb _ (Value.ref (s.heap.objs.size + 1) :: us) I2.kIn hl) r2 hq) fun r s' hq'=>?_))
 cases r with
 | error e=>exact hx pins σ _ _ e s' I2 hq'
 | ok fl=>
  cases fl with
  | ret u=>
   obtain ⟨v,H',I3,rv,ev,q3⟩:=I2.after hq'
   subst ev
   exact ⟨rv,⟨V.ref (s.heap.objs.size + 1),H',I3,rfl,q3⟩⟩
  | next=>exact False.elim hq'
  | brk=>exact False.elim hq'
  | cont=>exact False.elim hq'
theorem pe_make (M:Mk X.K C f) (F:FnOk X.prog X.w X.K X.mg X.base CX k f fd ps sp) (hr:Room (k + 1) X.A) (hg:Gl X x) (hm:X.mg x = some (.ref C)) (hb:Binds X.K fd ps ds) (hd:Vals dvs ds) (hx:Passes CX X E)
  (ha:PA X (e :: es) t) (hdb:(x == ("__debug__" : Str)) = false:=by decide) (he:starEach (e :: es) X.env = (false,eval e X.env) :: starEach es X.env:=by rfl) (hpl:(backTo pos (starEach es X.env)).any (·.1) = false:=by rfl) :
  PE X (.Call (.Name x p) (e :: es) [] pos) (tMake C sp dvs E t):=by
 refine ⟨?_⟩
 intro pins s σ H Q I h
 refine wpAny_Call_Name_kw (ld_glob I hg hm ?_ hdb)
 refine PySem.W.callWith_K (h₀:=X.base) I.ok.mod.kin M.kp (thn (ha pos pins s σ H _ I h) fun us s1 ⟨vs,H1,I1,r,q⟩=>⟨I1.kIn,?_⟩) he hpl
 exact run_make M F hr hb hd hx I1 r q
end
section
variable {X:Cx} {CX:CXT} {k:Nat} {f C:Addr} {fd:FuncData} {ps ks:List Str} {sp:Sp} {E:XK} {x m:Str} {p pos apos kpos:Pos} {e o:Expr} {es:List Expr} {kws:List Keyword} {te ta:TE} {t tk:TA} {nm:Option Str}
variable {g:List Value->List Value->List Value} {gV:List V->List V->List V}
end
structure FnScope (N P:List Str) (sc:Scope):Prop where
 kind:sc.kind = .function
 co:sc.isCoroutine = false
 gen:sc.isGenerator = false
 nd:N.Nodup
 pre:N.take P.length = P
 par:∀ x ∈ P,sc.names.lookup x = some .local\/sc.names.lookup x = some .cell
 nofree:∀ y ∈ sc.names,y.2 ≠ .free
theorem bindL_out {kindOf:Str->Option NameKind} {x:Str}:∀ {binds:List (Str × Value)} {m:Str->Option Value},(∀ v,(x,v) ∉ binds)->bindL kindOf binds m x = m x
 | [],_,_=>rfl
 | (n,v) :: r,m,h=>by
  unfold bindL
  rw [bindL_out fun w hw=>h w (List.mem_cons_of_mem _ hw)]
  split
  ·have:x ≠ n:=by rintro rfl; exact h v List.mem_cons_self
   simp [this]
  ·rfl
theorem bindC_out {kindOf:Str->Option NameKind} {x:Str}:∀ {binds:List (Str × Value)} {m:Str->Option Value},(∀ v,(x,v) ∉ binds)->bindC kindOf binds m x = m x
 | [],_,_=>rfl
 | (n,v) :: r,m,h=>by
  unfold bindC
  rw [bindC_out fun w hw=>h w (List.mem_cons_of_mem _ hw)]
  split
  ·rfl
  ·have:x ≠ n:=by rintro rfl; exact h v List.mem_cons_self
   simp [this]
theorem bindL_get {kindOf:Str->Option NameKind} {x:Str} {v:Value}:∀ {P:List Str} {vs:List Value} {i:Nat} {m:Str->Option Value},P.Nodup->P[i]? = some x->vs[i]? = some v->kindOf x = some .local->
  bindL kindOf (P.zip vs) m x = some v
 | [],_,_,_,_,h,_,_=>by simp at h
 | _ :: _,[],_,_,_,_,h,_=>by simp at h
 | p :: P,w :: vs,0,m,nd,h1,h2,hk=>by
  simp at h1 h2; subst h1; subst h2
  show bindL kindOf ((p,w) :: P.zip vs) m p = _
  unfold bindL
  rw [bindL_out fun v hv=>(List.nodup_cons.mp nd).1 (List.of_mem_zip hv).1,if_pos hk]
  simp
 | p :: P,w :: vs,i + 1,m,nd,h1,h2,hk=>by
  show bindL kindOf ((p,w) :: P.zip vs) m x = _
  unfold bindL
  exact bindL_get (i:=i) (List.nodup_cons.mp nd).2 (by simpa using h1) (by simpa using h2) hk
theorem bindC_get {kindOf:Str->Option NameKind} {x:Str} {v:Value}:∀ {P:List Str} {vs:List Value} {i:Nat} {m:Str->Option Value},P.Nodup->P[i]? = some x->vs[i]? = some v->kindOf x ≠ some .local->
  bindC kindOf (P.zip vs) m x = some v
 | [],_,_,_,_,h,_,_=>by simp at h
 | _ :: _,[],_,_,_,_,h,_=>by simp at h
 | p :: P,w :: vs,0,m,nd,h1,h2,hk=>by
  simp at h1 h2; subst h1; subst h2
  show bindC kindOf ((p,w) :: P.zip vs) m p = _
  unfold bindC
  rw [bindC_out fun v hv=>(List.nodup_cons.mp nd).1 (List.of_mem_zip hv).1,if_neg hk]
  simp
 | p :: P,w :: vs,i + 1,m,nd,h1,h2,hk=>by
  show bindC kindOf ((p,w) :: P.zip vs) m x = _
  unfold bindC
  exact bindC_get (i:=i) (List.nodup_cons.mp nd).2 (by simpa using h1) (by simpa using h2) hk
def start (N:List Str) (vs:List V):St:=vs.map some ++ List.replicate (N.length - vs.length) none
def cxOf (CX:CXT) (P:Program) (w:World) (K:PySem.W.Frag) (mg:Str->Option Value) (base:Heap) (N:List Str) (qual:Str) (scope:Scope) (f:Addr) (cd:Value) (A:Around) (outer:List Env) (s:Shared) (H:Hp) (E:XK):Cx where
 prog:=P
 w:=w
 K:=K
 mg:=mg
 base:=base
 A:=A.deeper (envOfC qual scope s.heap.objs.size f cd)
 N:=N
 s₀:=s
 H₀:=H
 env:=envOfC qual scope s.heap.objs.size f cd
 outer:=outer
 stack:=envOfC qual scope s.heap.objs.size f cd :: outer
 ex:=[]
 calm:=true
 fn:=fun _=>true
 pn:=[]
 xe:=fun e s'=>wpAny (model P w) (A.deeper (envOfC qual scope s.heap.objs.size f cd)) (leaving (envOfC qual scope s.heap.objs.size f cd) e) (fun _ s''=>CX outer H s E e s'') (fun e' s''=>CX outer H s E e' s'') s'
theorem cell_has {sc:Scope} {n:Nat} {x:Str} (h:sc.names.lookup x = some .cell):∃ c,(cellsFrom n sc.names []).lookup x = some c:=by
 have q:=PySem.W.cellsFrom_some sc.names n [] (.inl h)
 exact Option.isSome_iff_exists.mp q
theorem inv_start {CX:CXT} {P:Program} {w:World} {K:PySem.W.Frag} {mg:Str->Option Value} {base:Heap} {N ps:List Str} {qual:Str} {scope:Scope} {f:Addr} {cd:Value} {A:Around} {outer:List Env} {s s1:Shared} {H:Hp} {E:XK} {us:List Value} {vs:List V}
  (S:FnScope N ps scope) (hd:A.handled = none) (e0:Env0 P w K mg base A outer s H) (hl:vs.length = ps.length) (r:Vals vs us)
  (x:InCallC s s.heap.objs.size (bindL (envOfC qual scope s.heap.objs.size f cd).kindOf (ps.zip us) fun _=>none) (cellsFrom (s.heap.objs.size + 1) scope.names []) (bindC (envOfC qual scope s.heap.objs.size f cd).kindOf (ps.zip us) fun _=>none) s1) :
  Inv (cxOf CX P w K mg base N qual scope f cd A outer s H E) [] (start N vs) H s1:=by
 have hpl:ps.length<=N.length:=by have:=congrArg List.length S.pre; rw [List.length_take] at this; omega
 obtain ⟨h1,tk,rfl,hk⟩:=x.done
 have noA:∀ b:Addr,b ∉ (cxOf CX P w K mg base N qual scope f cd A outer s H E).ex:=fun b z=>absurd (show b ∈ ([]:List Addr) from z) (by simp)
 refine ⟨⟨e0.mod,S.kind,rfl,rfl,Nat.le_refl _,fun y z c h1 h2=>?_,fun y hy=>?_,fun y c _ h=>?_,fun _=>hd,Around.frames_deeper e0.frames,.inr ⟨rfl,rfl⟩,fun b z=>absurd z (noA b),e0.bs,e0.bsz,fun b _ _=>noA b,fun b z=>absurd z (noA b),e0.funs,e0.frf⟩,
  rfl,e0.bare,Un.kept hk,⟨_,x.toInCall.ns,fun i y v h1 h2 h3=>?_⟩,fun y c h=>⟨_,x.cell y c h⟩,e0.hok.fresh (Nat.le_refl _),fun y c h=>?_,fun p hp=>absurd (show p ∈ ([]:List (Addr × Obj)) from hp) (by simp),e0.hok.kept hk,?_⟩
 ·exact name_of_addr x.apart (PySem.mem_of_lookup h1) (PySem.mem_of_lookup h2)
 ·have hy:scope.names.lookup y = some .cell\/scope.names.lookup y = some .free:=hy
  rcases hy with hy | hy
  ·exact cell_has hy
  ·exact absurd rfl (S.nofree _ (PySem.mem_of_lookup hy))
 ·exact Nat.le_of_lt (x.above y c (PySem.mem_of_lookup h))
 ·have hi:i < vs.length:=by
   unfold start at h2
   by_cases hi:i < vs.length
   ·exact hi
   ·rw [List.getElem?_append_right (by simpa using hi)] at h2
    rw [List.getElem?_replicate] at h2
    split at h2 <;> cases h2
  have ha:vs[i]? = some v:=by
   unfold start at h2
   rw [List.getElem?_append_left (by simpa using hi),List.getElem?_map] at h2
   cases e:vs[i]? with
   | none=>rw [e] at h2; cases h2
   | some a=>rw [e] at h2; cases h2; rfl
  obtain ⟨u,hu,rv⟩:=r.get ha
  have hp:ps[i]? = some y:=by
   rw [<- S.pre,List.getElem?_take_of_lt (by omega)]; exact h1
  have ndP:ps.Nodup:=by rw [<- S.pre]; exact S.nd.sublist (List.take_sublist _ _)
  refine ⟨u,rv,?_⟩
  rcases S.par y (List.mem_of_getElem? hp) with k | k
  ·exact .inl ⟨k,bindL_get ndP hp hu k⟩
  ·obtain ⟨c,e⟩:=cell_has (n:=s.heap.objs.size + 1) k
   refine .inr ⟨.inl k,c,e,?_⟩
   have q:=x.cell y c e
   rw [bindC_get ndP hp hu (by show scope.names.lookup y ≠ _; rw [k]; decide)] at q
   exact q
 ·exact e0.hok.fresh (Nat.le_of_lt (x.above y c (PySem.mem_of_lookup h)))
 ·unfold start
  show _ = N.length
  rw [List.length_append,List.length_map,List.length_replicate]
  omega
theorem fn_of {CX:CXT} {P:Program} {w:World} {K:PySem.W.Frag} {mg:Str->Option Value} {base:Heap} {k:Nat} {f:Addr} {name qual:Str} {params:Arguments} {body:List Stmt} {scope:Scope} {dV kV doc pm cdv ct oc:Value} {an od:Option Addr}
  {osl:Array (Option Value)} {N ps:List Str} {sp:Sp} (lk:K.lookup f = some ⟨oc,od,.func (PySem.W.fnOf name qual params body scope dV kV doc pm an cdv ct),osl⟩) (hcd:PySem.W.codeIn K cdv qual = true) (S:FnScope N ps scope)
  (len:∀ vs H Q E,sp vs H Q E->vs.length = ps.length)
  (hbody:∀ (A:Around) (outer:List Env) (s:Shared) (H:Hp) (vs:List V) (Q:VK) (E:XK),Room k (A.deeper (envOfC qual scope s.heap.objs.size f cdv))->sp vs H Q E->
   ∃ t,PSs (cxOf CX P w K mg base N qual scope f cdv A outer s H E) body t/\t { nx:=fun _ H'=>Q .non H',rt:=Q } (start N vs) H) :
  FnOk P w K mg base CX (k + 1) f (PySem.W.fnOf name qual params body scope dV kV doc pm an cdv ct) ps sp:=by
 refine ⟨len,fun A outer s H args us vs Q E hr e0 hb r hsp=>?_⟩
 have hl:=len _ _ _ _ hsp
 have KX:K.In s.heap:=e0.mod.kin.keeps fun b o e=>(e0.bs b o e).1
 have lim:s.heap.NoLimit:=e0.mod.nolimit.keeps fun b o e=>(e0.bs b o e).1
 have hkind:∀ y ∈ ps.zip us,scope.names.lookup y.1 = some .local\/(scope.names.lookup y.1 = some .cell/\((cellsFrom (s.heap.objs.size + 1) scope.names []).lookup y.1).isSome = true):=fun ⟨n,v⟩ hy=>by
  rcases S.par n (List.of_mem_zip hy).1 with q | q
  ·exact .inl q
  ·exact .inr ⟨q,PySem.W.cellsFrom_some _ _ _ (.inl q)⟩
 refine codeAny_call_function hr.depth (KX _ _ lk) rfl S.co S.gen rfl (PySem.W.codeRec_of KX hcd) (hb _ _ _ _ ?_)
 refine wpAny_newFunctionEnv_cells S.kind hkind fun env he s1 x=>?_
 subst he
 refine ⟨lim.keeps x.toInCall.keep,codeAny_func ?_⟩
 obtain ⟨t,ht,hq⟩:=hbody A outer s H vs Q E (hr.deeper _) hsp
 have I:Inv (cxOf CX P w K mg base N qual scope f cdv A outer s H E) [] (start N vs) H s1:=inv_start S hr.hd e0 hl r x
 refine wpAny_mono (ht [] s1 (start N vs) H _ I hq) (fun fl s' hs=>?_) fun e s' hs=>hs
 have fin:∀ {σ':St} {H':Hp} {v:V} {u:Value},Inv (cxOf CX P w K mg base N qual scope f cdv A outer s H E) [] σ' H' s'->RelV v u->Q v H'->CE outer P w H s Q u s':=
  fun {σ' H' v u} J rv q=>⟨v,H',J.os,J.bare,J.base,J.hok,rv,q⟩
 cases fl with
 | ret u=>
  obtain ⟨v,σ',H',J,rv,q⟩:=hs
  exact fin J rv q
 | next=>
  obtain ⟨σ',H',J,q⟩:=hs
  exact fin (v:=V.non) (u:=Value.none) J rfl q
 | brk=>
  obtain ⟨_,_,_,q⟩:=hs
  exact False.elim q
 | cont=>
  obtain ⟨_,_,_,q⟩:=hs
  exact False.elim q
section
variable {X:Cx} {x:Str} {p pos:Pos} {e:Expr} {es:List Expr} {t:TA} {id T:String} {r:List V->Hp->VK->Prop}
def tCB (r:List V->Hp->VK->Prop) (t:TA):TE:=fun σ H Q=>t σ H fun vs H1=>r vs H1 Q
theorem pe_callB (hc:CallR X (.builtin id) r) (hg:Gl X x) (hm:X.mg x = none) (hv:bootBuiltins x = some (.builtin id)) (ha:PA X (e :: es) t) (hn:x ≠ "__name__":=by decide) (hdb:(x == ("__debug__" : Str)) = false:=by decide)
  (he:starEach (e :: es) X.env = (false,eval e X.env) :: starEach es X.env:=by rfl) (hpl:(backTo pos (starEach es X.env)).any (·.1) = false:=by rfl):PE X (.Call (.Name x p) (e :: es) [] pos) (tCB r t):=by
 refine ⟨?_⟩
 intro pins s σ H Q I h
 refine wpAny_Call_Name_kw (ld_blt I hg hm hv ?_ hn hdb)
 exact PyProof.Rows.callWith_builtin1 (thn (ha pos pins s σ H _ I h) fun us s1 ⟨vs,H1,I1,r1,q1⟩=>hc pins s1 σ H1 vs us Q I1 r1 q1) he hpl
theorem pe_callTy (hc:CallR X (.type T) r) (hg:Gl X x) (hm:X.mg x = none) (hv:bootBuiltins x = some (.type T)) (ha:PA X (e :: es) t) (hn:x ≠ "__name__":=by decide) (hdb:(x == ("__debug__" : Str)) = false:=by decide)
  (he:starEach (e :: es) X.env = (false,eval e X.env) :: starEach es X.env:=by rfl) (hpl:(backTo pos (starEach es X.env)).any (·.1) = false:=by rfl):PE X (.Call (.Name x p) (e :: es) [] pos) (tCB r t):=by
 refine ⟨?_⟩
 intro pins s σ H Q I h
 refine wpAny_Call_Name_kw (ld_blt I hg hm hv ?_ hn hdb)
 exact PyProof.Rows.callWith_type1 (thn (ha pos pins s σ H _ I h) fun us s1 ⟨vs,H1,I1,r1,q1⟩=>hc pins s1 σ H1 vs us Q I1 r1 q1) he hpl
theorem pe_callTy0 (hc:CallR X (.type T) r) (hg:Gl X x) (hm:X.mg x = none) (hv:bootBuiltins x = some (.type T)) (hn:x ≠ "__name__":=by decide) (hdb:(x == ("__debug__" : Str)) = false:=by decide) :
  PE X (.Call (.Name x p) [] [] pos) (tCB r tNil):=by
 refine ⟨?_⟩
 intro pins s σ H Q I h
 refine wpAny_Call_Name_kw (ld_blt I hg hm hv ?_ hn hdb)
 exact PyProof.Rows.callWith_type0 (hc pins s σ H [] [] Q I .nil h)
end
end L2
namespace HT
open PySem PyProof.Rows
section
open PySem.SeqAt
open PySem.AutoSeq1 (wpAny_loadPart')
open PySem.MeetsSeq PySem.MeetsSeq2 PySem.MeetsSeq3
end
section
variable {prog:Program} {w:World} {A:Around} {E:Value->Shared->Prop} {s:Shared}
def sIx (n d:Nat):Option Int->Nat
 | none=>d
 | some v=>if v < 0 then (v + (n:Int)).toNat else min v.toNat n
theorem sIx_none (n d:Nat):sIx n d none = d:=rfl
theorem sIx_nat (n d k:Nat):sIx n d (some (k:Int)) = min k n:=by
 show (if (k:Int) < 0 then ((k:Int) + (n:Int)).toNat else min (k:Int).toNat n) = min k n
 rw [if_neg (by omega),Int.toNat_natCast]
end
end HT
namespace L2
open PySem PySem.Spec PyProof.Rows
abbrev TO:=St->Hp->(Option Int->Hp->Prop)->Prop
structure PO (X:Cx) (e:Option Expr) (t:TO):Prop where
 run:∀ (pins:List (Addr × Obj)) (s:Shared) (σ : St) (H:Hp) (Q:Option Int->Hp->Prop),Inv X pins σ H s->t σ H Q->
  wpAny (model X.prog X.w) X.A (evalPart e X.env) (fun u s'=>∃ o H',Inv X pins σ H' s'/\IsPart u o/\Q o H') X.xe s
instance {X:Cx} {e:Option Expr} {t:TO}:CoeFun (PO X e t) (fun _=>∀ (pins:List (Addr × Obj)) (s:Shared) (σ : St) (H:Hp) (Q:Option Int->Hp->Prop),Inv X pins σ H s->t σ H Q->
  wpAny (model X.prog X.w) X.A (evalPart e X.env) (fun u s'=>∃ o H',Inv X pins σ H' s'/\IsPart u o/\Q o H') X.xe s):=⟨PO.run⟩
def tNoPart:TO:=fun _ H Q=>Q none H
def tPart (t:TE):TO:=fun σ H Q=>t σ H fun x H1=>∃ i,x = .int i/\Q (some i) H1
section
variable {X:Cx} {e:Expr} {te:TE} {lo hi:Option Expr} {tl th:TO} {pos p2:Pos}
theorem po_none:PO X none tNoPart:=by
 refine ⟨?_⟩
 intro pins s σ H Q I h
 rw [evalPart_none]
 exact wpAny_pure ⟨none,H,I,.none,h⟩
theorem po_some (h:PE X e te):PO X (some e) (tPart te):=by
 refine ⟨?_⟩
 intro pins s σ H Q I hw
 rw [evalPart_some]
 refine thn (h pins s σ H _ I hw) fun u s1 ⟨x,H1,I1,r1,q1⟩=>?_
 obtain ⟨i,rfl,q⟩:=q1
 obtain ⟨t,rfl⟩:=r1
 exact ⟨some i,H1,I1,.int i t,q⟩
def SlR (X:Cx) (r:V->Option Int->Option Int->Hp->VK->Prop):Prop:=
 ∀ (pins:List (Addr × Obj)) (s:Shared) (σ : St) (H:Hp) (x:V) (v vl vu:Value) (lo hi:Option Int) (sl:Addr) (Q:VK),Inv X pins σ H s->RelV x v->s.heap.IsSliceOf sl vl vu .none->IsPart vl lo->IsPart vu hi->r x lo hi H Q->
  ∃ T id,typeLookup (.type T) "__getitem__" = pure (some (.builtin id))/\s.TypeIs v T/\wpAny (model X.prog X.w) X.A (getItem v (.ref sl)) (EP X pins σ Q) X.xe s
def tSl (r:V->Option Int->Option Int->Hp->VK->Prop) (te:TE) (tl th:TO):TE:=fun σ H Q=>te σ H fun x H1=>tl σ H1 fun l H2=>th σ H2 fun u H3=>r x l u H3 Q
theorem pe_slice {r:V->Option Int->Option Int->Hp->VK->Prop} (hr:SlR X r) (he:PE X e te) (hl:PO X lo tl) (hu:PO X hi th):PE X (.Subscript e (.Slice lo hi none p2) pos) (tSl r te tl th):=by
 refine ⟨?_⟩
 intro pins s σ H Q I h
 refine Subscript_ (thn (he pins s σ H _ I h) fun v s1 ⟨x,H1,I1,r1,q1⟩=>?_)
 refine wpAny_Slice (thn (hl pins s1 σ H1 _ I1 q1) fun vl s2 ⟨l,H2,I2,pl,q2⟩=>thn (hu pins s2 σ H2 _ I2 q2) fun vu s3 ⟨u,H3,I3,pu,q3⟩=>?_)
 rw [evalPart_none]
 refine wpAny_pure ?_
 have I4:Inv X pins σ H3 { s3 with heap:=s3.heap.push { cls:=.type "slice",data:=.fields #[vl,vu,.none] } }:=I3.kept (t':=s3.toks) fun b ob q=>Heap.get?_push_of_some _ q
 obtain ⟨T,id,hT,ht,hg⟩:=hr pins { s3 with heap:=s3.heap.push { cls:=.type "slice",data:=.fields #[vl,vu,.none] } } σ H3 x v vl vu l u s3.heap.objs.size Q I4 r1 (Heap.IsSliceOf.new ..) pl pu q3
 show wpAny (model X.prog X.w) X.A (subscriptTail e (.Slice lo hi none p2) v (.ref s3.heap.objs.size)) (EP X pins σ Q) X.xe { s3 with heap:=s3.heap.push { cls:=.type "slice",data:=.fields #[vl,vu,.none] } }
 exact tail_any (ops:=[.ref s3.heap.objs.size,v]) ht hT hg (by with_unfolding_all rfl)
def cutV (xs:List V) (lo hi:Option Int):List V:=(xs.drop (HT.sIx xs.length 0 lo)).take (HT.sIx xs.length xs.length hi - HT.sIx xs.length 0 lo)
theorem cutV_length (xs:List V) (lo hi:Option Int):(cutV xs lo hi).length<=xs.length:=by
 unfold cutV
 rw [List.length_take,List.length_drop]
 omega
end
def ixN (n:Nat) (i:Int):Option Nat:=if 0<=i then (if i < n then some i.toNat else none) else if -(n:Int)<=i then some (i + n).toNat else none
def atI {α : Type} (xs:List α) (i:Int):Option α:=(ixN xs.length i).bind fun j=>xs[j]?
theorem ixN_seq {n:Nat} {i:Int} {j:Nat} (h:ixN n i = some j):seqIndex? i n = some j/\j < n/\-(n:Int)<=i/\i < n:=by
 unfold ixN at h
 by_cases h0 : 0<=i
 ·rw [if_pos h0] at h
  by_cases h1:i < n
  ·rw [if_pos h1] at h
   have e:i.toNat = j:=Option.some.inj h
   exact ⟨by rw [seqIndex_of h0 h1,e],by omega,by omega,h1⟩
  ·rw [if_neg h1] at h; cases h
 ·rw [if_neg h0] at h
  by_cases h1 : -(n:Int)<=i
  ·rw [if_pos h1] at h
   have e:(i + n).toNat = j:=Option.some.inj h
   exact ⟨by rw [seqIndex_neg (by omega) h1,e],by omega,h1,by omega⟩
  ·rw [if_neg h1] at h; cases h
theorem atI_get {α : Type} {xs:List α} {i:Int} {v : α} (h:atI xs i = some v):∃ j,seqIndex? i xs.length = some j/\xs[j]? = some v/\j < xs.length/\-(xs.length:Int)<=i/\i < xs.length:=by
 unfold atI at h
 cases e:ixN xs.length i with
 | none=>rw [e] at h; cases h
 | some j=>
  rw [e] at h
  obtain ⟨h1,h2,h3,h4⟩:=ixN_seq e
  exact ⟨j,h1,h,h2,h3,h4⟩
theorem atI_nat {α : Type} {xs:List α} {j:Nat} {v : α} (h:xs[j]? = some v):atI xs (j:Int) = some v:=by
 have hj:j < xs.length:=(List.getElem?_eq_some_iff.mp h).1
 have e:ixN xs.length (j:Int) = some j:=by
  unfold ixN
  rw [if_pos (by omega),if_pos (by omega)]; simp
 unfold atI; rw [e]; exact h
def PlainIx (b:Expr):Prop:=∀ o i,subscripted b false o i = operate [o,i] (getItem o i)
def IxR (X:Cx) (r:R2):Prop:=
 ∀ (value slice:Expr) (pins:List (Addr × Obj)) (s:Shared) (σ : St) (H:Hp) (x y:V) (v u:Value) (Q:VK),Inv X pins σ H s->RelV x v->RelV y u->r x y H Q->
  subscripted slice false v u = operate [v,u] (getItem v u)->wpAny (model X.prog X.w) X.A (subscriptTail value slice v u) (EP X pins σ Q) X.xe s
def MtR (X:Cx) (id:String) (r:V->List V->Hp->VK->Prop):Prop:=
 ∀ (pins:List (Addr × Obj)) (s:Shared) (σ : St) (H:Hp) (x:V) (xs:List V) (v:Value) (us:List Value) (Q:VK),Inv X pins σ H s->RelV x v->Vals xs us->r x xs H Q->
  wpAny (model X.prog X.w) X.A (call (.builtin id) (v :: us)) (EP X pins σ Q) X.xe s
section
variable {X:Cx} {a b:Expr} {ta tb:TE} {pos:Pos}
theorem pe_ix {r:R2} (hr:IxR X r) (ha:PE X a ta) (hb:PE X b tb) (hs:PlainIx b):PE X (.Subscript a b pos) (tOp r ta tb):=by
 refine ⟨?_⟩
 intro pins s σ H Q I h
 exact Subscript_ (binT ha hb I h fun v u s2 x y H2 I2 rx ry q=>hr a b pins s2 σ H2 x y v u Q I2 rx ry q (hs _ _))
inductive IIxL (K:PySem.W.Frag) (x y:V) (H:Hp) (Q:VK):Prop where
 | mk (p:Addr) (xs:List V) (i:Int) (v:V) (e1:x = .ref p) (e2:y = .int i) (h:SqL K H p xs) (a:atI xs i = some v) (q:Q v H)
def rIxL (K:PySem.W.Frag):R2:=fun x y H Q=>IIxL K x y H Q
inductive IIxT (K:PySem.W.Frag) (x y:V) (H:Hp) (Q:VK):Prop where
 | mk (p:Addr) (xs:List V) (i:Int) (v:V) (e1:x = .ref p) (e2:y = .int i) (h:SqT K H p xs) (a:atI xs i = some v) (q:Q v H)
def rIxT (K:PySem.W.Frag):R2:=fun x y H Q=>IIxT K x y H Q
def rIxS:R2:=fun x y H Q=>∃ z i c,x = .str z/\y = .int i/\z.length<=sizeLine/\atI z.cps.toList i = some c/\Q (.str ⟨#[c]⟩) H
theorem ix_list:IxR X (rIxL X.K):=by
 intro value slice pins s σ H x y v u Q I rx ry h hs
 obtain ⟨p,xs,i,z,rfl,rfl,hq,he,q⟩:=h
 cases rx
 obtain ⟨t,rfl⟩:=ry
 obtain ⟨its,r,pl,hz⟩:=I.list hq
 obtain ⟨j,h1,h2,h3,h4,h5⟩:=atI_get he
 obtain ⟨w,ew,rw'⟩:=r.get h2
 have hl:=r.length
 have hn:=line63
 have fin:EP X pins σ Q w s:=⟨z,H,I,rw',q⟩
 by_cases h0 : 0<=i
 ·have hj:i.toNat = j:=by
   rw [seqIndex_of h0 h5] at h1
   exact Option.some.inj h1
  exact item_listR pl.isList h0 (by omega) (by rw [hj]; simpa using ew) fin hs
 ·have hj:(i + (its.toArray.size:Int)).toNat = j:=by
   rw [seqIndex_neg (by omega) h4] at h1
   rw [List.size_toArray,<- hl]
   exact Option.some.inj h1
  exact subscriptTail_builtinR (x:=w) pl.isList.typeIs slot_list_getitem.lookup
   (wpAny_getItem_list_neg (Q:=fun r s'=>r = w/\EP X pins σ Q r s') pl.isList (by omega) (by rw [List.size_toArray] <;> omega) (by omega) (by rw [hj]; simpa using ew) ⟨rfl,fin⟩) hs
theorem ix_tup:IxR X (rIxT X.K):=by
 intro value slice pins s σ H x y v u Q I rx ry h hs
 obtain ⟨p,xs,i,z,rfl,rfl,hq,he,q⟩:=h
 cases rx
 obtain ⟨t,rfl⟩:=ry
 obtain ⟨its,r,pl,hz⟩:=I.tuple hq
 obtain ⟨j,h1,h2,h3,h4,h5⟩:=atI_get he
 obtain ⟨w,ew,rw'⟩:=r.get h2
 have hl:=r.length
 have hn:=line63
 have fin:EP X pins σ Q w s:=⟨z,H,I,rw',q⟩
 exact subscriptTail_builtinR (x:=w) pl.typeIs slot_tuple_getitem.lookup
  (getItem_tuple (j:=j) (Q:=fun r s'=>r = w/\EP X pins σ Q r s') pl (by omega) (by omega) (by rw [List.size_toArray,<- hl]; exact h1) (by simpa using ew) ⟨rfl,fin⟩) hs
theorem ix_str:IxR X rIxS:=by
 intro value slice pins s σ H x y v u Q I rx ry h hs
 obtain ⟨z,i,c,rfl,rfl,hz,he,q⟩:=h
 obtain ⟨t,rfl⟩:=rx
 obtain ⟨t',rfl⟩:=ry
 obtain ⟨j,h1,h2,h3,h4,h5⟩:=atI_get he
 have hl:z.cps.toList.length = z.length:=by simp [Str.length]
 rw [hl] at h1 h4 h5
 have hn:=line63
 exact tail_any (typeIs_str s z t) slot_str_getitem.lookup (getItem_str (c:=c) (by
  have e1:decide (i < -(2 ^ 63:Int)) = false:=decide_eq_false (by omega)
  have e2:decide (i>=2 ^ 63) = false:=decide_eq_false (by omega)
  rw [e1,e2,Bool.or_false]) (by rw [h1]; simpa using h2) ⟨.str ⟨#[c]⟩,H,I.tok _,⟨_,rfl⟩,q⟩) hs
theorem slice_bounds (lo hi:Option Int) (n:Nat):(sliceBounds lo hi none n).1 = ((HT.sIx n 0 lo:Nat):Int)/\(sliceBounds lo hi none n).2.1 = ((HT.sIx n n hi:Nat):Int)/\(sliceBounds lo hi none n).2.2 = 1:=by
 refine ⟨?_,?_,rfl⟩
 ·cases lo with
  | none=>simp [sliceBounds,HT.sIx]
  | some i=>
   simp only [sliceBounds,HT.sIx,Option.getD_none,show (1:Int) > 0 by decide,if_true]
   by_cases h:i < 0
   ·simp only [h,if_true] <;> omega
   ·simp only [h,if_false] <;> omega
 ·cases hi with
  | none=>simp [sliceBounds,HT.sIx]
  | some i=>
   simp only [sliceBounds,HT.sIx,Option.getD_none,show (1:Int) > 0 by decide,if_true]
   by_cases h:i < 0
   ·simp only [h,if_true] <;> omega
   ·simp only [h,if_false] <;> omega
theorem slicePick_cut (its:List Value) (lo hi:Option Int):slicePick its.toArray lo hi none = ((its.drop (HT.sIx its.length 0 lo)).take (HT.sIx its.length its.length hi - HT.sIx its.length 0 lo)).toArray:=by
 obtain ⟨h1,h2,h3⟩:=slice_bounds lo hi its.toArray.size
 unfold slicePick
 rw [h1,h2,h3]
 simp only [sliceRange_one,pick_run,List.size_toArray] <;> rfl
def rSlL (K:PySem.W.Frag):V->Option Int->Option Int->Hp->VK->Prop:=fun x lo hi H Q=>∃ a xs,x = .ref a/\SqL K H a xs/\∀ p,H p = none->Q (.ref p) (upd H p (.lst (cutV xs lo hi)))
theorem sl_list:SlR X (rSlL X.K):=by
 intro pins s σ H x v vl vu lo hi sl Q I rx hs pl pu h
 obtain ⟨a,xs,rfl,hx,q⟩:=h
 cases rx
 obtain ⟨its,r,ht,hz⟩:=I.list hx
 have hlen:=r.length
 refine ⟨"list",_,slot_list_getitem.lookup,ht.isList.typeIs,?_⟩
 refine wpAny_getItem_list_slice ht.isList hs pl pu .none (by simp) ?_ (by rw [List.size_toArray] <;> omega)
 rw [slicePick_cut,<- hlen]
 refine ⟨.ref s.heap.objs.size,_,I.laid (t':=s.toks) (o:=.lst (cutV xs lo hi)) (fun b ob q=>Heap.get?_push_of_some _ q) (Nat.le_refl _) ?_,rfl,q _ (I.hok.fresh (Nat.le_refl _))⟩
 exact ⟨Nat.le_trans (cutV_length xs lo hi) hz,_,0,(r.drop (HT.sIx xs.length 0 lo)).take (HT.sIx xs.length xs.length hi - HT.sIx xs.length 0 lo),Heap.get?_push_size _ rfl⟩
def flatV:V->Bool
 | .non=>true
 | .bl _=>true
 | .int _=>true
 | .str _=>true
 | _=>false
def eqV:V->V->Bool
 | .non,.non=>true
 | .bl a,.bl b=>a == b
 | .bl a,.int b=>(if a then 1 else 0) == b
 | .int a,.bl b=>a == (if b then 1 else 0)
 | .int a,.int b=>a == b
 | .str a,.str b=>a == b
 | _,_=>false
theorem eqAt_V {A:Around} {s:Shared} {y x:V} {u v:Value} (ry:RelV y u) (rx:RelV x v) (fy:flatV y = true) (fx:flatV x = true):SeqAt.EqAt A s u v (eqV y x):=by
 cases y with
 | non=>
  cases ry
  cases x with
  | non=>cases rx; exact SeqAt.EqAt.same _
  | bl b=>cases rx; exact SeqAt.EqAt.none_bool b
  | int b=>obtain ⟨t,rfl⟩:=rx; exact SeqAt.EqAt.none_int b t
  | str b=>obtain ⟨t,rfl⟩:=rx; exact SeqAt.EqAt.none_str b t
  | _=>exact absurd (show false = true from fx) Bool.false_ne_true
 | bl a=>
  cases ry
  cases x with
  | non=>cases rx; exact SeqAt.EqAt.bool_none a
  | bl b=>cases rx; exact SeqAt.EqAt.bool_bool a b
  | int b=>obtain ⟨t,rfl⟩:=rx; exact SeqAt.EqAt.bool_int a b t
  | str b=>obtain ⟨t,rfl⟩:=rx; exact SeqAt.EqAt.bool_str a b t
  | _=>exact absurd (show false = true from fx) Bool.false_ne_true
 | int a=>
  obtain ⟨t',rfl⟩:=ry
  cases x with
  | non=>cases rx; exact SeqAt.EqAt.int_none a t'
  | bl b=>cases rx; exact SeqAt.EqAt.int_bool a t' b
  | int b=>obtain ⟨t,rfl⟩:=rx; exact SeqAt.EqAt.int_int a t' b t
  | str b=>obtain ⟨t,rfl⟩:=rx; exact SeqAt.EqAt.int_str a t' b t
  | _=>exact absurd (show false = true from fx) Bool.false_ne_true
 | str a=>
  obtain ⟨t',rfl⟩:=ry
  cases x with
  | non=>cases rx; exact SeqAt.EqAt.str_none a t'
  | bl b=>cases rx; exact SeqAt.EqAt.str_bool a t' b
  | int b=>obtain ⟨t,rfl⟩:=rx; exact SeqAt.EqAt.str_int a t' b t
  | str b=>obtain ⟨t,rfl⟩:=rx; exact SeqAt.EqAt.str_str a t' b t
  | _=>exact absurd (show false = true from fx) Bool.false_ne_true
 | _=>exact absurd (show false = true from fy) Bool.false_ne_true
def eqU (x:V) (u:Value):Bool:=match u with
 | .none=>eqV .non x
 | .bool b=>eqV (.bl b) x
 | .int i _=>eqV (.int i) x
 | .str z _=>eqV (.str z) x
 | _=>false
theorem eqU_of {x y:V} {u:Value} (r:RelV y u) (f:flatV y = true):eqU x u = eqV y x:=by
 cases y with
 | non=>cases r; rfl
 | bl b=>cases r; rfl
 | int i=>obtain ⟨t,rfl⟩:=r; rfl
 | str z=>obtain ⟨t,rfl⟩:=r; rfl
 | _=>exact absurd (show false = true from f) Bool.false_ne_true
theorem any_eqU {x:V}:∀ {xs:List V} {us:List Value},Vals xs us->xs.all flatV = true->us.any (eqU x) = xs.any fun y=>eqV y x
 | _,_,.nil,_=>rfl
 | y :: xs,u :: us,.cons r t,f=>by
  rw [List.all_cons,Bool.and_eq_true] at f
  rw [List.any_cons,List.any_cons,eqU_of r f.1,any_eqU t f.2]
theorem mem_eqAt {A:Around} {s:Shared} {x:V} {v:Value} (rx:RelV x v) (fx:flatV x = true):∀ {xs:List V} {us:List Value},Vals xs us->xs.all flatV = true->∀ u ∈ us,SeqAt.EqAt A s u v (eqU x u)
 | _,_,.nil,_=>fun u hu=>by cases hu
 | y :: xs,u :: us,.cons r t,f=>fun u' hu=>by
  rw [List.all_cons,Bool.and_eq_true] at f
  rcases List.mem_cons.mp hu with rfl | hu
  ·rw [eqU_of r f.1]; exact eqAt_V r rx f.1 fx
  ·exact mem_eqAt rx fx t f.2 u' hu
def inV (x:V) (xs:List V):Bool:=xs.any fun y=>eqV y x
def rIn (K:PySem.W.Frag) (neg:Bool):R2:=fun x y H Q=>∃ p xs,y = .ref p/\(SqL K H p xs\/SqT K H p xs)/\flatV x = true/\xs.all flatV = true/\Q (.bl (if neg then !inV x xs else inV x xs)) H
theorem op_in_seq:OpR X (compareOp .In) (rIn X.K false):=by
 intro pins s σ H x y v u Q I rx ry h
 obtain ⟨p,xs,rfl,hq,fx,fs,q⟩:=h
 cases ry
 rcases hq with hq | hq
 ·obtain ⟨its,r,pl,hz⟩:=I.list hq
  refine SeqAt.in_listAt (eqU x) pl.isList (fun w hw=>mem_eqAt rx fx r fs w (by simpa using hw)) ⟨.bl _,H,I,rfl,?_⟩
  rw [show its.toArray.any (eqU x) = its.any (eqU x) by simp,any_eqU r fs]
  exact q
 ·obtain ⟨its,r,pl,hz⟩:=I.tuple hq
  refine SeqAt.in_tupleAt (eqU x) pl (fun w hw=>mem_eqAt rx fx r fs w (by simpa using hw)) ⟨.bl _,H,I,rfl,?_⟩
  rw [show its.toArray.any (eqU x) = its.any (eqU x) by simp,any_eqU r fs]
  exact q
theorem op_notIn_seq:OpR X (compareOp .NotIn) (rIn X.K true):=by
 intro pins s σ H x y v u Q I rx ry h
 obtain ⟨p,xs,rfl,hq,fx,fs,q⟩:=h
 cases ry
 rcases hq with hq | hq
 ·obtain ⟨its,r,pl,hz⟩:=I.list hq
  refine SeqAt.notIn_listAt (eqU x) pl.isList (fun w hw=>mem_eqAt rx fx r fs w (by simpa using hw)) ⟨.bl _,H,I,rfl,?_⟩
  rw [show its.toArray.any (eqU x) = its.any (eqU x) by simp,any_eqU r fs]
  exact q
 ·obtain ⟨its,r,pl,hz⟩:=I.tuple hq
  refine SeqAt.notIn_tupleAt (eqU x) pl (fun w hw=>mem_eqAt rx fx r fs w (by simpa using hw)) ⟨.bl _,H,I,rfl,?_⟩
  rw [show its.toArray.any (eqU x) = its.any (eqU x) by simp,any_eqU r fs]
  exact q
theorem call_len_seq:CallR X (.builtin "len") (fun xs H Q=>∃ p ys,xs = [.ref p]/\(SqL X.K H p ys\/SqT X.K H p ys)/\Q (.int ys.length) H):=by
 intro pins s σ H xs us Q I r h
 obtain ⟨p,ys,rfl,hq,q⟩:=h
 obtain ⟨u,rfl,rx⟩:=vals1 r
 cases rx
 have hn:=line63
 rcases hq with hq | hq
 ·obtain ⟨its,r',pl,hz⟩:=I.list hq
  have hlen:=r'.length
  exact Calls.call_len_list pl.isList (by simp only [List.size_toArray] <;> omega) ⟨.int ys.length,H,I.tok _,⟨s.toks + 1,by rw [List.size_toArray,hlen]⟩,q⟩
 ·obtain ⟨its,r',pl,hz⟩:=I.tuple hq
  have hlen:=r'.length
  exact len_tuple pl (by simp only [List.size_toArray] <;> omega) ⟨.int ys.length,H,I.tok _,⟨s.toks + 1,by rw [List.size_toArray,hlen]⟩,q⟩
theorem call_len_str:CallR X (.builtin "len") (fun xs H Q=>∃ z,xs = [.str z]/\z.length<=sizeLine/\Q (.int z.length) H):=by
 intro pins s σ H xs us Q I r h
 obtain ⟨z,rfl,hz,q⟩:=h
 obtain ⟨u,rfl,t,rfl⟩:=vals1 r
 have hn:=line63
 exact len_str (by omega) ⟨.int z.length,H,I.tok _,⟨_,rfl⟩,q⟩
theorem call_list_of:CallR X (.type "list") (fun xs H Q=>∃ p ys,xs = [.ref p]/\(SqL X.K H p ys\/SqT X.K H p ys)/\∀ l,H l = none->Q (.ref l) (upd H l (.lst ys))):=by
 intro pins s σ H xs us Q I r h
 obtain ⟨p,ys,rfl,hq,q⟩:=h
 obtain ⟨u,rfl,rx⟩:=vals1 r
 cases rx
 have fin:∀ (its:List Value),Vals ys its->ys.length<=sizeLine->∀ (h':Heap) (c':Nat),(∀ b o',s.heap.get? b = some o'->h'.get? b = some o')->
   h'.get? s.heap.objs.size = some { cls:=.type "list",dict:=none,data:=.seq its.toArray c',slots:=#[] }->EP X pins σ Q (.ref s.heap.objs.size) { s with heap:=h' }:=fun its r' hz h' c' kp e=>
  ⟨.ref s.heap.objs.size,_,I.laid (t':=s.toks) kp (Nat.le_refl _) (show ObjOk X.prog X.w _ h' _ (.lst ys) from ⟨hz,its,c',r',e⟩),rfl,q _ (I.hok.fresh (Nat.le_refl _))⟩
 rcases hq with hq | hq
 ·obtain ⟨its,r',pl,hz⟩:=I.list hq
  have hlen:=r'.length
  obtain ⟨o,ho,hc,n,hd⟩:=pl.isList
  exact call_list_seq p (.inl rfl) ho hc hd (fun h' c' kp e=>fin its r' hz h' c' kp e) (by simp only [List.size_toArray] <;> omega)
 ·obtain ⟨its,r',pl,hz⟩:=I.tuple hq
  have hlen:=r'.length
  obtain ⟨o,ho,hc,n,hd⟩:=pl
  exact call_list_seq p (.inr rfl) ho hc hd (fun h' c' kp e=>fin its r' hz h' c' kp e) (by simp only [List.size_toArray] <;> omega)
def tyV (K:PySem.W.Frag) (T:String) (x:V) (H:Hp):Prop:=match x with
 | .str _=>T = "str"
 | .int _=>T = "int"
 | .ref p=>(T = "list"/\∃ xs,SqL K H p xs)\/(T = "tuple"/\∃ o,K.lookup p = some o/\o.cls = .type "tuple"/\o.dict = none)\/
   (T = "dict"/\((∃ kvs,H p = some (.dK kvs))\/∃ kvs,H p = some (.dT kvs)))\/(T = "set"/\∃ S n,H p = some (.set S n))
 | _=>False
theorem tyV_is {pins:List (Addr × Obj)} {σ : St} {H:Hp} {s:Shared} {T:String} {x:V} {v:Value} (I:Inv X pins σ H s) (r:RelV x v) (ty:tyV X.K T x H) :
  s.TypeIs v T/\∀ a,v = .ref a->∃ ob,s.heap.get? a = some ob/\ob.dict = none:=by
 cases x with
 | str z=>
  obtain ⟨t,rfl⟩:=r
  cases (show T = "str" from ty)
  exact ⟨typeIs_str s z t,fun _ e=>nomatch e⟩
 | int i=>
  obtain ⟨t,rfl⟩:=r
  cases (show T = "int" from ty)
  exact ⟨typeIs_int s i t,fun _ e=>nomatch e⟩
 | ref p=>
  cases r
  rcases ty with ⟨rfl,xs,hq⟩ | ⟨rfl,o,hk,hc,hd⟩ | ⟨rfl,hk⟩ | ⟨rfl,S,n,hk⟩
  ·obtain ⟨its,_,pl,_⟩:=I.list hq
   refine ⟨pl.isList.typeIs,fun a e=>?_⟩
   cases e
   obtain ⟨o,n,e,c,hd,_⟩:=pl
   exact ⟨o,e,hd⟩
  ·refine ⟨⟨o,I.kIn p o hk,hc⟩,fun a e=>?_⟩
   cases e
   exact ⟨o,I.kIn _ o hk,hd⟩
  ·have z:∃ o,s.heap.get? p = some o/\o.ExactDict:=by
    rcases hk with ⟨kvs,hk⟩ | ⟨kvs,hk⟩
    ·obtain ⟨_,_,_,_,o,_,_,e,ex,_⟩:=I.hok p _ hk
     exact ⟨o,e,ex⟩
    ·obtain ⟨_,_,_,_,o,_,_,e,ex,_⟩:=I.hok p _ hk
     exact ⟨o,e,ex⟩
   obtain ⟨o,e,ex⟩:=z
   refine ⟨⟨o,e,ex.1⟩,fun a e2=>?_⟩
   cases e2
   exact ⟨o,e,ex.2.1⟩
  ·obtain ⟨o,_,_,_,e,ex,_⟩:=I.hok p _ hk
   refine ⟨⟨o,e,ex.1⟩,fun a e2=>?_⟩
   cases e2
   exact ⟨o,e,ex.2.1⟩
 | _=>exact False.elim ty
def tBM0 (K:PySem.W.Frag) (T:String) (r:V->List V->Hp->VK->Prop) (to:TE):TE:=fun σ H Q=>to σ H fun x H1=>tyV K T x H1/\r x [] H1 Q
def tBM (K:PySem.W.Frag) (T:String) (r:V->List V->Hp->VK->Prop) (to:TE) (t:TA):TE:=fun σ H Q=>to σ H fun x H1=>tyV K T x H1/\t σ H1 fun xs H2=>r x xs H2 Q
variable {o e:Expr} {es:List Expr} {to:TE} {t:TA} {name:Str} {apos cpos:Pos} {T id:String} {r:V->List V->Hp->VK->Prop}
theorem pe_bm0 (pa:PlainAttrs T) (slot:Slot T name id) (hty:typeOf (.builtin id) = pure (.type "method_descriptor")) (hm:MtR X id r) (ho:PE X o to)
  (hbase:attributeBase o name X.env (eval o X.env) = eval o X.env:=by rfl) (hline:(apos.endLine == cpos.line) = true:=by rfl):PE X (.Call (.Attribute o name apos) [] [] cpos) (tBM0 X.K T r to):=by
 refine ⟨?_⟩
 intro pins s σ H Q I h
 refine wpAny_Call_method0_late hbase hline (thn (ho pins s σ H _ I h) fun v s1 ⟨x,H1,I1,r1,ty,q1⟩=>?_)
 obtain ⟨h1,h2⟩:=tyV_is I1 r1 ty
 exact ⟨T,id,pa,slot,hty,h1,h2,Calls.callWith_builtin rfl (PySem.evalArgs_none (hm pins s1 σ H1 x [] v [] Q I1 r1 .nil q1))⟩
theorem pe_bm (pa:PlainAttrs T) (slot:Slot T name id) (hty:typeOf (.builtin id) = pure (.type "method_descriptor")) (hm:MtR X id r) (ho:PE X o to) (ha:PA X (e :: es) t)
  (hbase:attributeBase o name X.env (eval o X.env) = eval o X.env:=by rfl)
  (hfew:((backTo cpos (starEach (e :: es) X.env)).all (fun x=>!x.1) && (backToKw cpos (keywordEach [] X.env)).all (fun x=>x.1.isSome)
   && decide ((e :: es).length + ([]:List Keyword).length + (if ([]:List Keyword).isEmpty then 0 else 1) < 30)) = true:=by rfl)
  (hline:(apos.endLine == cpos.line) = true:=by rfl) (hs:starEach (e :: es) X.env = (false,eval e X.env) :: starEach es X.env:=by rfl) (hplain:(backTo cpos (starEach es X.env)).any (·.1) = false:=by rfl) :
  PE X (.Call (.Attribute o name apos) (e :: es) [] cpos) (tBM X.K T r to t):=by
 refine ⟨?_⟩
 intro pins s σ H Q I h
 refine wpAny_Call_method_late hbase hfew hline rfl (thn (ho pins s σ H _ I h) fun v s1 ⟨x,H1,I1,r1,ty,q1⟩=>?_)
 obtain ⟨h1,h2⟩:=tyV_is I1 r1 ty
 refine ⟨T,id,pa,slot,hty,h1,h2,?_⟩
 have hA:=ha cpos pins s1 σ H1 _ I1 q1
 rw [hs] at hA |-
 refine Calls.callWith_builtin (by show (false || (backTo cpos (starEach es X.env)).any (·.1)) = false; rw [hplain] <;> rfl) (Calls.evalArgs_plain ?_)
 exact thn hA fun us s2 ⟨vs,H2,I2,r2,q2⟩=>hm pins s2 σ H2 x vs v us Q I2 r1 r2 q2
end
def MtM (X:Cx) (id:String) (r:V->List V->Hp->VK->Prop):Prop:=
 ∀ (pins:List (Addr × Obj)) (s:Shared) (σ : St) (H:Hp) (x:V) (xs:List V) (v:Value) (us:List Value) (Q:VK),Inv X pins σ H s->RelV x v->Vals xs us->r x xs H Q->
  wpAny (model X.prog X.w) X.A (call (.builtin id) (v :: us)) (EP X pins σ Q) X.xe s
theorem Vals.one:∀ {x:V} {us:List Value},Vals [x] us->∃ u,us = [u]/\RelV x u
 | _,_,.cons r .nil=>⟨_,rfl,r⟩
theorem Vals.zero:∀ {us:List Value},Vals [] us->us = []
 | _,.nil=>rfl
theorem Vals.rep {xs:List V} {us:List Value} (h:Vals xs us):∀ k:Nat,Vals (List.replicate k xs).flatten (List.replicate k us).flatten
 | 0=>.nil
 | k + 1=>by
  rw [List.replicate_succ,List.replicate_succ,List.flatten_cons,List.flatten_cons]
  exact Vals.append h (Vals.rep h k)
theorem foldl_rep (its:List Value):∀ (k:Nat) (acc:List Value),
  List.foldl (fun x1 x2=>x1 ++ x2) acc.toArray (List.replicate k its.toArray) = (acc ++ (List.replicate k its).flatten).toArray
 | 0,acc=>by simp
 | k + 1,acc=>by
  have e:acc.toArray ++ its.toArray = (acc ++ its).toArray:=by simp
  have e2:(acc ++ its) ++ (List.replicate k its).flatten = acc ++ (List.replicate (k + 1) its).flatten:=by
   rw [List.replicate_succ,List.flatten_cons,List.append_assoc]
  rw [<- e2,<- foldl_rep its k (acc ++ its),<- e,List.replicate_succ,List.foldl_cons]
section
variable {X:Cx} {pins:List (Addr × Obj)} {σ : St} {H:Hp} {s:Shared} {l b:Addr} {xs ys zs:List V}
theorem Inv.lset {its its':List Value} {n:Nat} {f:Array Value->Array Value} {t':Nat} (I:Inv X pins σ H s) (hH:H l = some (.lst xs))
  (e:s.heap.get? l = some { cls:=.type "list",data:=.seq its.toArray n }) (hf:f its.toArray = its'.toArray) (hv:Vals ys its') (hz:ys.length<=sizeLine) :
  Inv X pins σ (upd H l (.lst ys)) { s with heap:=s.heap.update l (Obj.mapSeq f),toks:=t' }:=by
 have q:=PySem.IsL.update e f
 rw [hf] at q
 refine I.write (x:=l) (e:=l) (by rw [hH]; exact trivial) (.inl rfl) (fun b' u hb hu=>(Heap.get?_update_other s.heap (Obj.mapSeq f) (Ne.symm hb)).trans hu) ⟨_,q⟩ ?_
 exact ⟨hz,its',_,hv,q⟩
theorem Inv.lnew {its:List Value} {t':Nat} (I:Inv X pins σ H s) (hv:Vals ys its) (hz:ys.length<=sizeLine) :
  Inv X pins σ (upd H s.heap.objs.size (.lst ys)) { s with heap:=s.heap.push { cls:=.type "list",data:=.seq its.toArray },toks:=t' }:=
 I.laid (fun _ _ q=>Heap.get?_push_of_some _ q) (Nat.le_refl _) ⟨hz,its,0,hv,Heap.get?_push_size _ rfl⟩
theorem Inv.fresh (I:Inv X pins σ H s):H s.heap.objs.size = none:=I.hok.fresh (Nat.le_refl _)
theorem Inv.lstM (I:Inv X pins σ H s) (hH:H l = some (.lst xs)):xs.length<=sizeLine/\∃ (its:List Value) (n:Nat),Vals xs its/\xs.length = its.length/\s.heap.get? l = some { cls:=.type "list",data:=.seq its.toArray n }:=by
 obtain ⟨z,its,n,r,e⟩:=I.hok l _ hH
 exact ⟨z,its,n,r,r.length,e⟩
theorem notLongL {n:Nat} (h:n<=sizeLine):Builtin.List.listTooLong n = false:=by
 unfold Builtin.List.listTooLong
 exact decide_eq_false (by omega)
end
section
variable {X:Cx}
def rAppend:V->List V->Hp->VK->Prop:=fun x vs H Q=>∃ l xs y,x = .ref l/\vs = [y]/\H l = some (.lst xs)/\xs.length < sizeLine/\Q .non (upd H l (.lst (xs ++ [y])))
theorem mt_append:MtM X "list.append" rAppend:=by
 intro pins s σ H x vs v us Q I rx rv h
 obtain ⟨l,xs,y,rfl,rfl,hH,hz,q⟩:=h
 cases rx
 obtain ⟨u,rfl,ru⟩:=rv.one
 obtain ⟨z,its,n,r,hl,e⟩:=I.lstM hH
 refine call_meets F.slot_list_append ⟨_,e,rfl⟩ F.entry_list_append (F.args_list_append_2 _ _) (PySem.list_append l its.toArray n u (by rw [List.size_toArray]; omega)) ⟨e,?_⟩
 refine ⟨.non,_,I.lset (its':=its ++ [u]) hH e (by simp) (r.append (.cons ru .nil)) ?_,rfl,q⟩
 rw [List.length_append,List.length_singleton]
 omega
def rExtend:V->List V->Hp->VK->Prop:=fun x vs H Q=>∃ l b xs zs,x = .ref l/\vs = [.ref b]/\H l = some (.lst xs)/\H b = some (.lst zs)/\xs.length + zs.length<=sizeLine/\Q .non (upd H l (.lst (xs ++ zs)))
theorem mt_extend:MtM X "list.extend" rExtend:=by
 intro pins s σ H x vs v us Q I rx rv h
 obtain ⟨l,b,xs,zs,rfl,rfl,hH,hB,hz,q⟩:=h
 cases rx
 obtain ⟨u,rfl,ru⟩:=rv.one
 cases ru
 obtain ⟨z,its,n,r,hl,e⟩:=I.lstM hH
 obtain ⟨z2,its2,n2,r2,hl2,e2⟩:=I.lstM hB
 have hsz:its.toArray.size + its2.toArray.size<=sizeLine:=by rw [List.size_toArray,List.size_toArray]; omega
 have hlong:¬ (!its.toArray.isEmpty && Builtin.List.listTooLong (its.toArray.size + its2.toArray.size)) = true:=by
  rw [notLongL hsz,Bool.and_false]
  exact Bool.false_ne_true
 refine call_meets F.slot_list_extend ⟨_,e,rfl⟩ F.entry_list_extend (F.args_list_extend_2 _ _)
  (AutoSeq1.list_extend_list_list_0 l its.toArray n b its2.toArray n2 hlong (by rw [List.size_toArray]; omega) (by omega)) ⟨e,e2,?_⟩
 refine ⟨.non,_,I.lset (its':=its ++ its2) hH e (by simp) (r.append r2) ?_,rfl,q⟩
 rw [List.length_append]
 omega
def rClear:V->List V->Hp->VK->Prop:=fun x vs H Q=>∃ l xs,x = .ref l/\vs = []/\H l = some (.lst xs)/\Q .non (upd H l (.lst []))
theorem mt_clear:MtM X "list.clear" rClear:=by
 intro pins s σ H x vs v us Q I rx rv h
 obtain ⟨l,xs,rfl,rfl,hH,q⟩:=h
 cases rx
 have hus:=rv.zero
 subst hus
 obtain ⟨z,its,n,r,hl,e⟩:=I.lstM hH
 refine call_meets F.slot_list_clear ⟨_,e,rfl⟩ F.entry_list_clear (F.args_list_clear_1 _) (AutoSeq1.list_clear_list_0 l its.toArray n (by rw [List.size_toArray]; omega)) ⟨e,?_⟩
 exact ⟨.non,_,I.lset (its':=[]) (ys:=[]) hH e rfl .nil (Nat.zero_le _),rfl,q⟩
def rCat:R2:=fun x y H Q=>∃ l b xs zs,x = .ref l/\y = .ref b/\H l = some (.lst xs)/\H b = some (.lst zs)/\xs.length + zs.length<=sizeLine/\∀ p,H p = none->Q (.ref p) (upd H p (.lst (xs ++ zs)))
theorem op_cat:OpR X (binaryOp .Add) rCat:=by
 intro pins s σ H x y v u Q I rx ry h
 obtain ⟨l,b,xs,zs,rfl,rfl,hH,hB,hz,q⟩:=h
 cases rx
 cases ry
 obtain ⟨z,its,n,r,hl,e⟩:=I.lstM hH
 obtain ⟨z2,its2,n2,r2,hl2,e2⟩:=I.lstM hB
 refine PySem.P.add_list e e2 ?_ (by rw [List.size_toArray,List.size_toArray]; omega)
 have ea:its.toArray ++ its2.toArray = (its ++ its2).toArray:=by simp
 rw [ea]
 exact ⟨.ref _,_,I.lnew (t':=s.toks) (r.append r2) (by rw [List.length_append]; omega),rfl,q _ I.fresh⟩
def rRep:R2:=fun x y H Q=>∃ l k xs,x = .ref l/\y = .int k/\H l = some (.lst xs)/\-(2 ^ 63)<=k/\k < 2 ^ 63/\xs.length * k.toNat<=sizeLine/\
 ∀ p,H p = none->Q (.ref p) (upd H p (.lst (List.replicate k.toNat xs).flatten))
theorem len_rep {α : Type} (xs:List α) (k:Nat):(List.replicate k xs).flatten.length = k * xs.length:=by
 induction k with
 | zero=>simp
 | succ k ih=>rw [List.replicate_succ,List.flatten_cons,List.length_append,ih,Nat.succ_mul,Nat.add_comm]
theorem op_rep:OpR X (binaryOp .Mult) rRep:=by
 intro pins s σ H x y v u Q I rx ry h
 obtain ⟨l,k,xs,rfl,rfl,hH,h1,h2,hz,q⟩:=h
 cases rx
 obtain ⟨t,rfl⟩:=ry
 obtain ⟨z,its,n,r,hl,e⟩:=I.lstM hH
 have hlen:its.toArray.size * k.toNat<=sizeLine:=by rw [List.size_toArray,<- hl]; exact hz
 have hcap:¬ its.toArray.size * k.toNat > (2 ^ 63 - 1) / 8:=by
  have:(sizeLine:Nat)<=(2 ^ 63 - 1) / 8:=by decide
  omega
 have hfit:¬ (!Builtin.List.listFitsIndex k) = true:=by
  rw [fitsIndex_both h1 h2]
  exact Bool.false_ne_true
 have hlong:¬ Builtin.List.listTooLong (its.toArray.size * k.toNat) = true:=by
  rw [notLongL hlen]
  exact Bool.false_ne_true
 have hnew:List.foldl (fun x1 x2=>x1 ++ x2) #[] (List.replicate (if its.toArray.isEmpty = true then 0 else k.toNat) its.toArray) = (List.replicate k.toNat its).flatten.toArray:=by
  have f0:∀ m:Nat,List.foldl (fun x1 x2=>x1 ++ x2) #[] (List.replicate m its.toArray) = (List.replicate m its).flatten.toArray:=fun m=>by
   have:=foldl_rep its m []
   rw [List.nil_append] at this
   exact this
  rw [f0]
  cases its with
  | nil=>simp
  | cons a r'=>rw [if_neg (by simp)]
 refine wpAny_binaryOp_repeat_ref (T:="list") (U:="int") (by decide) ⟨_,e,rfl⟩ (fun s'=>typeIs_int s' k t) noFill_list_mul F.fills_int_mul F.slot_int_rmul repeat_list F.slot_int_index.lookup
  (call_meets F.slot_int_rmul (typeIs_int s k t) F.entry_int_rmul (F.args_int_rmul_2 _ _) (int___rmul___int_list k t l its.toArray n)
   ⟨e,rfl,⟨_,e,rfl⟩,call_meets F.slot_list_mul ⟨_,e,rfl⟩ F.entry_list_mul (F.args_list_mul_2 _ _) (AutoListH.list___mul___list_int_3 l its.toArray n k t hfit hcap hlong) ⟨e,?_⟩⟩)
 rw [hnew]
 exact ⟨.ref _,_,I.lnew (t':=s.toks) (r.rep k.toNat) (by rw [len_rep,Nat.mul_comm]; exact hz),rfl,q _ I.fresh⟩
end
section
variable {prog:Program} {w:World} {A:Around} {E:Value->Shared->Prop} {s:Shared}
end
section
variable {X:Cx}
end
section
variable {κ : Type} [DecidableEq κ]
def valV (kvs:List (κ × V)) (k : κ):Option V:=(kvs.find? fun kv=>decide (kv.1 = k)).map (·.2)
def putK (kvs:List (κ × V)) (k : κ) (v:V):List (κ × V):=
 if (kvs.any fun kv=>decide (kv.1 = k)) = true then kvs.map (fun kv=>if kv.1 = k then (kv.1,v) else kv) else kvs ++ [(k,v)]
theorem valV_pos {p : κ × V} {r:List (κ × V)} {k : κ} (e:p.1 = k):valV (p :: r) k = some p.2:=by simp [valV,List.find?_cons,e]
theorem valV_neg {p : κ × V} {r:List (κ × V)} {k : κ} (e:¬ p.1 = k):valV (p :: r) k = valV r k:=by simp [valV,List.find?_cons,e]
theorem valV_any (k : κ):∀ kvs:List (κ × V),(kvs.any fun kv=>decide (kv.1 = k)) = (valV kvs k).isSome
 | []=>rfl
 | p :: r=>by
  rw [List.any_cons]
  by_cases e:p.1 = k
  ·simp only [valV_pos e,decide_eq_true e,Bool.true_or,Option.isSome_some]
  ·rw [valV_neg e,decide_eq_false e,Bool.false_or]; exact valV_any k r
theorem valV_map (k j : κ) (y:V):∀ kvs:List (κ × V),valV (kvs.map fun kv=>if kv.1 = k then (kv.1,y) else kv) j = (valV kvs j).map fun x=>if j = k then y else x
 | []=>rfl
 | p :: r=>by
  have ih:=valV_map k j y r
  rw [List.map_cons]
  by_cases h:p.1 = k
  ·rw [if_pos h]
   by_cases e:p.1 = j
   ·rw [valV_pos (p:=(p.1,y)) e,valV_pos e,Option.map_some,if_pos (e.symm.trans h)]
   ·rw [valV_neg (p:=(p.1,y)) e,valV_neg e,ih]
  ·rw [if_neg h]
   by_cases e:p.1 = j
   ·rw [valV_pos (p:=p) e,valV_pos e,Option.map_some,if_neg (fun z=>h (e.trans z))]
   ·rw [valV_neg (p:=p) e,valV_neg e,ih]
theorem valV_snoc (k j : κ) (y:V):∀ kvs:List (κ × V),valV kvs k = none->valV (kvs ++ [(k,y)]) j = if j = k then some y else valV kvs j
 | [],_=>by
  by_cases e:k = j
  ·rw [if_pos e.symm]; exact valV_pos (p:=(k,y)) e
  ·rw [if_neg (fun z=>e z.symm)]; exact valV_neg (p:=(k,y)) e
 | p :: r,hn=>by
  rw [List.cons_append]
  have hk:¬ p.1 = k:=fun z=>by rw [valV_pos z] at hn; cases hn
  rw [valV_neg hk] at hn
  have ih:=valV_snoc k j y r hn
  by_cases e:p.1 = j
  ·rw [valV_pos e,valV_pos e,if_neg (fun z=>hk (e.trans z))]
  ·rw [valV_neg e,valV_neg e,ih]
theorem valV_put (kvs:List (κ × V)) (k j : κ) (y:V):valV (putK kvs k y) j = if j = k then some y else valV kvs j:=by
 unfold putK
 by_cases a:(kvs.any fun kv=>decide (kv.1 = k)) = true
 ·rw [if_pos a,valV_map]
  rw [valV_any] at a
  by_cases e:j = k
  ·obtain ⟨x,hx⟩:=Option.isSome_iff_exists.mp a
   rw [if_pos e,e,hx,Option.map_some,if_pos rfl]
  ·rw [if_neg e]
   cases valV kvs j with
   | none=>rfl
   | some x=>rw [Option.map_some,if_neg e]
 ·rw [if_neg a]
  refine valV_snoc k j y kvs ?_
  rw [valV_any] at a
  cases q:valV kvs k with
  | none=>rfl
  | some x=>rw [q] at a; exact (a rfl).elim
theorem length_putK (kvs:List (κ × V)) (k : κ) (v:V):(putK kvs k v).length<=kvs.length + 1:=by
 unfold putK
 split
 ·rw [List.length_map]; omega
 ·rw [List.length_append,List.length_cons,List.length_nil]; omega
theorem putK_new {kvs:List (κ × V)} {k : κ} (v:V) (h:valV kvs k = none):putK kvs k v = kvs ++ [(k,v)]:=by
 unfold putK
 rw [valV_any,h]
 exact if_neg (by decide)
theorem RelO.isSome_eq {o:Option V} {u:Option Value} (r:RelO o u):o.isSome = u.isSome:=by
 cases o with
 | none=>cases u with
  | none=>rfl
  | some _=>exact (show False from r).elim
 | some _=>cases u with
  | none=>exact (show False from r).elim
  | some _=>rfl
theorem RelO.getD {o:Option V} {u:Option Value} {d:V} {d':Value} (r:RelO o u) (rd:RelV d d'):RelV (o.getD d) (u.getD d'):=by
 cases o with
 | none=>cases u with
  | none=>exact rd
  | some _=>exact (show False from r).elim
 | some _=>cases u with
  | none=>exact (show False from r).elim
  | some _=>exact r
theorem KV.val {kvs:List (κ × V)} {vs:List (κ × Value)} (r:KV kvs vs) (k : κ):RelO (valV kvs k) (valueAt vs k):=by
 unfold KV at r
 induction r with
 | nil=>exact True.intro
 | @cons p q ps qs h t ih=>
  obtain ⟨h1,h2⟩:=h
  by_cases e:p.1 = k
  ·have e':q.1 = k:=h1.symm.trans e
   have b:valueAt (q :: qs) k = some q.2:=by simp [valueAt,List.find?_cons,e']
   rw [valV_pos e,b]; exact h2
  ·have e':¬ q.1 = k:=fun z=>e (h1.trans z)
   have b:valueAt (q :: qs) k = valueAt qs k:=by simp [valueAt,List.find?_cons,e']
   rw [valV_neg e,b]; exact ih
theorem KV.any {kvs:List (κ × V)} {vs:List (κ × Value)} (r:KV kvs vs) (k : κ):(kvs.any fun kv=>decide (kv.1 = k)) = vs.any fun kv=>decide (kv.1 = k):=by
 unfold KV at r
 induction r with
 | nil=>rfl
 | cons h t ih=>rw [List.any_cons,List.any_cons,ih,h.1]
theorem KV.repl {kvs:List (κ × V)} {vs:List (κ × Value)} (r:KV kvs vs) (k : κ) {y:V} {u:Value} (ry:RelV y u) :
  KV (kvs.map fun kv=>if kv.1 = k then (kv.1,y) else kv) (vs.map fun kv=>if kv.1 = k then (kv.1,u) else kv):=by
 unfold KV at r |-
 induction r with
 | nil=>exact .nil
 | @cons p q ps qs h t ih=>
  rw [List.map_cons,List.map_cons]
  refine .cons ?_ ih
  obtain ⟨h1,h2⟩:=h
  by_cases e:p.1 = k
  ·rw [if_pos e,if_pos (h1.symm.trans e)]; exact ⟨h1,ry⟩
  ·rw [if_neg e,if_neg (fun z=>e (h1.trans z))]; exact ⟨h1,h2⟩
theorem KV.put {kvs:List (κ × V)} {vs:List (κ × Value)} (r:KV kvs vs) (k : κ) {y:V} {u:Value} (ry:RelV y u):KV (putK kvs k y) (stored vs k u):=by
 unfold putK stored
 rw [r.any k]
 by_cases e:(vs.any fun kv=>decide (kv.1 = k)) = true
 ·rw [if_pos e,if_pos e]; exact r.repl k ry
 ·rw [if_neg e,if_neg e]; exact Paired.snoc r ⟨rfl,ry⟩
theorem KV.length {kvs:List (κ × V)} {vs:List (κ × Value)} (r:KV kvs vs):kvs.length = vs.length:=Paired.length r
end
theorem kV_is {P:Program} {w:World} {k:Key} {u:Value} (r:RelV (kV k) u):(mixKind P w).is k u = true:=by
 cases k with
 | inl i=>obtain ⟨t,e⟩:=(show ∃ t,u = Value.int i t from r); subst e; exact mixKind_int P w i t
 | inr x=>obtain ⟨t,e⟩:=(show ∃ t,u = Value.str x t from r); subst e; exact mixKind_str P w x t
theorem items_are {P:Program} {w:World}:∀ {ks:List Key} {us:List Value},Vals (ks.map kV) us->ItemsAre (mixKind P w) ks us
 | [],_,r=>by rw [List.map_nil] at r; cases r; exact .nil
 | k :: ks,_,r=>by
  rw [List.map_cons] at r
  cases r with
  | cons h t=>exact .cons (kV_is h) (items_are t)
abbrev KT (H:Hp):List (List Key × V)->List (List Key × Addr × Value)->Prop:=Paired fun p q=>p.1 = q.1/\H q.2.1 = some (.tup (p.1.map kV))/\RelV p.2 q.2.2
theorem KT.val {H:Hp} {kvs:List (List Key × V)} {xs:List (List Key × Addr × Value)} (r:KT H kvs xs) (k:List Key):RelO (valV kvs k) ((atKey xs k).map (·.2)):=by
 induction r with
 | nil=>exact True.intro
 | @cons p q ps qs h t ih=>
  obtain ⟨h1,_,h2⟩:=h
  by_cases e:p.1 = k
  ·have e':q.1 = k:=h1.symm.trans e
   have b:atKey (q :: qs) k = some q.2:=by simp [atKey,List.find?_cons,e']
   rw [valV_pos e,b]; exact h2
  ·have e':¬ q.1 = k:=fun z=>e (h1.trans z)
   have b:atKey (q :: qs) k = atKey qs k:=by simp [atKey,List.find?_cons,e']
   rw [valV_neg e,b]; exact ih
theorem KT.repl {H:Hp} {kvs:List (List Key × V)} {xs:List (List Key × Addr × Value)} (r:KT H kvs xs) (k:List Key) {y:V} {u:Value} (ry:RelV y u) :
  KT H (kvs.map fun kv=>if kv.1 = k then (kv.1,y) else kv) (xs.map (putAt k u)):=by
 induction r with
 | nil=>exact .nil
 | @cons p q ps qs h t ih=>
  rw [List.map_cons,List.map_cons]
  refine .cons ?_ ih
  obtain ⟨h1,h2,h3⟩:=h
  unfold putAt
  by_cases e:p.1 = k
  ·rw [if_pos e,if_pos (h1.symm.trans e)]; exact ⟨h1,h2,ry⟩
  ·rw [if_neg e,if_neg (fun z=>e (h1.trans z))]; exact ⟨h1,h2,h3⟩
theorem KT.put {H:Hp} {kvs:List (List Key × V)} {xs:List (List Key × Addr × Value)} (r:KT H kvs xs) (k:List Key) {b:Addr} {y:V} {u:Value} (hb:H b = some (.tup (k.map kV))) (ry:RelV y u) :
  KT H (putK kvs k y) (storedH xs k b u):=by
 have e:(kvs.any fun kv=>decide (kv.1 = k)) = (atKey xs k).isSome:=by
  rw [valV_any,(r.val k).isSome_eq,Option.isSome_map]
 unfold putK storedH
 rw [e]
 by_cases q:(atKey xs k).isSome = true
 ·rw [if_pos q,if_pos q]; exact r.repl k ry
 ·rw [if_neg q,if_neg q]; exact Paired.snoc r ⟨rfl,hb,ry⟩
theorem KT.keeps {H H':Hp} {kvs:List (List Key × V)} {xs:List (List Key × Addr × Value)} (r:KT H kvs xs) (ht:∀ b ys,H b = some (.tup ys)->H' b = some (.tup ys)):KT H' kvs xs:=
 Paired.mapP r fun _ _ z=>⟨z.1,ht _ _ z.2.1,z.2.2⟩
section
variable {P:Program} {w:World} {H:Hp} {h:Heap} {a:Addr}
theorem rd_of {u:HO} (ok:HOk P w H h) (e:Rd H a u):ObjOk P w H h a u:=e.ok ok
theorem dk_rd {kvs:List (Key × V)} (ok:HOk P w H h) (e:Rd H a (.dK kvs)):kvs.length<=sizeLine/\(a == sysModules) = false/\∃ vs,KV kvs vs/\h.DictOf (mixKind P w) a vs:=
 show ObjOk P w H h a (.dK kvs) from rd_of ok e
theorem dk_of {kvs:List (Key × V)} (ok:HOk P w H h) (e:H a = some (.dK kvs)):kvs.length<=sizeLine/\(a == sysModules) = false/\∃ vs,KV kvs vs/\h.DictOf (mixKind P w) a vs:=dk_rd ok (.inl e)
theorem key_of {ks:List Key} (ok:HOk P w H h) (e:H a = some (.tup (ks.map kV))):(tupleKind (mixKind P w)).is h ks a:=by
 obtain ⟨_,its,r,o,h1,h2,n,h3⟩:=(show ObjOk P w H h a (.tup (ks.map kV)) from ok a _ e)
 exact ⟨o,its.toArray,n,h1,h2,h3,by simpa using items_are r⟩
theorem dt_rd {kvs:List (List Key × V)} (ok:HOk P w H h) (e:Rd H a (.dT kvs)):kvs.length<=sizeLine/\(a == sysModules) = false/\
  ∃ xs,KT H kvs xs/\h.DictOfH (tupleKind (mixKind P w)) a xs:=by
 obtain ⟨z,y,xs,r,o,es,ep,h1,h2,h3,h4,h5⟩:=(show ObjOk P w H h a (.dT kvs) from rd_of ok e)
 refine ⟨z,y,xs,r,o,es,ep,h1,h2,h3,h4,fun x hx=>?_,h5⟩
 have all:∀ {l:List (List Key × V)} {m:List (List Key × Addr × Value)},KT H l m->∀ x ∈ m,(tupleKind (mixKind P w)).is h x.1 x.2.1:=by
  intro l m q
  induction q with
  | nil=>intro x hx; exact nomatch hx
  | @cons p q ps qs hq t ih=>
   intro x hx
   rcases List.mem_cons.mp hx with e | hx
   ·subst e
    exact key_of ok (by rw [<- hq.1]; exact hq.2.1)
   ·exact ih x hx
 exact all r x hx
theorem dt_of {kvs:List (List Key × V)} (ok:HOk P w H h) (e:H a = some (.dT kvs)):kvs.length<=sizeLine/\(a == sysModules) = false/\
  ∃ xs,KT H kvs xs/\h.DictOfH (tupleKind (mixKind P w)) a xs:=dt_rd ok (.inl e)
end
def DGet (H:Hp) (a:Addr) (y:V) (r:Option V):Prop:=
 (∃ kvs k,Rd H a (.dK kvs)/\y = kV k/\r = valV kvs k)\/∃ kvs k b,Rd H a (.dT kvs)/\y = .ref b/\H b = some (.tup (k.map kV))/\r = valV kvs k
def DPut (H:Hp) (a:Addr) (y v:V) (H':Hp):Prop:=
 (∃ kvs k,H a = some (.dK kvs)/\y = kV k/\kvs.length < sizeLine/\H' = upd H a (.dK (putK kvs k v)))\/
 ∃ kvs k b,H a = some (.dT kvs)/\y = .ref b/\H b = some (.tup (k.map kV))/\kvs.length < sizeLine/\H' = upd H a (.dT (putK kvs k v))
theorem DGet.k {H:Hp} {a:Addr} {kvs:List (Key × V)} {k:Key} (e:H a = some (.dK kvs)):DGet H a (kV k) (valV kvs k):=.inl ⟨kvs,k,.inl e,rfl,rfl⟩
theorem DPut.k {H:Hp} {a:Addr} {kvs:List (Key × V)} {k:Key} {v:V} (e:H a = some (.dK kvs)) (hl:kvs.length < sizeLine):DPut H a (kV k) v (upd H a (.dK (putK kvs k v))):=.inl ⟨kvs,k,e,rfl,hl,rfl⟩
section
variable {X:Cx} {pins:List (Addr × Obj)} {σ : St} {H:Hp} {s:Shared} {a:Addr} {y v:V} {u r:Value} {o:Option V} {A:Around} {E:Value->Shared->Prop}
theorem Inv.big (I:Inv X pins σ H s):sysModules < s.heap.objs.size:=by
 have h:mainGlobals < s.heap.objs.size:=(I.mod.glob.keeps I.bk).lt
 exact Nat.lt_trans (by decide) h
theorem d_getItem {Q:Value->Shared->Prop} (hu:A.units + 1 < cLine) (I:Inv X pins σ H s) (g:DGet H a y (some v)) (ry:RelV y u) (h:∀ w' s',Inv X pins σ H s'->RelV v w'->Q w' s') :
  wpAny (model X.prog X.w) A (getItem (.ref a) u) Q E s:=by
 rcases g with ⟨kvs,k,e,ey,l⟩ | ⟨kvs,k,b,e,ey,eb,l⟩
 ·subst ey
  obtain ⟨z,hd,vs,rel,dd⟩:=dk_rd I.hok e
  obtain ⟨w',hw,rw'⟩:=RelO.some_of (v:=v) (o:=valueAt vs k) (by rw [l]; exact rel.val k)
  exact wpAny_getItem_of (kV_is ry) dd.mapOf hw (h w' _ (I.tok _) rw')
 ·subst ey
  cases (show u = Value.ref b from ry)
  obtain ⟨z,hd,xs,rel,dd⟩:=dt_rd I.hok e
  obtain ⟨w',hw,rw'⟩:=RelO.some_of (v:=v) (o:=(atKey xs k).map (·.2)) (by rw [l]; exact rel.val k)
  obtain ⟨p,hp,hp2⟩:=Option.map_eq_some_iff.mp hw
  refine wpAny_getItem_heap (tupleKind_room_in1 hu) (key_of I.hok eb) dd hp ?_
  rw [hp2]
  exact h w' _ (I.tok _) rw'
theorem d_in {Q:Value->Shared->Prop} (hu:A.units + 1 < cLine) (I:Inv X pins σ H s) (g:DGet H a y o) (ry:RelV y u) (h:∀ s',Inv X pins σ H s'->Q (.bool o.isSome) s') :
  wpAny (model X.prog X.w) A (compareOp .In u (.ref a)) Q E s:=by
 rcases g with ⟨kvs,k,e,ey,l⟩ | ⟨kvs,k,b,e,ey,eb,l⟩
 ·subst ey
  obtain ⟨z,hd,vs,rel,dd⟩:=dk_rd I.hok e
  refine wpAny_in_of (kV_is ry) hd dd.mapOf ?_
  rw [<- (rel.val k).isSome_eq,<- l]
  exact h _ (I.tok _)
 ·subst ey
  cases (show u = Value.ref b from ry)
  obtain ⟨z,hd,xs,rel,dd⟩:=dt_rd I.hok e
  refine wpAny_in_heap (tupleKind_room_in1 hu) (key_of I.hok eb) hd dd ?_
  have q:=(rel.val k).isSome_eq
  rw [Option.isSome_map] at q
  rw [<- q,<- l]
  exact h _ (I.tok _)
theorem d_notIn {Q:Value->Shared->Prop} (hu:A.units + 1 < cLine) (I:Inv X pins σ H s) (g:DGet H a y o) (ry:RelV y u) (h:∀ s',Inv X pins σ H s'->Q (.bool (!o.isSome)) s') :
  wpAny (model X.prog X.w) A (compareOp .NotIn u (.ref a)) Q E s:=by
 rcases g with ⟨kvs,k,e,ey,l⟩ | ⟨kvs,k,b,e,ey,eb,l⟩
 ·subst ey
  obtain ⟨z,hd,vs,rel,dd⟩:=dk_rd I.hok e
  refine wpAny_notIn_of (kV_is ry) hd dd.mapOf ?_
  rw [<- (rel.val k).isSome_eq,<- l]
  exact h _ (I.tok _)
 ·subst ey
  cases (show u = Value.ref b from ry)
  obtain ⟨z,hd,xs,rel,dd⟩:=dt_rd I.hok e
  refine wpAny_notIn_heap (tupleKind_room_in1 hu) (key_of I.hok eb) hd dd ?_
  have q:=(rel.val k).isSome_eq
  rw [Option.isSome_map] at q
  rw [<- q,<- l]
  exact h _ (I.tok _)
theorem d_write {h':Heap} {t':Nat} {ob:HO} (I:Inv X pins σ H s) (mu:Mut (H a)) (hs:Heap.SameBut a s.heap h') (he:∃ q,h'.get? a = some q) (new:ObjOk X.prog X.w (upd H a ob) h' a ob) :
  Inv X pins σ (upd H a ob) { s with heap:=h',toks:=t' }:=
 I.write (x:=a) (e:=a) mu (.inl rfl) (fun b q hb z=>(hs.2 b hb).trans z) he new
theorem dk_new {P:Program} {w:World} {H':Hp} {h':Heap} {kvs:List (Key × V)} {vs:List (Key × Value)} (z:kvs.length<=sizeLine) (hd:(a == sysModules) = false) (rel:KV kvs vs) (dd:h'.DictOf (mixKind P w) a vs) :
  ObjOk P w H' h' a (.dK kvs):=⟨z,hd,vs,rel,dd⟩
theorem d_setItem {H':Hp} {Q:Unit->Shared->Prop} (hu:A.units + 1 < cLine) (I:Inv X pins σ H s) (g:DPut H a y v H') (ry:RelV y u) (rv:RelV v r) (h:∀ s',Inv X pins σ H' s'->Q () s') :
  wpAny (model X.prog X.w) A (setItem (.ref a) u r) Q E s:=by
 rcases g with ⟨kvs,k,e,ey,l,eH⟩ | ⟨kvs,k,b,e,ey,eb,l,eH⟩
 ·subst ey eH
  obtain ⟨z,hd,vs,rel,dd⟩:=dk_of I.hok e
  have hz:vs.length<=sizeLine:=by rw [<- rel.length]; exact z
  have hl:(putK kvs k v).length<=sizeLine:=by have:=length_putK kvs k v; omega
  refine wpAny_setItem_pairs (hsz:=hz) (kV_is ry) dd fun h' dd' hs=>h _ ?_
  have he:∃ q,h'.get? a = some q:=let ⟨q,_,_,hq,_⟩:=dd'; ⟨q,hq⟩
  exact d_write I (by rw [e]; exact True.intro) hs he (dk_new hl hd (rel.put k rv) dd')
 ·subst ey eH
  cases (show u = Value.ref b from ry)
  obtain ⟨z,hd,xs,rel,dd⟩:=dt_of I.hok e
  have hz:xs.length<=sizeLine:=by rw [<- Paired.length rel]; exact z
  have hl:(putK kvs k v).length<=sizeLine:=by have:=length_putK kvs k v; omega
  refine wpAny_setItem_heap (hsz:=hz) (tupleKind_room_in1 hu) (key_of I.hok eb) dd fun h' dd' hs=>h _ ?_
  obtain ⟨q,es,ep,hq,h2,h3,h4,_,h5⟩:=dd'
  refine d_write I (by rw [e]; exact True.intro) hs ⟨q,hq⟩ ⟨hl,hd,_,(rel.put k eb rv).keeps fun c ys ec=>?_,q,es,ep,hq,h2,h3,h4,h5⟩
  rw [upd_ne (ne_of ec e (fun z=>nomatch z))]
  exact ec
end
section
variable {X:Cx} {pins:List (Addr × Obj)} {σ : St} {H:Hp} {s:Shared} {a:Addr} {kvs:List (Key × V)} {k:Key} {u:Value} {A:Around} {E:Value->Shared->Prop}
end
def NoSl (i:Expr):Prop:=∀ ov iv,subscripted i false ov iv = operate [ov,iv] (getItem ov iv)
theorem subD_of {prog:Program} {w:World} {A:Around} {E:Value->Shared->Prop} {s:Shared} {env:Env} {value slice:Expr} {pos:Pos} {T id:String} {Q:Value->Shared->Prop}
  (hl:typeLookup (.type T) "__getitem__" = pure (some (.builtin id))) (hs:NoSl slice)
  (h:wpAny (model prog w) A (eval value env) (fun o s₁=>wpAny (model prog w) A (eval slice env) (fun i s₂=>s₂.TypeIs o T/\wpAny (model prog w) A (getItem o i) Q E s₂) E s₁) E s) :
  wpAny (model prog w) A (eval (.Subscript value slice pos) env) Q E s:=by
 refine Subscript_ (wpAny_mono h (fun o s₁ h₁=>wpAny_mono h₁ (fun i s₂ h₂=>?_) fun _ _ x=>x) fun _ _ x=>x)
 obtain ⟨hT,h₂⟩:=h₂
 unfold subscriptTail
 refine wpAny_bind ?_
 rw [getitemInPython_of_ne hT.not_modules]
 refine wpAny_bind (wpAny_specialOf hT hl ?_)
 have fin:wpAny (model prog w) A (subscripted slice false o i) (fun r s₃=>wpAny (model prog w) A (letTemporaryGo value o r >>= fun _=>pure r) Q E s₃) E s₂:=by
  rw [hs o i]
  exact wpAny_operating (wpAny_mono h₂ (fun r s₃ h₃=>wpAny_bind (wpAny_letTemporaryGo (wpAny_pure h₃))) fun _ _ x=>x)
 first
  | exact wpAny_pure (wpAny_bind fin)
  | exact wpAny_bind (wpAny_pure (wpAny_bind fin))
  | exact wpAny_bind fin
theorem dict_typeIs {X:Cx} {pins:List (Addr × Obj)} {σ : St} {H:Hp} {s:Shared} {a:Addr} {y:V} {o:Option V} (I:Inv X pins σ H s) (g:DGet H a y o):s.TypeIs (.ref a) "dict":=by
 rcases g with ⟨kvs,k,e,_,_⟩ | ⟨kvs,k,b,e,_,_,_⟩
 ·obtain ⟨_,_,vs,_,dd⟩:=dk_rd I.hok e
  exact dd.typeIs
 ·obtain ⟨_,_,xs,_,dd⟩:=dt_rd I.hok e
  exact dd.typeIs
def tDGet (td ty:TE):TE:=fun σ H Q=>td σ H fun x H1=>ty σ H1 fun y H2=>∃ a v,x = .ref a/\DGet H2 a y (some v)/\Q v H2
def tDIn (ty td:TE):TE:=fun σ H Q=>ty σ H fun y H1=>td σ H1 fun x H2=>∃ a o,x = .ref a/\DGet H2 a y o/\Q (.bl o.isSome) H2
def tDNotIn (ty td:TE):TE:=fun σ H Q=>ty σ H fun y H1=>td σ H1 fun x H2=>∃ a o,x = .ref a/\DGet H2 a y o/\Q (.bl (!o.isSome)) H2
def sDPut (td ty tv:TE):TS:=fun D σ H=>tv σ H fun v H1=>td σ H1 fun x H2=>ty σ H2 fun y H3=>∃ a H4,x = .ref a/\DPut H3 a y v H4/\D.nx σ H4
section
variable {X:Cx} {o i e value:Expr} {pos pos' tpos:Pos} {td ty tv:TE}
theorem pe_dget (hu:X.A.units + 1 < cLine) (ho:PE X o td) (hi:PE X i ty) (hs:NoSl i):PE X (.Subscript o i pos) (tDGet td ty):=by
 refine ⟨?_⟩
 intro pins s σ H Q I h
 refine subD_of PySem.F.slot_dict_getitem.lookup hs (thn (ho pins s σ H _ I h) fun u s1 ⟨x,H1,I1,rx,q1⟩=>thn (hi pins s1 σ H1 _ I1 q1) fun iv s2 ⟨y,H2,I2,ry,a,v,ex,g,q2⟩=>?_)
 subst ex
 obtain rfl:u = Value.ref a:=rx
 exact ⟨dict_typeIs I2 g,d_getItem hu I2 g ry fun w' s3 I3 rw'=>⟨v,H2,I3,rw',q2⟩⟩
theorem pc_din (hu:X.A.units + 1 < cLine) (hi:PE X i ty) (ho:PE X o td):PC X .In i o (tDIn ty td):=by
 refine ⟨?_⟩
 intro pins s σ H Q I h
 refine thn (hi pins s σ H _ I h) fun iv s1 ⟨y,H1,I1,ry,q1⟩=>thn (ho pins s1 σ H1 _ I1 q1) fun u s2 ⟨x,H2,I2,rx,a,ov,ex,g,q2⟩=>?_
 subst ex
 obtain rfl:u = Value.ref a:=rx
 exact d_in hu I2 g ry fun s3 I3=>⟨.bl ov.isSome,H2,I3,rfl,q2⟩
theorem pc_dnotin (hu:X.A.units + 1 < cLine) (hi:PE X i ty) (ho:PE X o td):PC X .NotIn i o (tDNotIn ty td):=by
 refine ⟨?_⟩
 intro pins s σ H Q I h
 refine thn (hi pins s σ H _ I h) fun iv s1 ⟨y,H1,I1,ry,q1⟩=>thn (ho pins s1 σ H1 _ I1 q1) fun u s2 ⟨x,H2,I2,rx,a,ov,ex,g,q2⟩=>?_
 subst ex
 obtain rfl:u = Value.ref a:=rx
 exact d_notIn hu I2 g ry fun s3 I3=>⟨.bl (!ov.isSome),H2,I3,rfl,q2⟩
theorem ps_dput (hu:X.A.units + 1 < cLine) (ho:PE X o td) (hi:PE X i ty) (hv:PE X value tv) (hs:swapsWith value (some (.Subscript o i pos')) pos.line X.env = pure false) :
  PS X (.Assign [.Subscript o i pos'] value pos) (sDPut td ty tv):=by
 refine ⟨?_⟩
 intro pins s σ H D I h
 refine wpAny_Assign_Subscript (thn (hv pins s σ H _ I h) fun r s1 ⟨v,H1,I1,rv,q1⟩=>thn (ho pins s1 σ H1 _ I1 q1) fun u s2 ⟨x,H2,I2,rx,q2⟩=>thn (hi pins s2 σ H2 _ I2 q2) fun iv s3 ⟨y,H3,I3,ry,a,H4,ex,g,q3⟩=>?_) hs
 subst ex
 obtain rfl:u = Value.ref a:=rx
 exact d_setItem hu I3 g ry rv fun s4 I4=>⟨σ,H4,I4,q3⟩
end
theorem dk_empty {P:Program} {w:World} {H:Hp} (h:Heap) (hb:sysModules < h.objs.size):ObjOk P w H (h.push { cls:=.type "dict",data:=.dict #[] }) h.objs.size (.dK []):=
 ⟨Nat.zero_le _,beq_eq_false_iff_ne.mpr (Ne.symm (Nat.ne_of_lt hb)),[],.nil,Heap.DictOf.new h⟩
def tDNewK:TE:=fun _ H Q=>∀ p,H p = none->Q (.ref p) (upd H p (.dK []))
section
variable {X:Cx} {pos:Pos}
theorem pe_dnewK:PE X (.Dict [] [] pos) tDNewK:=⟨fun pins s σ H Q I h=>
 wpAny_Dict_empty ⟨.ref s.heap.objs.size,_,I.laid (a:=s.heap.objs.size) (o:=.dK []) (t':=s.toks) (fun _ _ q=>Heap.get?_push_of_some _ q) (Nat.le_refl _) (dk_empty s.heap I.big),rfl,h _ (I.hok.fresh (Nat.le_refl _))⟩⟩
end
def tPairs:List (TE × TE)->St->Hp->(List (V × V)->Hp->Prop)->Prop
 | [],_,H,Q=>Q [] H
 | (tk,tv) :: r,σ,H,Q=>tk σ H fun x H1=>tv σ H1 fun y H2=>tPairs r σ H2 fun ps H3=>Q ((x,y) :: ps) H3
structure M1 (X:Cx) (o:Expr) (m:Str) (apos:Pos) (e:Expr) (cpos:Pos):Prop where
 base:attributeBase o m X.env (eval o X.env) = eval o X.env
 few:((backTo cpos (starEach [e] X.env)).all (fun x=>!x.1) && (backToKw cpos (keywordEach [] X.env)).all (fun x=>x.1.isSome)
  && decide (([e]:List Expr).length + ([]:List Keyword).length + (if ([]:List Keyword).isEmpty then 0 else 1) < 30)) = true
 line:(apos.endLine == cpos.line) = true
 trees:backTo cpos (starEach [e] X.env) = [(false,eval e X.env)]
def IsD (H:Hp) (a:Addr):Prop:=(∃ kvs,Rd H a (.dK kvs))\/∃ kvs,Rd H a (.dT kvs)
theorem isD_at {X:Cx} {pins:List (Addr × Obj)} {σ : St} {H:Hp} {s:Shared} {a:Addr} (I:Inv X pins σ H s) (d:IsD H a) :
  s.TypeIs (.ref a) "dict"/\(∀ b,Value.ref a = .ref b->∃ ob,s.heap.get? b = some ob/\ob.dict = none)/\(a == sysModules) = false:=by
 rcases d with ⟨kvs,e⟩ | ⟨kvs,e⟩
 ·obtain ⟨_,hd,vs,_,dd⟩:=dk_rd I.hok e
  refine ⟨dd.typeIs,fun b q=>?_,hd⟩
  cases q
  obtain ⟨ob,_,_,h1,h2,_⟩:=dd
  exact ⟨ob,h1,h2.2.1⟩
 ·obtain ⟨_,hd,xs,_,dd⟩:=dt_rd I.hok e
  refine ⟨dd.typeIs,fun b q=>?_,hd⟩
  cases q
  obtain ⟨ob,_,_,h1,h2,_⟩:=dd
  exact ⟨ob,h1,h2.2.1⟩
section
variable {X:Cx} {pins:List (Addr × Obj)} {σ : St} {H:Hp} {s:Shared} {a:Addr} {y d:V} {u r:Value} {o:Option V} {A:Around} {E:Value->Shared->Prop}
theorem d_get1 {Q:Value->Shared->Prop} (hu:A.units + 1 < cLine) (I:Inv X pins σ H s) (g:DGet H a y o) (ry:RelV y u) (h:∀ w' s',Inv X pins σ H s'->RelV (o.getD .non) w'->Q w' s') :
  wpAny (model X.prog X.w) A (call (.builtin "dict.get") [.ref a,u]) Q E s:=by
 rcases g with ⟨kvs,k,e,ey,l⟩ | ⟨kvs,k,b,e,ey,eb,l⟩
 ·subst ey
  obtain ⟨z,hd,vs,rel,dd⟩:=dk_rd I.hok e
  refine call_meetsIn PySem.F.slot_dict_get dd.typeIs PySem.F.entry_dict_get (PySem.F.args_dict_get_2 _ _) (meets_dict_get (mixKind X.prog X.w) a (kV_is ry) hd) ⟨_,dd.mapOf,h _ _ (I.tok _) ?_⟩
  rw [l]
  exact (rel.val k).getD rfl
 ·subst ey
  cases (show u = Value.ref b from ry)
  obtain ⟨z,hd,xs,rel,dd⟩:=dt_rd I.hok e
  refine call_meetsIn PySem.F.slot_dict_get dd.typeIs PySem.F.entry_dict_get (PySem.F.args_dict_get_2 _ _) (meetsH_dict_get (tupleKind (mixKind X.prog X.w)) a b hd) ⟨tupleKind_room_in1 hu,k,xs,key_of I.hok eb,dd,h _ _ (I.tok _) ?_⟩
  rw [l]
  exact (rel.val k).getD rfl
end
def tDGet1 (td ty:TE):TE:=fun σ H Q=>td σ H fun x H1=>∃ a,x = .ref a/\IsD H1 a/\ty σ H1 fun y H2=>∃ o,DGet H2 a y o/\Q (o.getD .non) H2
section
variable {X:Cx} {o e f:Expr} {apos cpos:Pos} {td ty tx:TE}
theorem pe_dget1 (hu:X.A.units + 1 < cLine) (ho:PE X o td) (he:PE X e ty) (m:M1 X o "get" apos e cpos):PE X (.Call (.Attribute o "get" apos) [e] [] cpos) (tDGet1 td ty):=by
 refine ⟨?_⟩
 intro pins s σ H Q I h
 refine wpAny_Call_method m.base m.few m.line PySem.F.plainAttrs_dict PySem.F.slot_dict_get PySem.F.type_dict_get (thn (ho pins s σ H _ I h) fun u s1 ⟨x,H1,I1,rx,a,ex,d,q1⟩=>?_)
 subst ex
 obtain rfl:u = Value.ref a:=rx
 obtain ⟨t1,t2,_⟩:=isD_at I1 d
 refine ⟨t1,t2,?_⟩
 rw [m.trees]
 refine Calls.callWith_builtin rfl (Calls.evalArgs_plain (Calls.spliced_cons (thn (he pins s1 σ H1 _ I1 q1) fun iv s2 ⟨y,H2,I2,ry,ov,g,q2⟩=>Calls.spliced_nil ?_)))
 exact d_get1 hu I2 g ry fun w' s3 I3 rw'=>⟨_,H2,I3,rw',q2⟩
end
section
variable {X:Cx} {pins:List (Addr × Obj)} {σ : St} {H:Hp} {s:Shared} {a:Addr} {kvs:List (Key × V)} {A:Around} {E:Value->Shared->Prop}
end
section
variable {X:Cx} {pins:List (Addr × Obj)} {σ : St} {H:Hp} {s:Shared} {a:Addr} {y:V} {u:Value} {A:Around} {E:Value->Shared->Prop}
end
end L2
namespace Att
open PySem PySem.W PySem.Calls PyProof.Rows
theorem ints_of_wellAll {P:Params} {h:Heap}:∀ (ns:List Int) (vs:List Value),WellAll P h vs (ns.map WData.int)->IntsAre vs ns:=by
 intro ns
 induction ns with
 | nil=>
  intro vs w
  rw [List.map_nil] at w
  cases w
  exact .nil
 | cons n ns ih=>
  intro vs w
  rw [List.map_cons] at w
  cases w with
  | cons a b=>
   cases a
   exact .cons _ _ (ih _ b)
theorem script_of {l:OpenLaw} {n:Nat} (hn:l.most = some n) {P:Params} {h:Heap} {args:List WData} {vals:List Value}
  (hpre:l.row.toRowW.claim.pre args = true) (hwl:WellAll P h vals args) :
  ∃ a vs ns,vals = [Value.ref a]/\args = [WData.list (ns.map WData.int)]/\h.get? a = some { cls:=.type "list",data:=.seq vs.toArray }/\IntsAre vs ns/\ns.length<=n:=by
 have hsh:WShape.hasAll [] args [.list .int] = true:=(pre_splitW hpre).1
 have hc:l.pre.holds [] { args:=args } = true:=(pre_splitW hpre).2
 obtain ⟨d,r,rfl,h1,h2⟩:=hasAllW_cons hsh
 obtain rfl:=hasAllW_nil h2
 obtain ⟨xs,rfl,h3⟩:=hasW_list h1
 obtain ⟨ns,rfl⟩:=items_int h3
 have hlen:ns.length<=n:=by
  unfold OpenLaw.pre at hc
  have h4:(WTm.not (.lt (.lit (.int (n:Int))) (.len (.arg 0)))).holds [] { args:=[.list (ns.map .int)] } = true:=by
   have h4:=(holds_andW hc).1
   rw [hn] at h4
   exact h4
  have h5:=condW_of h4 (w_not (w_lt w_lit (w_len_list (w_arg rfl))))
  rw [List.length_map] at h5
  refine Nat.le_of_not_lt fun q=>?_
  have q':(n:Int) < ((ns.length:Nat):Int):=by omega
  first
   | (rw [decide_eq_true q'] at h5; exact absurd h5 (by decide))
   | (simp at h5; omega)
 cases hwl with
 | cons w1 w2=>
  cases w2
  cases w1 with
  | list ho hall=>exact ⟨_,_,ns,rfl,rfl,ho,ints_of_wellAll ns _ hall,hlen⟩
theorem post_true (l:OpenLaw) (args:List WData):l.row.toRowW.claim.post args (.bool true) args = true:=
 postW_of (r:=l.row.toRowW) (X:=(true == true))
  (show WShape.has [] (.bool true) .bool = true by first | rfl | decide | simp [WShape.has,WShape.arms,WShape.armsAll])
  (show (WTm.eq .res (.lit (.bool true))).value [] { args:=args,res:=some (.bool true),after:=args } = some (.bool (true == true)) from w_eq_bool (w_res rfl) w_lit) rfl
section
variable {prog:Program} {w:World} {A:Around} {E:Value->Shared->Prop} {s:Shared} {K:Frag}
def ledger (h:Heap) (L d:Addr):List (Addr × Obj):=(List.range h.objs.size).filterMap fun a=>if a = L\/a = d then none else (h.get? a).map fun o=>(a,o)
end
end Att
namespace L2
open PySem PySem.Spec PyProof.Rows
theorem vals_ints:∀ {vs:List Value} {ns:List Int},IntsAre vs ns->Vals (ns.map V.int) vs
 | _,_,.nil=>.nil
 | _,_,.cons n t h=>.cons ⟨t,rfl⟩ (vals_ints h)
def Only (H:Hp):Prop:=∀ b,H b = none\/∃ o xs,H b = some (.frz o (.lst xs))
theorem law_call {P:Program} {w:World} {K:PySem.W.Frag} {mg mb:Str->Option Value} {CX:CXT} {k:Nat} {fa a:Addr} {fd:FuncData} {x:Str} {sp:Sp} {s₁:Shared} {vs:List Value} {ns:List Int}
  (KX:K.In s₁.heap) (hns:s₁.heap.Ns mainGlobals mg) (hb:s₁.heap.Ns builtinsNs mb) (hbb:∀ x:Str,x ≠ "__name__"->mb x = bootBuiltins x) (hlim:s₁.heap.NoLimit) (hg:s₁.gens = #[])
  (ha:s₁.heap.get? a = some { cls:=.type "list",data:=.seq vs.toArray }) (hi:IntsAre vs ns) (hl:ns.length<=sizeLine) (hr:Room k callerA)
  (F:∀ base:Heap,K.In base->base.Ns mainGlobals mg->FnOk P w K mg base CX k fa fd [x] sp) (hbind:∀ (s:Shared) (u:Value),BindsTo s fd ⟨[u],[]⟩ [(x,u)])
  (hsp:∀ H:Hp,Only H->SqL K H a (ns.map V.int)->sp [.ref a] H (fun v _=>v = .bl true) fun _ _ _=>False)
  (hCX:∀ H e s',CX [] H s₁ (fun _ _ _=>False) e s'->False) :
  codeAny (model P w) callerA (.call (.ref fa) ⟨[.ref a],[]⟩) (fun r s'=>r = .ok (.ret (.bool true))/\OldK s₁.heap s'.heap/\s'.os = s₁.os/\AllBare s'.gens) s₁:=by
 have rv:=vals_ints hi
 have lenV:=hi.length
 have core:∀ H:Hp,Only H->SqL K H a (ns.map V.int)->HOk P w H s₁.heap->(∀ b,H b ≠ none->b = a)->(H a ≠ none->K.lookup a = none)->
   codeAny (model P w) callerA (.call (.ref fa) ⟨[.ref a],[]⟩) (fun r s'=>r = .ok (.ret (.bool true))/\OldK s₁.heap s'.heap/\s'.os = s₁.os/\AllBare s'.gens) s₁:=by
  intro H hO hS hok hA hK
  have base_of:∀ {b:Addr} {o:Obj},s₁.heap.get? b = some o->H b = none->(hidT s₁.heap H).get? b = some o:=fun e n=>hidT_get e n
  have noA:∀ {b:Addr} {o:Obj} {es:Array DictEntry} {ep:Nat},s₁.heap.get? b = some o->o.data = .dict es ep->H b = none:=fun {b o es ep} e d=>by
   cases q:H b with
   | none=>rfl
   | some u=>
    have e':b = a:=hA b (by rw [q]; simp)
    subst e'
    rw [ha] at e; cases e
    have d':Data.seq vs.toArray _ = Data.dict es ep:=d
    cases d'
  have nsK:∀ {b:Addr} {m:Str->Option Value},s₁.heap.Ns b m->(hidT s₁.heap H).Ns b m:=fun {b m} ⟨o,es,ep,e,d,r⟩=>⟨o,es,ep,base_of e (noA e d),d,r⟩
  have hKb:K.In (hidT s₁.heap H):=fun b o e=>base_of (KX b o e) (by
   cases q:H b with
   | none=>rfl
   | some u=>
    have e':b = a:=hA b (by rw [q]; simp)
    subst e'
    rw [hK (by rw [q]; simp)] at e; cases e)
  have hM:Mod K mg (hidT s₁.heap H):=⟨hKb,nsK hns,⟨mb,nsK hb,hbb⟩,let ⟨mc,h1,h2⟩:=hlim; ⟨mc,nsK h1,h2⟩⟩
  have e0:Env0 P w K mg (hidT s₁.heap H) callerA [] s₁ H:=⟨rfl,hM,fun b o e=>of_hidT e,Nat.le_of_eq (hidT_size _ _),trivial,fun b hb=>absurd (show b ∈ ([]:List Addr) from hb) (by simp),hok,.of_eq hg⟩
  refine codeAny_mono ((F _ hKb (nsK hns)).run callerA [] s₁ H ⟨[.ref a],[]⟩ [.ref a] [.ref a] _ _ hr e0 (hbind s₁ (.ref a)) (.cons rfl .nil) (hsp H hO hS)) fun r s' h=>?_
  cases r with
  | error e=>exact (hCX H e s' h).elim
  | ok fl=>
   cases fl with
   | next=>exact False.elim h
   | brk=>exact False.elim h
   | cont=>exact False.elim h
   | ret u=>
    obtain ⟨v,H',os,bare,un,hok',r',q⟩:=h
    have q':v = .bl true:=q
    subst q'
    obtain rfl:u = Value.bool true:=r'
    refine ⟨rfl,OldK.of_keep fun b o e=>?_,os,bare⟩
    cases q:H b with
    | none=>exact un.keep b o e q (by intro z; exact absurd (show b ∈ ([]:List Addr) from z) (by simp)) (by simp)
    | some u=>
     rcases hO b with z | ⟨ob,xs,z⟩
     ·rw [q] at z; cases z
     ·have z2:=un.frzs b ob _ z
      obtain ⟨e1,_⟩:=hok b _ z
      obtain ⟨e2,_⟩:=hok' b _ z2
      rw [e] at e1; cases e1
      exact e2
 cases hk:K.lookup a with
 | some o=>
  have e:=KX a o hk
  rw [ha] at e
  cases e
  refine core (fun _=>none) (fun _=>.inl rfl) (.inr ⟨_,vs.toArray,_,hk,rfl,rfl,rfl,by rw [List.size_toArray,lenV]; exact hl,by simpa using rv⟩) (fun b u z=>by have z':(none:Option HO) = some u:=z; cases z') (fun b z=>absurd rfl z) fun z=>absurd rfl z
 | none=>
  refine core (fun b=>if b = a then some (.frz { cls:=.type "list",data:=.seq vs.toArray } (.lst (ns.map V.int))) else none) (fun b=>?_) (.inl (.inr ⟨{ cls:=.type "list",data:=.seq vs.toArray },if_pos rfl⟩)) (fun b u z=>?_) (fun b z=>?_) fun _=>hk
  ·by_cases hb:b = a
   ·exact .inr ⟨_,_,if_pos hb⟩
   ·exact .inl (if_neg hb)
  ·by_cases hb:b = a
   ·have z':=(if_pos hb).symm.trans z
    cases z'
    subst hb
    exact ⟨ha,by rw [List.length_map]; exact hl,vs,_,rv,ha⟩
   ·have z':=(if_neg hb).symm.trans z
    cases z'
  ·by_cases hb:b = a
   ·exact hb
   ·exact absurd (if_neg hb) z
def inClass (s:Stmt) (j:Nat):Stmt:=match s with
 | .ClassDef _ _ _ body _ _ _ _ _ _ _=>body.getD j (.Pass ⟨0,0,0,0⟩)
 | _=>.Pass ⟨0,0,0,0⟩
def defArgs (s:Stmt):Arguments:=match s with
 | .FunctionDef _ a _ _ _ _ _ _ _ _=>a
 | _=>{ posonlyargs:=[],args:=[],vararg:=none,kwonlyargs:=[],kw_defaults:=[],kwarg:=none,defaults:=[] }
def defBody (s:Stmt):List Stmt:=match s with
 | .FunctionDef _ _ b _ _ _ _ _ _ _=>b
 | _=>[]
def defScope (s:Stmt):Scope:=match s with
 | .FunctionDef _ _ _ _ _ _ sc _ _ _=>sc
 | _=>{ kind:=.function,names:=[],isGenerator:=false,isCoroutine:=false }
abbrev CX0:CXT:=fun _ _ _ _ _ _=>False
abbrev E0:XK:=fun _ _ _=>False
theorem pass0 {X:Cx}:Passes CX0 X E0:=fun _ _ _ _ _ _ _ h=>h.elim
structure Fun (K:PySem.W.Frag) (x qual:Str) (st:Stmt) (f:Addr) (fd:FuncData):Prop where
 ex:∃ (oc:Value) (od:Option Addr) (kV doc pm:Value) (an:Option Addr) (cdv ct:Value) (osl:Array (Option Value)),
  fd = PySem.W.fnOf x qual (defArgs st) (defBody st) (defScope st) .none kV doc pm an cdv ct/\K.lookup f = some ⟨oc,od,.func fd,osl⟩/\PySem.W.codeIn K cdv qual = true
 kp:PySem.W.keepIn K (.ref f) = true
section
variable {P:Program} {w:World} {K:PySem.W.Frag} {mg:Str->Option Value} {base:Heap}
theorem Fun.ok {x qual:Str} {st:Stmt} {f:Addr} {fd:FuncData} {N ps:List Str} {k:Nat} {sp:Sp} (F:Fun K x qual st f fd) (S:FnScope N ps (defScope st)) (len:∀ vs H Q E,sp vs H Q E->vs.length = ps.length)
  (hbody:∀ (cdv:Value) (A:Around) (outer:List Env) (s:Shared) (H:Hp) (vs:List V) (Q:VK) (E:XK),Room k (A.deeper (envOfC qual (defScope st) s.heap.objs.size f cdv))->sp vs H Q E->
   ∃ t,PSs (cxOf CX0 P w K mg base N qual (defScope st) f cdv A outer s H E).nox (defBody st) t/\t { nx:=fun _ H'=>Q .non H',rt:=Q } (start N vs) H):FnOk P w K mg base CX0 (k + 1) f fd ps sp:=by
 obtain ⟨oc,od,kV,doc,pm,an,cdv,ct,osl,rfl,lk,hcd⟩:=F.ex
 refine fn_of lk hcd S len fun A outer s H vs Q E hr hsp=>?_
 obtain ⟨t,h,q⟩:=hbody cdv A outer s H vs Q E hr hsp
 exact ⟨t,h.nox,q⟩
theorem Fun.binds {x qual:Str} {st:Stmt} {f:Addr} {fd:FuncData} {ps:List Str} (F:Fun K x qual st f fd)
  (h:∀ (kV doc pm:Value) (an:Option Addr) (cdv ct:Value) (us:List Value),us.length = ps.length->bindArgs (PySem.W.fnOf x qual (defArgs st) (defBody st) (defScope st) .none kV doc pm an cdv ct) ⟨us,[]⟩ = pure (ps.zip us)):Binds K fd ps []:=by
 obtain ⟨oc,od,kV,doc,pm,an,cdv,ct,osl,rfl,lk,hcd⟩:=F.ex
 exact .all (h kV doc pm an cdv ct)
theorem fun_mk {x qual:Str} {st:Stmt} {f:Addr} {oc:Value} {od an:Option Addr} {osl:Array (Option Value)} {kV doc pm cdv ct:Value} (l:K.lookup f = some ⟨oc,od,.func (PySem.W.fnOf x qual (defArgs st) (defBody st) (defScope st) .none kV doc pm an cdv ct),osl⟩)
  (c:PySem.W.codeIn K cdv qual = true) (k:PySem.W.keepIn K (.ref f) = true):Fun K x qual st f (PySem.W.fnOf x qual (defArgs st) (defBody st) (defScope st) .none kV doc pm an cdv ct):=⟨⟨oc,od,kV,doc,pm,an,cdv,ct,osl,rfl,l,c⟩,k⟩
end
theorem hu_of {A:Around} {k:Nat} (hr:Room k A):A.units + 1 < cLine:=Nat.lt_of_le_of_lt (Nat.add_le_add_left (by decide : 1<=64) _) hr.units
theorem small1000 {n:Nat} (h:n<=1000):n < sizeLine:=Nat.lt_of_le_of_lt h (by decide)
section
variable {X:Cx}
theorem pv (i:Nat) {x:Str} {pos:Pos} (hN:X.N[i]? = some x:=by rfl) (hv:Vis X.env.scope x:=by first | exact Or.inl rfl | exact Or.inr (Or.inl rfl) | exact Or.inr (Or.inr rfl)) (hd:(x == ("__debug__" : Str)) = false:=by decide)
  (hcd:(x == ("__classdict__" : Str)) = false:=by decide):PE X (.Name x pos) (tVar i):=pe_var hN hv hd hcd
end
theorem iteF {A B:Prop} (h:B):if false = true then A else B:=by
 rw [if_neg Bool.false_ne_true]
 exact h
theorem iteT {A B:Prop} (h:A):if true = true then A else B:=by
 rw [if_pos rfl]
 exact h
theorem ite2 {c A B:Prop} [Decidable c] (h1:c->A) (h2:¬ c->B):if c then A else B:=by
 by_cases h:c
 ·rw [if_pos h]
  exact h1 h
 ·rw [if_neg h]
  exact h2 h
def Same (H H':Hp):Prop:=∀ b o,H b = some o->H' b = some o
theorem Same.refl (H:Hp):Same H H:=fun _ _ h=>h
theorem Same.trans {H H1 H2:Hp} (a:Same H H1) (b:Same H1 H2):Same H H2:=fun c o h=>b c o (a c o h)
theorem Same.free {H H':Hp} (e:Same H H') {l:Addr} (h:H' l = Option.none):H l = Option.none:=by
 cases q:H l with
 | none=>rfl
 | some o=>
  rw [e l o q] at h
  cases h
theorem Same.seq {K:PySem.W.Frag} {H H':Hp} {a:Addr} {xs:List V} (e:Same H H') (h:SqL K H a xs):SqL K H' a xs:=by
 rcases h with (h | ⟨o,h⟩) | h
 ·exact .inl (.inl (e _ _ h))
 ·exact .inl (.inr ⟨o,e _ _ h⟩)
 ·exact .inr h
section
variable {X:Cx}
end
section
variable {κ : Type} [DecidableEq κ]
end
def clB (env:Env) (fr:List Str):List (Str × Addr):=fr.map fun n=>(n,(env.cells.lookup n).getD 0)
theorem clB_look {env:Env}:∀ {fr:List Str} {x:Str} {c:Addr},(clB env fr).lookup x = some c->x ∈ fr/\c = (env.cells.lookup x).getD 0
 | [],x,c,h=>by simp [clB] at h
 | n :: r,x,c,h=>by
  have h':List.lookup x ((n,(env.cells.lookup n).getD 0) :: clB env r) = some c:=h
  rw [List.lookup_cons] at h'
  cases e:x == n with
  | true=>
   rw [e] at h'
   have e':x = n:=by simpa using e
   subst e'
   exact ⟨List.mem_cons_self,(Option.some.inj h').symm⟩
  | false=>
   rw [e] at h'
   obtain ⟨h1,h2⟩:=clB_look h'
   exact ⟨List.mem_cons_of_mem _ h1,h2⟩
theorem clB_in {env:Env}:∀ {fr:List Str} {x:Str},x ∈ fr->(clB env fr).lookup x = some ((env.cells.lookup x).getD 0)
 | n :: r,x,h=>by
  show List.lookup x ((n,(env.cells.lookup n).getD 0) :: clB env r) = _
  rw [List.lookup_cons]
  cases e:x == n with
  | true=>
   have e':x = n:=by simpa using e
   subst e'
   rfl
  | false=>
   rcases List.mem_cons.mp h with z | z
   ·subst z; simp at e
   ·exact clB_in z
theorem relabel_mem {env:Env}:∀ {names:List (Str × NameKind)} {x:Str} {k:NameKind},
  (names.map fun (n,k)=>if (k == NameKind.free && env.scope.kind == .function && env.kindOf n == some .cell) then (n,NameKind.cell) else (n,k)).lookup x = some k->
  ∃ k0,(x,k0) ∈ names/\(k = k0\/(k0 = .free/\k = .cell))
 | [],_,_,h=>by simp at h
 | (n,k0) :: r,x,k,h=>by
  have h':List.lookup x ((if (k0 == NameKind.free && env.scope.kind == .function && env.kindOf n == some .cell) = true then (n,NameKind.cell) else (n,k0)) ::
   (r.map fun (n,k)=>if (k == NameKind.free && env.scope.kind == .function && env.kindOf n == some .cell) then (n,NameKind.cell) else (n,k))) = some k:=h
  by_cases hc:(k0 == NameKind.free && env.scope.kind == .function && env.kindOf n == some .cell) = true
  ·rw [if_pos hc,List.lookup_cons] at h'
   cases e:x == n with
   | true=>
    rw [e] at h'
    have e':x = n:=by simpa using e
    subst e'
    simp only [Bool.and_eq_true] at hc
    exact ⟨k0,List.mem_cons_self,.inr ⟨by simpa using hc.1.1,(Option.some.inj h').symm⟩⟩
   | false=>
    rw [e] at h'
    obtain ⟨k1,h1,h2⟩:=relabel_mem h'
    exact ⟨k1,List.mem_cons_of_mem _ h1,h2⟩
  ·rw [if_neg hc,List.lookup_cons] at h'
   cases e:x == n with
   | true=>
    rw [e] at h'
    have e':x = n:=by simpa using e
    subst e'
    exact ⟨k0,List.mem_cons_self,.inl (Option.some.inj h').symm⟩
   | false=>
    rw [e] at h'
    obtain ⟨k1,h1,h2⟩:=relabel_mem h'
    exact ⟨k1,List.mem_cons_of_mem _ h1,h2⟩
theorem relabel_free {env:Env} (hk:env.scope.kind = .function):∀ {names:List (Str × NameKind)} {x:Str},names.lookup x = some .free->env.kindOf x = some .cell->
  (names.map fun (n,k)=>if (k == NameKind.free && env.scope.kind == .function && env.kindOf n == some .cell) then (n,NameKind.cell) else (n,k)).lookup x = some .cell
 | [],_,h,_=>by simp at h
 | (n,k0) :: r,x,h,hx=>by
  show List.lookup x ((if (k0 == NameKind.free && env.scope.kind == .function && env.kindOf n == some .cell) = true then (n,NameKind.cell) else (n,k0)) ::
   (r.map fun (n,k)=>if (k == NameKind.free && env.scope.kind == .function && env.kindOf n == some .cell) then (n,NameKind.cell) else (n,k))) = some .cell
  rw [List.lookup_cons] at h
  cases e:x == n with
  | true=>
   rw [e] at h
   have e':x = n:=by simpa using e
   subst e'
   have h0:k0 = .free:=Option.some.inj h
   subst h0
   rw [if_pos (by rw [hk,hx]; decide),List.lookup_cons]
   simp
  | false=>
   rw [e] at h
   have ih:=relabel_free hk h hx
   split
   ·rw [List.lookup_cons,e]; exact ih
   ·rw [List.lookup_cons,e]; exact ih
abbrev compCx (X:Cx) (pins:List (Addr × Obj)) (sc:Scope) (fr Nc:List Str) (fp:List Addr) (s:Shared) (H:Hp) (C:Addr):Cx:=
 { prog:=X.prog,w:=X.w,K:=X.K,mg:=X.mg,base:=X.base,A:=X.A,N:=Nc,s₀:=s,H₀:=H,env:=compEnvC sc (clB X.env fr) C X.env,outer:=X.stack,stack:=X.stack,ex:=fp,fn:=fun _=>false,calm:=X.calm,pn:=X.pn ++ pins,xe:=fun _ _=>False }
structure BlockOk (env:Env) (sc:Scope) (fr:List Str):Prop where
 kind:sc.kind = .function
 clos:closureFor sc env = pure (clB env fr)
 cells:(fr.all fun n=>(env.cells.lookup n).isSome) = true
 names:(sc.names.all fun y=>(y.2 != .cell) && (y.2 != .free || fr.contains y.1) && (y.2 != .local || sc.names.lookup y.1 == some .local)) = true
def capChk (N Nc:List Str) (caps:List (Option Nat)) (env:Env) (sc:Scope) (fr:List Str):Bool:=
 (Nc.zip caps).all fun p=>match p.2 with
  | none=>true
  | some j=>(N[j]? == some p.1) && (env.kindOf p.1 == some .cell) && (sc.names.lookup p.1 == some .free) && fr.contains p.1
def capS (caps:List (Option Nat)) (σ : St):St:=caps.map fun o=>match o with
 | none=>none
 | some j=>(σ[j]?).join
section
variable {X:Cx} {pins:List (Addr × Obj)} {σ : St} {H:Hp} {s:Shared} {sc:Scope} {fr Nc:List Str} {fp:List Addr} {C:Addr}
theorem BlockOk.sub {env:Env} (B:BlockOk env sc fr) {x:Str} {c:Addr} (h:(clB env fr).lookup x = some c):env.cells.lookup x = some c:=by
 obtain ⟨h1,h2⟩:=clB_look h
 have h3:=List.all_eq_true.mp B.cells x h1
 obtain ⟨d,hd⟩:=Option.isSome_iff_exists.mp h3
 rw [hd] at h2 |-
 rw [h2]; rfl
theorem BlockOk.free {env:Env} (B:BlockOk env sc fr) {x:Str} {k:NameKind} (h:(relabel sc env).names.lookup x = some k) (hk:k = .cell\/k = .free):x ∈ fr:=by
 obtain ⟨k0,h1,h2⟩:=relabel_mem h
 have h3:=List.all_eq_true.mp B.names _ h1
 simp only [Bool.and_eq_true,Bool.or_eq_true,bne_iff_ne,ne_eq,List.contains_iff_mem] at h3
 have h4:k0 = .free:=by
  rcases h2 with h2 | ⟨h2,_⟩
  ·subst h2
   rcases hk with z | z
   ·exact absurd z h3.1.1
   ·exact z
  ·exact h2
 rcases h3.1.2 with z | z
 ·exact absurd h4 z
 ·exact z
theorem comp_ok (I:Inv X pins σ H s) (B:BlockOk X.env sc fr) (hf:∀ b ∈ fp,FpOk X pins H b) (ho:∀ b ∈ fp,∃ o,s.heap.get? b = some o) (hC:s.heap.objs.size<=C):(compCx X pins sc fr Nc fp s H C).Ok where
 mod:=I.ok.mod
 kind:=B.kind
 glob:=I.ok.glob
 blt:=I.ok.blt
 above:=hC
 inj:=fun x y c h1 h2=>I.ok.inj x y c (B.sub h1) (B.sub h2)
 has:=fun x h=>by
  have hx:x ∈ fr:=by
   rcases h with h | h
   ·exact B.free h (.inl rfl)
   ·exact B.free h (.inr rfl)
  exact ⟨_,clB_in hx⟩
 cab:=fun x c h=>absurd h (by simp)
 hd:=I.ok.hd
 frames:=I.ok.frames
 stk:=.inl rfl
 exf:=fun b hb=>by
  obtain ⟨o,e⟩:=ho b hb
  refine ⟨fun z=>?_,fun x c h=>(hf b hb).2.2.2.2.1 x c (B.sub h)⟩
  have z':b = C:=z
  have:=Heap.lt_size e
  rw [z'] at this
  exact absurd (Nat.lt_of_lt_of_le this hC) (Nat.lt_irrefl _)
 bs:=I.bs
 bsz:=Nat.le_trans I.ok.bsz I.sz
 noex:=fun b o e hb=>by
  rcases (hf b hb).2.2.2.1 with z | z
  ·exact I.ok.noex b o e z
  ·exact absurd (Nat.lt_of_lt_of_le (Heap.lt_size (I.ok.bs b o e).1) z) (Nat.lt_irrefl _)
 exfs:=fun b hb h=>by
  rcases List.mem_cons.mp (I.stkSub b h) with z | z
  ·exact (hf b hb).2.1 z
  ·exact (hf b hb).2.2.1 z
 funs:=I.stack
 frf:=I.stkFree
theorem Inv.pin_lt (I:Inv X pins σ H s) {p:Addr × Obj} (hp:p ∈ X.pn ++ pins):p.1 < s.heap.objs.size:=Heap.lt_size (I.pin p hp).1
theorem comp_start {caps:List (Option Nat)} {h':Heap} {D:Addr} {m:Str->Option Value} {t' n0:Nat} (I:Inv X pins σ H s) (B:BlockOk X.env sc fr) (hf:∀ b ∈ fp,FpOk X pins H b) (ho:∀ b ∈ fp,∃ o,s.heap.get? b = some o)
  (hC:s.heap.objs.size<=C) (hD:s.heap.objs.size<=D) (hDC:D ≠ C) (keep:∀ b o,s.heap.get? b = some o->h'.get? b = some o) (hl:h'.get? D = some { cls:=.type "list",data:=.seq ([]:List Value).toArray n0 }) (hn:h'.Ns C m)
  (hcap:capChk X.N Nc caps X.env sc fr = true) (hlen:caps.length = Nc.length) :
  Inv (compCx X pins sc fr Nc fp s H C) [] (capS caps σ) (upd H D (.lst [])) { s with heap:=h',toks:=t' }:=by
 have hk:X.env.scope.kind = .function:=I.ok.kind
 have fresh:∀ a,s.heap.objs.size<=a->H a = none:=fun a ha=>I.hok.fresh ha
 refine ⟨comp_ok I B hf ho hC,rfl,I.bare,Un.laid keep hD (fresh D hD),⟨m,hn,fun i x v e1 e2 e3=>?_⟩,fun x c h=>?_,?_,fun x c h=>?_,fun p hp=>?_,?_,?_⟩
 ·
  have e2':(caps[i]?).map (fun o=>match o with | none=>none | some j=>(σ[j]?).join) = some (some v):=by
   have:(capS caps σ)[i]? = some (some v):=e2
   unfold capS at this
   rw [List.getElem?_map] at this
   exact this
  cases hc:caps[i]? with
  | none=>rw [hc] at e2'; cases e2'
  | some o=>
   rw [hc] at e2'
   cases o with
   | none=>simp at e2'
   | some j=>
    have e4:(σ[j]?).join = some v:=by simpa using e2'
    have e5 : σ[j]? = some (some v):=by
     cases q : σ[j]? with
     | none=>rw [q] at e4; cases e4
     | some w'=>rw [q] at e4; simp at e4; rw [e4]
    have e6:(Nc.zip caps)[i]? = some (x,some j):=by
     rw [List.getElem?_zip_eq_some]
     exact ⟨e1,hc⟩
    have e7:=List.all_eq_true.mp hcap _ (List.mem_of_getElem? e6)
    simp only [Bool.and_eq_true,beq_iff_eq,List.contains_iff_mem] at e7
    obtain ⟨⟨⟨a1,a2⟩,a3⟩,a4⟩:=e7
    obtain ⟨m0,hn0,hl0⟩:=I.loc
    obtain ⟨u,r,l⟩:=hl0 j x v a1 e5 (.inr (.inl a2))
    refine ⟨u,r,.inr ⟨.inl (relabel_free hk a3 a2),_,clB_in a4,?_⟩⟩
    rcases l with ⟨z,_⟩ | ⟨_,c,ec,hcell⟩
    ·rw [a2] at z; cases z
    ·have:(X.env.cells.lookup x).getD 0 = c:=by rw [ec]; rfl
     rw [this]
     exact hcell.keeps keep
 ·obtain ⟨v,hv⟩:=I.cell x c (B.sub h)
  exact ⟨v,hv.keeps keep⟩
 ·show upd H D (.lst []) C = none
  rw [upd_ne (Ne.symm hDC)]; exact fresh C hC
 ·obtain ⟨v,hv⟩:=I.cell x c (B.sub h)
  have:c ≠ D:=fun z=>by have:=hv.lt; rw [z] at this; exact absurd (Nat.lt_of_lt_of_le this hD) (Nat.lt_irrefl _)
  rw [upd_ne this]; exact I.freeC x c (B.sub h)
 ·have hp':p ∈ X.pn ++ pins:=by simpa using hp
  obtain ⟨e,n,ne,nf,d⟩:=I.pin p hp'
  have hlt:=I.pin_lt hp'
  refine ⟨keep _ _ e,?_,?_,fun z=>?_,d⟩
  ·rw [upd_ne (fun z=>by rw [z] at hlt; exact absurd (Nat.lt_of_lt_of_le hlt hD) (Nat.lt_irrefl _))]; exact n
  ·intro z
   have z':p.1 = C:=z
   rw [z'] at hlt; exact absurd (Nat.lt_of_lt_of_le hlt hC) (Nat.lt_irrefl _)
  ·rcases List.mem_cons.mp (I.stkSub p.1 z) with q | q
   ·exact ne q
   ·exact nf q
 ·exact I.hok.laid keep hD ⟨Nat.zero_le _,[],n0,.nil,hl⟩
 ·show (capS caps σ).length = Nc.length
  unfold capS
  rw [List.length_map,hlen]
theorem comp_back {pl:List (Addr × Obj)} {σ':St} {H':Hp} {s':Shared} (I:Inv X pins σ H s) (hf:∀ b ∈ fp,FpOk X pins H b) (J:Inv (compCx X pins sc fr Nc fp s H C) pl σ' H' s'):Inv X pins σ H' s':=
 I.call' J.os J.base J.hok J.bare fun b hb=>⟨(hf b hb).2.2.2.1,(hf b hb).2.1,(hf b hb).2.2.2.2.1,(hf b hb).2.2.2.2.2⟩
theorem comp_gone {pl:List (Addr × Obj)} {σ' σ2:St} {H':Hp} {s':Shared} {h2:Heap} {t2:Nat} (I:Inv X pins σ H s) (J:Inv (compCx X pins sc fr Nc fp s H C) pl σ' H' s') (J2:Inv X pins σ2 H' s') (hs:Heap.SameBut C s'.heap h2):Inv X pins σ2 H' { s' with heap:=h2,toks:=t2 }:=by
 have hC:s.heap.objs.size<=C:=J.ok.above
 refine J2.turned (it:=C) (fun b o hb e=>(hs.2 b hb).trans e) J.free ?_ (.inr (Nat.le_trans I.sz hC)) (fun x c h z=>?_) fun p hp z=>?_
 ·intro z
  have:=I.lt
  rw [<- z] at this
  exact absurd (Nat.lt_of_lt_of_le this hC) (Nat.lt_irrefl _)
 ·obtain ⟨v,hv⟩:=I.cell x c h
  have:=hv.lt
  rw [z] at this
  exact absurd (Nat.lt_of_lt_of_le this hC) (Nat.lt_irrefl _)
 ·have:=I.pin_lt hp
  rw [z] at this
  exact absurd (Nat.lt_of_lt_of_le this hC) (Nat.lt_irrefl _)
end
def tTrue:TT:=fun _ H Q=>Q true H
structure PIf (X:Cx) (ifs:List Expr) (t:TT):Prop where
 run:∀ (pins:List (Addr × Obj)) (s:Shared) (σ : St) (H:Hp) (Q:Bool->Hp->Prop),Inv X pins σ H s->t σ H Q->
  wpAny (model X.prog X.w) X.A (forIn ifs true fun c r=>if r = true then do let ok <- isTrue c X.env (eval c X.env); pure (ForInStep.yield ok) else pure (ForInStep.yield r)) (TP X pins σ Q) X.xe s
instance {X:Cx} {ifs:List Expr} {t:TT}:CoeFun (PIf X ifs t) (fun _=>∀ (pins:List (Addr × Obj)) (s:Shared) (σ : St) (H:Hp) (Q:Bool->Hp->Prop),Inv X pins σ H s->t σ H Q->
  wpAny (model X.prog X.w) X.A (forIn ifs true fun c r=>if r = true then do let ok <- isTrue c X.env (eval c X.env); pure (ForInStep.yield ok) else pure (ForInStep.yield r)) (TP X pins σ Q) X.xe s):=⟨PIf.run⟩
theorem pif_nil {X:Cx}:PIf X [] tTrue:=⟨fun _ _ _ H _ I h=>wpAny_tests_nil ⟨H,I,h⟩⟩
theorem pif_one {X:Cx} {c:Expr} {t:TT} (hc:PT X c t):PIf X [c] t:=⟨fun pins s σ H Q I h=>wpAny_tests_one (hc pins s σ H Q I h)⟩
def GOwn (g:TG) (ow:List Nat):Prop:=
 ∀ (v:V) (σ : St) (H:Hp) (Q:St->Hp->Prop),g v σ H Q->g v σ H fun σ2 H2=>Q σ2 H2/\σ2.length = σ.length/\∀ i,i ∉ ow->σ2[i]? = σ[i]?
theorem gown_name (i:Nat):GOwn (gName i) [i]:=fun v σ H Q h=>⟨h,List.length_set ..,fun j hj=>List.getElem?_set_ne (fun e=>hj (by simp [e]))⟩
theorem gown_tup2 {K:PySem.W.Frag} {n:Nat} (i j:Nat):GOwn (gTup K n (gCons (gName i) (gCons (gName j) gNil))) [i,j]:=by
 rintro v σ H Q ⟨a,xs,e1,e2,e3,v1,r1,e4,v2,r2,e5,e6,q⟩
 refine ⟨a,xs,e1,e2,e3,v1,r1,e4,v2,r2,e5,e6,q,by rw [List.length_set,List.length_set],fun k hk=>?_⟩
 have h1:i ≠ k:=fun e=>hk (by simp [e])
 have h2:j ≠ k:=fun e=>hk (by simp [e])
 rw [List.getElem?_set_ne h2,List.getElem?_set_ne h1]
section
variable {prog:Program} {w:World} {A:Around} {R:Result->Shared->Prop} {s:Shared}
theorem compLoop_any {elt target iter:Expr} {ifs:List Expr} {scope:Scope} {pos:Pos} {it acc:Value} {env:Env} (I:Nat->Shared->Prop)
  (turn:∀ n s,I n s->wpAny (model prog w) A (pyNext it) (fun r s₁=>match r with
   | none=>R (.ok .next) s₁
   | some v=>wpAny (model prog w) A (letOwnedTupleGo target it v) (fun _ s₀=>wpAny (model prog w) A (assign target env v) (fun _ s₂=>
     wpAny (model prog w) A (forIn ifs true fun c r=>if r = true then do let ok <- isTrue c env (eval c env); pure (ForInStep.yield ok) else pure (ForInStep.yield r)) (fun ok s₃=>
      if ok = true then wpAny (model prog w) A (eval elt env) (fun x s₄=>
       wpAny (model prog w) A (call (.builtin "list.append") [acc,x]) (fun _ s₅=>∃ m,m < n/\I m s₅) (fun _ _=>False) s₄) (fun _ _=>False) s₃
      else ∃ m,m < n/\I m s₃) (fun _ _=>False) s₂) (fun _ _=>False) s₀) (fun _ _=>False) s₁) (fun _ _=>False) s)
  (n:Nat) (h:I n s) :
  codeAny (model prog w) A (.compLoop (.ListComp elt [⟨target,iter,ifs,0⟩] scope pos) 0 it acc env) R s:=by
 refine codeAny_loop rfl I (fun n s hI=>?_) n h
 show wpAny _ A ((compTurn (.ListComp elt [⟨target,iter,ifs,0⟩] scope pos) 0 it acc env).onRaise (fun x=>do noteFrame x env; theTreesLotGoes x)) _ _ s
 refine wpAny_noted ?_
 rw [compTurn_list]
 refine wpAny_bind (wpAny_standAt (wpAny_bind (wpAny_mono (turn n s hI) (fun r s₁ h₁=>?_) fun _ _ z=>z.elim)))
 cases r with
 | none=>exact wpAny_pure h₁
 | some v=>
  refine wpAny_bind (wpAny_mono h₁ (fun _ s₀ h₀=>?_) fun _ _ z=>z.elim)
  refine wpAny_bind (wpAny_mono h₀ (fun _ s₂ h₂=>wpAny_bind (wpAny_mono h₂ (fun ok s₃ h₃=>?_) fun _ _ z=>z.elim)) fun _ _ z=>z.elim)
  cases ok with
  | false=>exact wpAny_pure ⟨rfl,h₃⟩
  | true=>
   exact wpAny_bind (wpAny_bind (wpAny_mono h₃ (fun x s₄ h₄=>wpAny_bind (wpAny_mono h₄ (fun _ s₅ h₅=>wpAny_pure (wpAny_pure ⟨rfl,h₅⟩)) fun _ _ z=>z.elim)) fun _ _ z=>z.elim))
end
def LCr (J:It) (caps:List (Option Nat)) (g:TG) (tt:TT) (te:TE) (σ : St) (H1:Hp) (Q:VK) (D:Addr):Prop:=
 ∃ W:Nat->Nat->List V->Hp->Prop,(∃ m,W 0 m [] (upd H1 D (.lst [])))/\∀ i m ys H,W i m ys H->
  (J.stop i H/\Q (.ref D) H)\/
  (J.go i H/\∀ x H',J.yld i H x H'->g x (capS caps σ) H' fun σ2 H2=>tt σ2 H2 fun ok H3=>
   (ok = true->te σ2 H3 fun v H4=>H4 D = some (.lst ys)/\ys.length < sizeLine/\∃ m',m' < m/\W (i + 1) m' (ys ++ [v]) (upd H4 D (.lst (ys ++ [v]))))/\
   (ok = false->∃ m',m' < m/\W (i + 1) m' ys H3))
def tLC (wi:TI) (caps:List (Option Nat)) (g:TG) (tt:TT) (te:TE):TE:=fun σ H Q=>wi σ H fun J H1=>∀ D,H1 D = none->LCr J caps g tt te σ H1 Q D
section
variable {X:Cx} {pins:List (Addr × Obj)} {σ : St} {s:Shared} {sc:Scope} {fr Nc:List Str} {caps:List (Option Nat)} {elt tg iter:Expr} {ifs:List Expr} {g:TG} {tt:TT} {te:TE} {ow:List Nat} {pos pos2:Pos} {E:Value->Shared->Prop}
theorem comp_run {H2:Hp} {it:Addr} {fp:List Addr} {tn:Nat->Heap->Prop} {J:It} {Q:VK} {RR:Value->Addr->Result->Shared->Prop}
  (hc:X.calm = true) (B:BlockOk X.env sc fr) (go:GOwn g ow) (how:(ow.all fun i=>caps[i]? == some none) = true) (hcap:capChk X.N Nc caps X.env sc fr = true) (hlen:caps.length = Nc.length)
  (hb:∀ (pins:List (Addr × Obj)) (fp:List Addr) (s:Shared) (H:Hp) (C:Addr),PG (compCx X pins sc fr Nc fp s H C) tg g/\PIf (compCx X pins sc fr Nc fp s H C) ifs tt/\PE (compCx X pins sc fr Nc fp s H C) elt te)
  (I2:Inv X pins σ H2 s) (T:Turn X.prog X.w X.K tg J fp it tn) (st2:tn 0 s.heap) (f2:∀ b ∈ fp,FpOk X pins H2 b) (h:∀ D,H2 D = none->LCr J caps g tt te σ H2 Q D)
  (fin:∀ (D C:Addr) (σ':St) (H':Hp) (s':Shared),Inv (compCx X pins sc fr Nc fp s H2 C) [] σ' H' s'->Q (.ref D) H'->RR (.ref D) C (.ok .next) s') :
  wpAny (model X.prog X.w) X.A (newList []) (fun acc s₃=>wpAny (model X.prog X.w) X.A (newFunctionEnv sc X.env.globals (clB X.env fr) [] X.env.qual none .none (some X.env)) (fun cenv s₄=>
   codeAny (model X.prog X.w) X.A (.compStart (.ListComp elt [⟨tg,iter,ifs,0⟩] sc pos) 0 (.ref it) acc { cenv with scope:=relabel sc X.env }) (RR acc cenv.locals) s₄) E s₃) E s:=by
 have hcell:∀ y ∈ sc.names,y.2 ≠ .cell:=fun y hy=>by
  have h3:=List.all_eq_true.mp B.names _ hy
  simp only [Bool.and_eq_true,bne_iff_ne,ne_eq] at h3
  exact h3.1.1
 refine wpAny_newObj_type (wpAny_newFunctionEnv hcell (by intro y hy; simp at hy) (fun h₁ hns₁ hsb₁=>?_) B.kind)
 dsimp only at hns₁ hsb₁ |-
 generalize hH2:s.heap.push { cls:=.type "list",dict:=none,data:=.seq ([]:List Value).toArray } = H3 at hns₁ hsb₁ |-
 have hCs:H3.objs.size = s.heap.objs.size + 1:=by rw [<- hH2,Heap.size_push]
 have hDC:s.heap.objs.size ≠ H3.objs.size:=by rw [hCs]; exact Nat.ne_of_lt (Nat.lt_succ_self _)
 have hC:s.heap.objs.size<=H3.objs.size:=by rw [hCs]; exact Nat.le_succ _
 have old:∀ b o,s.heap.get? b = some o->h₁.get? b = some o:=fun b o e=>
  hsb₁.extBut b o (Nat.ne_of_lt (Nat.lt_of_lt_of_le (Heap.lt_size e) hC)) (Heap.get?_push_of_some _ (hH2 ▸ Heap.get?_push_of_some _ e))
 have hD:h₁.get? s.heap.objs.size = some { cls:=.type "list",data:=.seq ([]:List Value).toArray }:=hsb₁.extBut _ _ hDC (Heap.get?_push_of_some _ (hH2 ▸ Heap.get?_push_size _ rfl))
 have ho:∀ b ∈ fp,∃ o,s.heap.get? b = some o:=fun b hb'=>let ⟨o,e,_⟩:=T.obj 0 _ st2 b hb'; ⟨o,e⟩
 have I4:∀ t',Inv (compCx X pins sc fr Nc fp s H2 H3.objs.size) [] (capS caps σ) (upd H2 s.heap.objs.size (.lst [])) { s with heap:=h₁,toks:=t' }:=fun t'=>
  comp_start I2 B f2 ho hC (Nat.le_refl _) hDC old hD hns₁ hcap hlen
 have ok:=(I4 0).ok
 obtain ⟨hbg,hbt,hbe⟩:=hb pins fp s H2 H3.objs.size
 obtain ⟨W,⟨m0,w0⟩,turn⟩:=h s.heap.objs.size (I2.hok.fresh (Nat.le_refl _))
 have stat:∀ {H':Hp},(∀ b ∈ fp,H' b = none)->∀ b ∈ fp,FpOk (compCx X pins sc fr Nc fp s H2 H3.objs.size) [] H' b:=fun hn b hb'=>
  ⟨hn b hb',(ok.exf b hb').1,ok.exfs b hb',.inl hb',(ok.exf b hb').2,fun p hp=>(f2 b hb').2.2.2.2.2 p (by simpa using hp)⟩
 have hfp0:∀ b ∈ fp,upd H2 s.heap.objs.size (.lst []) b = none:=fun b hb'=>by
  obtain ⟨o,e⟩:=ho b hb'
  rw [upd_ne (Nat.ne_of_lt (Heap.lt_size e))]
  exact (f2 b hb').1
 have loop:∀ s₃:Shared,s₃ = { s with heap:=h₁,toks:=s.toks + ([]:List (Str × Value)).length }->
   codeAny (model X.prog X.w) X.A (.compLoop (.ListComp elt [⟨tg,iter,ifs,0⟩] sc pos) 0 (.ref it) (.ref s.heap.objs.size) (compEnvC sc (clB X.env fr) H3.objs.size X.env)) (RR (.ref s.heap.objs.size) H3.objs.size) s₃:=by
  rintro s₃ rfl
  refine compLoop_any (fun n s'=>∃ i σ' H' ys,Inv (compCx X pins sc fr Nc fp s H2 H3.objs.size) [] σ' H' s'/\tn i s'.heap/\(∀ b ∈ fp,H' b = none)/\W i n ys H'/\
   (∀ (k:Nat) (v:V),(capS caps σ)[k]? = some (some v)->σ'[k]? = some (some v))) ?_ m0
   ⟨0,_,_,[],I4 _,T.keep _ _ _ st2 (fun b _ o e=>old b o e),hfp0,w0,fun _ _ e=>e⟩
  rintro n s3 ⟨i,σ3,H4,ys,I3,st3,fr3,w3,wk3⟩
  have I3':Inv (compCx X pins sc fr Nc fp s H2 H3.objs.size) [] (capS caps σ) H4 s3:=I3.weak (by rw [I3.len]; exact (I4 0).len) wk3
  rcases turn i n ys H4 w3 with ⟨stop,qn⟩ | ⟨gg,step⟩
  ·refine thn (T.done (compCx X pins sc fr Nc fp s H2 H3.objs.size) rfl rfl rfl hc i [] s3 _ H4 (fun _ _=>False) I3' (stat fr3) st3 stop) fun r s4 ⟨hr,I4'⟩=>?_
   subst hr
   exact fin _ _ _ _ _ I4' qn
  ·refine thn (T.item (compCx X pins sc fr Nc fp s H2 H3.objs.size) rfl rfl rfl hc i [] s3 _ H4 (fun _ _=>False) I3' (stat fr3) st3 gg) fun r s4 ⟨u,hr,h4⟩=>?_
   subst hr
   refine thn h4 fun _ s5 ⟨x,H5,I5,r5,y5,st5,fr5⟩=>?_
   have I5':=I5.pinned (stat fr5) (T.obj _ _ st5)
   refine thn (hbg _ s5 _ H5 x u _ I5' r5 (go _ _ _ _ (step x H5 y5))) fun _ s6 ⟨σ6,H6,I6,q6,l6,k6⟩=>?_
   have wk6:∀ (k:Nat) (v:V),(capS caps σ)[k]? = some (some v)->σ6[k]? = some (some v):=fun k v e=>by
    rw [k6 k fun hk=>?_]
    ·exact e
    ·have h1:=List.all_eq_true.mp how k hk
     have h2:caps[k]? = some none:=by simpa using h1
     unfold capS at e
     rw [List.getElem?_map,h2] at e
     cases e
   refine thn (hbt _ s6 σ6 H6 _ I6 q6) fun ok s7 ⟨H7,I7,q7⟩=>?_
   have again:∀ {H8:Hp} {s8:Shared} {ys':List V},Inv (compCx X pins sc fr Nc fp s H2 H3.objs.size) ([] ++ pinsAt fp s5.heap) σ6 H8 s8->(∃ m',m' < n/\W (i + 1) m' ys' H8)->
     ∃ m,m < n/\∃ i σ' H' ys,Inv (compCx X pins sc fr Nc fp s H2 H3.objs.size) [] σ' H' s8/\tn i s8.heap/\(∀ b ∈ fp,H' b = none)/\W i m ys H'/\(∀ (k:Nat) (v:V),(capS caps σ)[k]? = some (some v)->σ'[k]? = some (some v)):=fun {H8 s8 ys'} I8 ⟨m',hm,w8⟩=>by
    refine ⟨m',hm,i + 1,σ6,H8,ys',I8.unpinned,T.keep _ _ _ st5 fun b hb' o e=>(I8.pin (b,o) (List.mem_append_right _ (List.mem_append_right _ (mem_pinsAt hb' e)))).1,fun b hb'=>?_,w8,wk6⟩
    obtain ⟨o,e,d⟩:=T.obj _ _ st5 b hb'
    exact (I8.pin (b,o) (List.mem_append_right _ (List.mem_append_right _ (mem_pinsAt hb' e)))).2.1
   cases ok with
   | false=>
    rw [if_neg Bool.false_ne_true]
    exact again I7 (q7.2 rfl)
   | true=>
    rw [if_pos rfl]
    refine thn (hbe _ s7 σ6 H7 _ I7 (q7.1 rfl)) fun uv s8 ⟨v,H8,I8,r8,hD8,hz,q8⟩=>?_
    refine thn (mt_append (X:=compCx X pins sc fr Nc fp s H2 H3.objs.size) _ s8 σ6 H8 (.ref s.heap.objs.size) [v] _ [uv] (fun _ H'=>H' = upd H8 s.heap.objs.size (.lst (ys ++ [v]))) I8 rfl (.cons r8 .nil) ⟨_,ys,v,rfl,rfl,hD8,hz,rfl⟩) fun _ s9 ⟨_,H9,I9,_,e9⟩=>?_
    subst e9
    exact again I9 q8
 exact codeAny_compStart_list (loop _ rfl) (T.self _ 0 _ _ _ (T.keep _ _ _ st2 (fun b _ o e=>old b o e)) (loop _ rfl))
theorem BlockOk.loc {env:Env} (B:BlockOk env sc fr):∀ x ∈ sc.names,x.2 = .local->sc.names.lookup x.1 = some .local:=fun y hy e=>by
 have h3:=List.all_eq_true.mp B.names _ hy
 simp only [Bool.and_eq_true,Bool.or_eq_true,bne_iff_ne,ne_eq,beq_iff_eq] at h3
 rcases h3.2 with z | z
 ·exact absurd e z
 ·exact z
theorem pe_lc {wi:TI} (fr Nc:List Str) (caps:List (Option Nat)) (hc:X.calm = true) (B:BlockOk X.env sc fr) (hi:PI X tg iter wi) (go:GOwn g ow) (how:(ow.all fun i=>caps[i]? == some none) = true)
  (hcap:capChk X.N Nc caps X.env sc fr = true) (hlen:caps.length = Nc.length)
  (hb:∀ (pins:List (Addr × Obj)) (fp:List Addr) (s:Shared) (H:Hp) (C:Addr),PG (compCx X pins sc fr Nc fp s H C) tg g/\PIf (compCx X pins sc fr Nc fp s H C) ifs tt/\PE (compCx X pins sc fr Nc fp s H C) elt te)
  (hs:∀ x,foldedSetIterable iter X.env x = pure x:=by intro _; rfl):PE X (.ListComp elt [⟨tg,iter,ifs,0⟩] sc pos) (tLC wi caps g tt te):=by
 refine ⟨?_⟩
 intro pins s σ H Q I h
 rw [eval_ListComp]
 refine wpAny_comprehension_free (use:=none) rfl hs B.clos B.kind B.loc (thn (hi pins s σ H _ I h) fun v s1 h1=>thn h1 fun itv s2 h2=>?_)
 obtain ⟨it,fp,tn,J,H2,e,I2,T,st2,f2,q⟩:=h2
 subst e
 refine comp_run (RR:=fun acc C=>compPost (model X.prog X.w) X.A X.xe none (EP X pins σ Q) acc C) hc B go how hcap hlen hb I2 T st2 f2 q ?_
 intro D C σ' H' s' J' qq
 obtain ⟨m,hn,_⟩:=J'.loc
 exact ⟨m,hn,fun h' hs'=>⟨.ref D,H',comp_gone I2 J' (comp_back I2 f2 J') hs',rfl,qq⟩⟩
theorem ps_lc {wi:TI} {i:Nat} {x:Str} {pos':Pos} (fr Nc:List Str) (caps:List (Option Nat)) (hN:X.N.Nodup) (hix:X.N[i]? = some x) (hx:Loc X.env.scope x) (hc:X.calm = true) (B:BlockOk X.env sc fr) (hi:PI X tg iter wi) (go:GOwn g ow) (how:(ow.all fun i=>caps[i]? == some none) = true)
  (hcap:capChk X.N Nc caps X.env sc fr = true) (hlen:caps.length = Nc.length)
  (hb:∀ (pins:List (Addr × Obj)) (fp:List Addr) (s:Shared) (H:Hp) (C:Addr),PG (compCx X pins sc fr Nc fp s H C) tg g/\PIf (compCx X pins sc fr Nc fp s H C) ifs tt/\PE (compCx X pins sc fr Nc fp s H C) elt te)
  (hsw:swapsWith (.ListComp elt [⟨tg,iter,ifs,0⟩] sc pos) (some (.Name x pos')) pos2.line X.env = pure true:=by rfl)
  (hs:∀ x,foldedSetIterable iter X.env x = pure x:=by intro _; rfl) (hf:X.fn x = true\/X.env.scope.names.lookup x = some .local:=by first | exact .inl rfl | exact .inr rfl | assumption) :
  PS X (.Assign [.Name x pos'] (.ListComp elt [⟨tg,iter,ifs,0⟩] sc pos) pos2) (tAsg (tLC wi caps g tt te) (gName i)):=by
 refine ⟨?_⟩
 intro pins s σ H D0 I h
 rw [exec_Assign_Name_used _ _ _ _ hsw]
 refine wpAny_bind (wpAny_standAt (wpAny_bind ?_))
 show wpAny _ X.A (do let _ <- comprehension (.ListComp elt [⟨tg,iter,ifs,0⟩] sc pos) sc X.env _ (newList []) false (eval iter X.env) (some (assign (.Name x pos') X.env))) _ _ s
 refine wpAny_bind (wpAny_mono (wpAny_comprehension_free (use:=some (assign (.Name x pos') X.env)) (Q:=fun _ s'=>SP X pins D0 .next s') rfl hs B.clos B.kind B.loc
  (thn (hi pins s σ H _ I h) fun v s1 h1=>thn h1 fun itv s2 h2=>?_)) (fun _ s' hq=>wpAny_pure (wpAny_pure hq)) fun _ _ e=>e)
 obtain ⟨it,fp,tn,J,H2,e,I2,T,st2,f2,q⟩:=h2
 subst e
 refine comp_run (Q:=fun v H1=>gName i v σ H1 D0.nx) (RR:=fun acc C=>compPost (model X.prog X.w) X.A X.xe (some (assign (.Name x pos') X.env)) (fun _ s'=>SP X pins D0 .next s') acc C) hc B go how hcap hlen hb I2 T st2 f2 q ?_
 intro D C σ' H' s' J' qq
 have I':=comp_back I2 f2 J'
 obtain ⟨m,hn,_⟩:=J'.loc
 have hC:s2.heap.objs.size<=C:=J'.ok.above
 show wpAny _ X.A (assign (.Name x pos') X.env (.ref D)) _ _ s'
 refine wpAny_assign_Name (store_ok2 (v:=.ref D) I' hN hix hx rfl (fun s'' I'' ⟨a,sb,ha⟩=>?_) hf)
 have haC:C ≠ a:=by
  rintro rfl
  rcases ha with z | z
  ·have:=I2.lt
   rw [<- z] at this
   exact absurd (Nat.lt_of_lt_of_le this hC) (Nat.lt_irrefl _)
  ·obtain ⟨v,hv⟩:=I2.cell x C z
   exact absurd (Nat.lt_of_lt_of_le hv.lt hC) (Nat.lt_irrefl _)
 have hCH:H' C = none:=J'.free
 refine ⟨m,hn.sameBut sb haC,fun h' hs'=>⟨_,H',?_,qq⟩⟩
 refine I''.turned (it:=C) (t':=s''.toks) (fun b o hb e=>(hs'.2 b hb).trans e) hCH ?_ (.inr (Nat.le_trans I2.sz hC)) (fun x c h z=>?_) fun p hp z=>?_
 ·intro z
  have:=I2.lt
  rw [<- z] at this
  exact absurd (Nat.lt_of_lt_of_le this hC) (Nat.lt_irrefl _)
 ·obtain ⟨v,hv⟩:=I2.cell x c h
  have:=hv.lt
  rw [z] at this
  exact absurd (Nat.lt_of_lt_of_le this hC) (Nat.lt_irrefl _)
 ·have:=I2.pin_lt hp
  rw [z] at this
  exact absurd (Nat.lt_of_lt_of_le this hC) (Nat.lt_irrefl _)
end
def Its (z:Str):It:=⟨fun i _=>i < z.cps.size,fun i H x H'=>H' = H/\∃ c,z.cps[i]? = some c/\x = .str ⟨#[c]⟩,fun i _=>z.cps.size<=i⟩
theorem turn_str {P:Program} {w:World} {K:PySem.W.Frag} {tg:Expr} (it:Addr) (z:Str) (t:Tok):Turn P w K tg (Its z) [it] it (fun i h=>h.IsStrIter it (strIterType z) z t i) where
 mem:=by simp
 obj:=fun i h st b hb=>by
  have e:b = it:=by simpa using hb
  subst e
  obtain ⟨o,e,_,d⟩:=st
  exact ⟨o,e,fun v q=>by rw [d] at q; cases q⟩
 keep:=fun i h h' st k=>by
  obtain ⟨o,e,r⟩:=st
  exact ⟨o,k it (by simp) o e,r⟩
 item:=by
  intro X hP hw hK hc i pins s σ H E I hf st hg
  subst hP hw hK
  obtain ⟨f0,f1,f2,f3,f4,f5⟩:=hf it (by simp)
  have hi:i < z.cps.size:=hg
  have hx:z.cps[i]? = some z.cps[i]:=by simp [hi]
  have fin:∀ h',h'.IsStrIter it (strIterType z) z t (i + 1)->Heap.SameBut it s.heap h'->
    ∃ u,some (Value.str ⟨#[z.cps[i]]⟩ s.toks) = some u/\wpAny (model X.prog X.w) X.A (letOwnedTupleGo tg (.ref it) u) (fun _ s2=>∃ x H',Inv X pins σ H' s2/\RelV x u/\(Its z).yld i H x H'/\s2.heap.IsStrIter it (strIterType z) z t (i + 1)/\∀ b ∈ [it],H' b = none) E { s with heap:=h',toks:=s.toks + 1 }:=fun h' hit hs=>by
   have I1:Inv X pins σ H { s with heap:=h',toks:=s.toks + 1 }:=I.turned (fun b o hb e=>(hs.2 b hb).trans e) f0 f1 f3 f4 f5
   obtain ⟨o,e1,e2,e3⟩:=id hit
   refine ⟨_,rfl,go_of (s:={ s with heap:=h',toks:=s.toks + 1 }) e1 e2 e3 ?_ ⟨.str ⟨#[z.cps[i]]⟩,H,I1,⟨_,rfl⟩,⟨rfl,_,hx,rfl⟩,hit,fun b hb=>(hf b hb).1⟩⟩
   unfold strIterType
   split <;> decide
  cases ha:z.cps.all (· < 128)
  ·have e:strIterType z = "str_iterator":=by simp [strIterType,ha]
   rw [e] at st
   exact wpAny_pyNext_wide_item st hx fun h' a b=>fin h' (e.symm ▸ a) b
  ·have e:strIterType z = "str_ascii_iterator":=by simp [strIterType,ha]
   rw [e] at st
   exact wpAny_pyNext_ascii_item st hx fun h' a b=>fin h' (e.symm ▸ a) b
 done:=by
  intro X hP hw hK hc i pins s σ H E I hf st hg
  subst hP hw hK
  obtain ⟨f0,f1,f2,f3,f4,f5⟩:=hf it (by simp)
  have hi:z.cps.size<=i:=hg
  have hx:z.cps[i]? = none:=by simp [hi]
  have fin:∀ h',Heap.ExtBut it s.heap h'->(none:Option Value) = none/\Inv X pins σ H { s with heap:=h' }:=fun h' eb=>⟨rfl,I.turned (t':=s.toks) (fun b o hb e=>eb b o hb e) f0 f1 f3 f4 f5⟩
  cases ha:z.cps.all (· < 128)
  ·have e:strIterType z = "str_iterator":=by simp [strIterType,ha]
   rw [e] at st
   exact wpAny_pyNext_wide_end (I.ok.hd hc) st hx fin
  ·have e:strIterType z = "str_ascii_iterator":=by simp [strIterType,ha]
   rw [e] at st
   exact wpAny_pyNext_ascii_end (I.ok.hd hc) st hx fin
 self:=fun A i s Q E st h=>by
  cases ha:z.cps.all (· < 128)
  ·have e:strIterType z = "str_iterator":=by simp [strIterType,ha]
   rw [e] at st
   exact wpAny_pyIter_striter_wide st h
  ·have e:strIterType z = "str_ascii_iterator":=by simp [strIterType,ha]
   rw [e] at st
   exact wpAny_pyIter_striter_ascii st h
section
variable {X:Cx} {tg:Expr}
def iStr (tl:TE):TI:=fun σ H R=>tl σ H fun x H1=>∃ z,x = .str z/\R (Its z) H1
theorem pi_str {l:Expr} {tl:TE} (hl:PE X l tl):PI X tg l (iStr tl):=by
 refine ⟨?_⟩
 intro pins s σ H R I h
 refine thn (hl pins s σ H _ I h) fun v s1 ⟨x,H1,I1,r1,q1⟩=>?_
 obtain ⟨z,e,q⟩:=q1
 subst e
 obtain ⟨t,rfl⟩:=r1
 refine wpAny_pyIter_strU ?_
 refine ⟨s1.heap.objs.size,[s1.heap.objs.size],_,_,H1,rfl,I1.kept (t':=s1.toks) fun b o e=>Heap.get?_push_of_some _ e,turn_str _ z t,⟨_,Heap.get?_push_size _ rfl,rfl,rfl⟩,fun b hb=>?_,q⟩
 have e:b = s1.heap.objs.size:=by simpa using hb
 subst e
 exact I1.fpOk (Nat.le_refl _) (I1.hok.fresh (Nat.le_refl _))
theorem call_allB (hc:X.calm = true):CallR X (.builtin "all") (fun xs H Q=>∃ (p:Addr) (bs:List Bool),xs = [.ref p]/\SqL X.K H p (bs.map V.bl)/\Q (.bl (bs.all id)) H):=by
 intro pins s σ H xs us Q I r h
 obtain ⟨p,bs,rfl,hS,q⟩:=h
 obtain ⟨u,rfl,ru⟩:=vals1 r
 cases ru
 obtain ⟨its,rv,hp,hz⟩:=I.list hS
 have hlen:its.length = bs.length:=by rw [<- rv.length,List.length_map]
 have hne:p ≠ s.heap.objs.size:=Nat.ne_of_lt (by obtain ⟨_,e,_⟩:=hp.isList; exact Heap.lt_size e)
 refine call_all_walk (wpAny_pyIter_list hp.isList ?_)
 refine ⟨s.heap.objs.size,_,_,_,_,_,fun i=>bs.getD i false,rfl,Walks.list (A:=X.A.in1) (I.ok.hd hc) s.heap.objs.size p hne its.toArray,⟨⟨_,Heap.get?_push_size _ rfl,rfl,rfl⟩,hp.isList.push _⟩,?_,fun h' tk k=>?_⟩
 ·intro i v s' Q' E' hP hQ
  have hv:its[i]? = some v:=by simpa using hP
  have hi:i < bs.length:=by rw [<- hlen]; exact (List.getElem?_eq_some_iff.mp hv).1
  obtain ⟨u',e1,e2⟩:=rv.get (i:=i) (x:=V.bl bs[i]) (by rw [List.getElem?_map,List.getElem?_eq_getElem hi]; rfl)
  rw [hv] at e1
  cases e1
  cases e2
  refine wpAny_truthy_bool ?_
  have:bs.getD i false = bs[i]:=by rw [List.getD_eq_getElem?_getD,List.getElem?_eq_getElem hi]; rfl
  rw [<- this]
  exact hQ
 ·have e:((List.range its.toArray.size).all fun i=>bs.getD i false) = bs.all id:=by
   rw [List.size_toArray,hlen,Bool.eq_iff_iff,List.all_eq_true,List.all_eq_true]
   constructor
   ·intro hh b hb
    obtain ⟨i,hi,rfl⟩:=List.getElem_of_mem hb
    have:=hh i (List.mem_range.mpr hi)
    rw [List.getD_eq_getElem?_getD,List.getElem?_eq_getElem hi] at this
    exact this
   ·intro hh i hi
    have hi':=List.mem_range.mp hi
    rw [List.getD_eq_getElem?_getD,List.getElem?_eq_getElem hi']
    exact hh _ (List.getElem_mem hi')
  rw [e]
  exact ⟨.bl (bs.all id),H,I.kept (h':=h') (t':=tk) (fun b o q=>k b o (fun hm=>by
   have e:b = s.heap.objs.size:=by simpa using hm
   exact absurd (Heap.lt_size q) (by rw [e]; exact Nat.lt_irrefl _)) (Heap.get?_push_of_some _ q)),rfl,q⟩
theorem call_isinst:CallR X (.builtin "isinstance") (fun xs H Q=>∃ x T t b,xs = [x,.ty T]/\TyOf X.K H x t/\PySem.W.kitOne X.K t (.type T) = some b/\Q (.bl b) H):=by
 intro pins s σ H xs us Q I r h
 obtain ⟨x,T,t,b,rfl,ty,e,q⟩:=h
 obtain ⟨u,w',rfl,ru,rw'⟩:=vals2 r
 cases rw'
 exact isinst_ok I ru ty e fun tk=>⟨.bl b,H,I.tok tk,rfl,q⟩
end
def isSt:Expr->Bool
 | .Starred ..=>true
 | _=>false
theorem star_cons {e:Expr} {es:List Expr} {env:Env} (h:isSt e = false):starEach (e :: es) env = (false,eval e env) :: starEach es env:=by
 cases e <;> first | rfl | cases h
theorem star_any {env:Env} {pos:Pos}:∀ {es:List Expr},es.any isSt = false->(backTo pos (starEach es env)).any (·.1) = false
 | [],_=>rfl
 | e :: es,h=>by
  rw [List.any_cons,Bool.or_eq_false_iff] at h
  rw [star_cons h.1]
  show (false || (backTo pos (starEach es env)).any (·.1)) = false
  rw [star_any h.2]
  rfl
section
variable {X:Cx} {CX:CXT} {k:Nat} {f C:Addr} {fd:FuncData} {ps:List Str} {sp:Sp} {dvs:List V} {ds:List Value} {E:XK} {x m:Str} {p pos apos:Pos} {e o:Expr} {es:List Expr} {te ta:TE} {t:TA} {id T:String} {r:List V->Hp->VK->Prop}
theorem ac (ha:PE X e te) (hr:PA X es t) (h:isSt e = false:=by rfl):PA X (e :: es) (tCons te t):=pa_cons ha hr (star_cons h)
theorem cB (hc:CallR X (.builtin id) r) (hm:X.mg x = none) (hv:bootBuiltins x = some (.builtin id)) (ha:PA X (e :: es) t) (hg:Gl X x:=by rfl) (hn:x ≠ "__name__":=by decide) (hdb:(x == ("__debug__" : Str)) = false:=by decide)
  (h1:isSt e = false:=by rfl) (h2:es.any isSt = false:=by rfl):PE X (.Call (.Name x p) (e :: es) [] pos) (tCB r t):=pe_callB hc hg hm hv ha hn hdb (star_cons h1) (star_any h2)
theorem cTy (hc:CallR X (.type T) r) (hm:X.mg x = none) (hv:bootBuiltins x = some (.type T)) (ha:PA X (e :: es) t) (hg:Gl X x:=by rfl) (hn:x ≠ "__name__":=by decide) (hdb:(x == ("__debug__" : Str)) = false:=by decide)
  (h1:isSt e = false:=by rfl) (h2:es.any isSt = false:=by rfl):PE X (.Call (.Name x p) (e :: es) [] pos) (tCB r t):=pe_callTy hc hg hm hv ha hn hdb (star_cons h1) (star_any h2)
structure Callee (P:Program) (w:World) (K:PySem.W.Frag) (mg:Str->Option Value) (base:Heap) (k:Nat) (x:Str) (f:Addr) (fd:FuncData) (ps:List Str) (sp:Sp):Prop where
 ok:FnOk P w K mg base CX0 k f fd ps sp
 mg:mg x = some (.ref f)
 kp:PySem.W.keepIn K (.ref f) = true
 bd:Binds K fd ps []
theorem cF (c:Callee X.prog X.w X.K X.mg X.base k x f fd ps sp) (hr:Room k X.A) (ha:PA X (e :: es) t) (hg:Gl X x:=by rfl) (hdb:(x == ("__debug__" : Str)) = false:=by decide)
  (h1:isSt e = false:=by rfl) (h2:es.any isSt = false:=by rfl):PE X (.Call (.Name x p) (e :: es) [] pos) (tCall sp [] E0 t):=
 pe_call c.ok hr hg c.mg c.kp c.bd .nil pass0 ha hdb (star_cons h1) (star_any h2)
end
end L2
namespace L2
open PySem PyProof.Rows
theorem kt_NoneType_str (K:PySem.W.Frag):PySem.W.kitOne K (.type "NoneType") (.type "str") = some false:=by kernel_rfl
theorem kt_int_str (K:PySem.W.Frag):PySem.W.kitOne K (.type "int") (.type "str") = some false:=by kernel_rfl
theorem kt_int_int (K:PySem.W.Frag):PySem.W.kitOne K (.type "int") (.type "int") = some true:=by kernel_rfl
theorem kt_bool_str (K:PySem.W.Frag):PySem.W.kitOne K (.type "bool") (.type "str") = some false:=by kernel_rfl
theorem kt_bool_bool (K:PySem.W.Frag):PySem.W.kitOne K (.type "bool") (.type "bool") = some true:=by kernel_rfl
theorem kt_str_str (K:PySem.W.Frag):PySem.W.kitOne K (.type "str") (.type "str") = some true:=by kernel_rfl
theorem kt_list_str (K:PySem.W.Frag):PySem.W.kitOne K (.type "list") (.type "str") = some false:=by kernel_rfl
theorem kt_list_list (K:PySem.W.Frag):PySem.W.kitOne K (.type "list") (.type "list") = some true:=by kernel_rfl
theorem kt_tuple_str (K:PySem.W.Frag):PySem.W.kitOne K (.type "tuple") (.type "str") = some false:=by kernel_rfl
theorem kt_tuple_tuple (K:PySem.W.Frag):PySem.W.kitOne K (.type "tuple") (.type "tuple") = some true:=by kernel_rfl
theorem kt_dict_str (K:PySem.W.Frag):PySem.W.kitOne K (.type "dict") (.type "str") = some false:=by kernel_rfl
end L2
namespace L2
open PySem PySem.Spec PyProof.Rows
inductive Dt where
 | non | bl (b:Bool) | int (i:Int) | str (z:Str) | tup (ds:List Dt) | lst (ds:List Dt)
def FlatD:V->Dt->Prop
 | .non,.non=>True
 | .bl a,.bl b=>a = b
 | .int a,.int b=>a = b
 | .str a,.str b=>a = b
 | _,_=>False
def Says (K:PySem.W.Frag) (ok:Addr->Prop) (H:Hp):Nat->V->Dt->Prop
 | 0,x,d=>FlatD x d
 | n + 1,x,d=>FlatD x d\/(∃ a xs ds,x = .ref a/\d = .tup ds/\SqT K H a xs/\Paired (Says K ok H n) xs ds)\/(∃ a xs ds,x = .ref a/\d = .lst ds/\ok a/\H a = some (.lst xs)/\Paired (Says K ok H n) xs ds)
section
variable {K:PySem.W.Frag} {ok ok':Addr->Prop} {H H':Hp}
theorem Says.flat {n:Nat} {x:V} {d:Dt} (h:FlatD x d):Says K ok H n x d:=by
 cases n with
 | zero=>exact h
 | succ n=>exact .inl h
theorem Says.int {n:Nat} {i:Int}:Says K ok H n (.int i) (.int i):=.flat rfl
theorem Says.str {n:Nat} {z:Str}:Says K ok H n (.str z) (.str z):=.flat rfl
theorem Says.tup {n:Nat} {a:Addr} {xs:List V} {ds:List Dt} (h:SqT K H a xs) (r:Paired (Says K ok H n) xs ds):Says K ok H (n + 1) (.ref a) (.tup ds):=.inr (.inl ⟨a,xs,ds,rfl,rfl,h,r⟩)
theorem Says.lst {n:Nat} {a:Addr} {xs:List V} {ds:List Dt} (o:ok a) (h:H a = some (.lst xs)) (r:Paired (Says K ok H n) xs ds):Says K ok H (n + 1) (.ref a) (.lst ds):=.inr (.inr ⟨a,xs,ds,rfl,rfl,o,h,r⟩)
theorem Says.frame (hT:∀ a xs,SqT K H a xs->SqT K H' a xs) (hL:∀ a xs,ok a->H a = some (.lst xs)->ok' a/\H' a = some (.lst xs)):∀ {n:Nat} {x:V} {d:Dt},Says K ok H n x d->Says K ok' H' n x d
 | 0,_,_,h=>h
 | n + 1,x,d,h=>by
  rcases h with h | ⟨a,xs,ds,e1,e2,h,r⟩ | ⟨a,xs,ds,e1,e2,o,h,r⟩
  ·exact .inl h
  ·exact .inr (.inl ⟨a,xs,ds,e1,e2,hT a xs h,Paired.imp' (fun _ _ z=>Says.frame hT hL z) r⟩)
  ·exact .inr (.inr ⟨a,xs,ds,e1,e2,(hL a xs o h).1,(hL a xs o h).2,Paired.imp' (fun _ _ z=>Says.frame hT hL z) r⟩)
theorem Same.sqT {a:Addr} {xs:List V} (e:Same H H') (h:SqT K H a xs):SqT K H' a xs:=by
 rcases h with (h | ⟨o,h⟩) | h
 ·exact .inl (.inl (e _ _ h))
 ·exact .inl (.inr ⟨o,e _ _ h⟩)
 ·exact .inr h
theorem Says.same {n:Nat} {x:V} {d:Dt} (e:Same H H') (h:Says K ok H n x d):Says K ok H' n x d:=h.frame (fun _ _ z=>e.sqT z) fun _ _ o z=>⟨o,e _ _ z⟩
theorem Paired.get {α β : Type} {F : α->β->Prop}:∀ {l₁:List α} {l₂:List β} {i:Nat} {a : α},Paired F l₁ l₂->l₁[i]? = some a->∃ b,l₂[i]? = some b/\F a b
 | _,_,_,_,.nil,e=>by simp at e
 | _,_,0,_,.cons r _,e=>by simp at e; subst e; exact ⟨_,rfl,r⟩
 | _,_,i + 1,a,.cons _ t,e=>by
  obtain ⟨b,h1,h2⟩:=Paired.get (i:=i) (a:=a) t (by simpa using e)
  exact ⟨b,by simpa using h1,h2⟩
end
section
variable {X:Cx} {pins:List (Addr × Obj)} {σ : St} {H:Hp} {s:Shared} {ok ok':Addr->Prop}
theorem flat_same {A:Around} {x y:V} {d:Dt} {u v:Value} (hx:FlatD x d) (hy:FlatD y d) (ru:RelV x u) (rv:RelV y v):SeqAt.EqAt A s u v true:=by
 cases d with
 | non=>
  cases x <;> try exact hx.elim
  cases y <;> try exact hy.elim
  cases ru; cases rv; exact SeqAt.EqAt.same _
 | bl b=>
  cases x <;> try exact hx.elim
  cases y <;> try exact hy.elim
  rename_i a c
  obtain rfl:a = b:=hx
  obtain rfl:c = a:=hy
  cases ru; cases rv; exact SeqAt.EqAt.same _
 | int b=>
  cases x <;> try exact hx.elim
  cases y <;> try exact hy.elim
  rename_i a c
  obtain rfl:a = b:=hx
  obtain rfl:c = a:=hy
  obtain ⟨t,rfl⟩:=ru
  obtain ⟨t',rfl⟩:=rv
  have:=SeqAt.EqAt.int_int (A:=A) (s:=s) c t c t'
  simpa using this
 | str b=>
  cases x <;> try exact hx.elim
  cases y <;> try exact hy.elim
  rename_i a c
  obtain rfl:a = b:=hx
  obtain rfl:c = a:=hy
  obtain ⟨t,rfl⟩:=ru
  obtain ⟨t',rfl⟩:=rv
  have:=SeqAt.EqAt.str_str (A:=A) (s:=s) c t c t'
  simpa using this
 | tup ds=>cases x <;> exact hx.elim
 | lst ds=>cases x <;> exact hx.elim
theorem flat_ref {a:Addr} {d:Dt} (h:FlatD (.ref a) d):False:=by cases d <;> exact h
theorem all_true (n:Nat):((List.range n).all fun _=>true) = true:=by rw [List.all_eq_true]; intro _ _; rfl
theorem eqAt_same (I:Inv X pins σ H s):∀ (n:Nat) {A:Around} {x y:V} {d:Dt} {u v:Value},Says X.K ok H n x d->Says X.K ok' H n y d->RelV x u->RelV y v->A.units + n < cLine->SeqAt.EqAt A s u v true
 | 0,A,x,y,d,u,v,hx,hy,ru,rv,_=>flat_same hx hy ru rv
 | n + 1,A,x,y,d,u,v,hx,hy,ru,rv,hu=>by
  have hin:A.in1.units + n < cLine:=by show A.units + 1 + n < cLine; omega
  rcases hx with hx | ⟨a,xs,ds,rfl,rfl,hx,r⟩ | ⟨a,xs,ds,rfl,rfl,_,hx,r⟩
  ·rcases hy with hy | ⟨b,ys,es,rfl,rfl,hy,q⟩ | ⟨b,ys,es,rfl,rfl,_,hy,q⟩
   ·exact flat_same hx hy ru rv
   ·cases x <;> exact hx.elim
   ·cases x <;> exact hx.elim
  ·rcases hy with hy | ⟨b,ys,es,rfl,e2,hy,q⟩ | ⟨b,ys,es,rfl,e2,_,hy,q⟩
   ·cases y <;> exact hy.elim
   ·cases e2
    cases ru; cases rv
    by_cases hab:a = b
    ·subst hab; exact SeqAt.EqAt.same _
    ·obtain ⟨ia,va,pa,_⟩:=I.tuple hx
     obtain ⟨ib,vb,pb,_⟩:=I.tuple hy
     have la:ia.length = ds.length:=by rw [<- va.length,r.length]
     have lb:ib.length = ds.length:=by rw [<- vb.length,q.length]
     have:=SeqAt.RcAt.tuples (A:=A) (s:=s) (e:=fun _=>true) (show s.heap.IsTuple a ia.toArray from pa) (show s.heap.IsTuple b ib.toArray from pb) (by omega) (fun j h1 h2=>by
      have j1:j < ia.length:=by simpa using h1
      have j2:j < ib.length:=by simpa using h2
      have hxl:j < xs.length:=by rw [va.length]; exact j1
      have hyl:j < ys.length:=by rw [vb.length]; exact j2
      obtain ⟨u',e1,e2⟩:=va.get (i:=j) (List.getElem?_eq_getElem hxl)
      obtain ⟨v',e3,e4⟩:=vb.get (i:=j) (List.getElem?_eq_getElem hyl)
      obtain ⟨d1,f1,f2⟩:=Paired.get r (List.getElem?_eq_getElem hxl)
      obtain ⟨d2,f3,f4⟩:=Paired.get q (List.getElem?_eq_getElem hyl)
      rw [f1] at f3
      cases f3
      rw [List.getElem?_eq_getElem j1] at e1
      rw [List.getElem?_eq_getElem j2] at e3
      cases e1; cases e3
      simpa using eqAt_same I n f2 f4 e2 e4 hin)
     rw [all_true] at this
     have z:(ia.toArray.size == ib.toArray.size) = true:=by simp [la,lb]
     rw [z] at this
     exact SeqAt.EqAt.of_refs hab this
   ·cases e2
  ·rcases hy with hy | ⟨b,ys,es,rfl,e2,hy,q⟩ | ⟨b,ys,es,rfl,e2,_,hy,q⟩
   ·cases y <;> exact hy.elim
   ·cases e2
   ·cases e2
    cases ru; cases rv
    by_cases hab:a = b
    ·subst hab; exact SeqAt.EqAt.same _
    ·obtain ⟨ia,va,pa,_⟩:=I.list (SqL.of hx)
     obtain ⟨ib,vb,pb,_⟩:=I.list (SqL.of hy)
     have la:ia.length = ds.length:=by rw [<- va.length,r.length]
     have lb:ib.length = ds.length:=by rw [<- vb.length,q.length]
     have:=SeqAt.RcAt.lists (A:=A) (s:=s) (e:=fun _=>true) pa.isList pb.isList (by simp [la,lb]) (by omega) (fun j h1 h2=>by
      have j1:j < ia.length:=by simpa using h1
      have j2:j < ib.length:=by simpa using h2
      have hxl:j < xs.length:=by rw [va.length]; exact j1
      have hyl:j < ys.length:=by rw [vb.length]; exact j2
      obtain ⟨u',e1,e2⟩:=va.get (i:=j) (List.getElem?_eq_getElem hxl)
      obtain ⟨v',e3,e4⟩:=vb.get (i:=j) (List.getElem?_eq_getElem hyl)
      obtain ⟨d1,f1,f2⟩:=Paired.get r (List.getElem?_eq_getElem hxl)
      obtain ⟨d2,f3,f4⟩:=Paired.get q (List.getElem?_eq_getElem hyl)
      rw [f1] at f3
      cases f3
      rw [List.getElem?_eq_getElem j1] at e1
      rw [List.getElem?_eq_getElem j2] at e3
      cases e1; cases e3
      simpa using eqAt_same I n f2 f4 e2 e4 hin)
     rw [all_true] at this
     exact SeqAt.EqAt.of_refs hab this
theorem rc_same (I:Inv X pins σ H s) {n:Nat} {A:Around} {a b:Addr} {d:Dt} (hx:Says X.K ok H (n + 1) (.ref a) d) (hy:Says X.K ok' H (n + 1) (.ref b) d) (hu:A.units + n + 1 < cLine) :
  SeqAt.RcAt A s (.ref a) (.ref b) true/\SeqAt.RcNeAt A s (.ref a) (.ref b) false:=by
 have hin:A.in1.units + n < cLine:=by show A.units + 1 + n < cLine; omega
 rcases hx with hx | ⟨a,xs,ds,e0,rfl,hx,r⟩ | ⟨a,xs,ds,e0,rfl,_,hx,r⟩
 ·exact (flat_ref hx).elim
 ·cases e0
  rcases hy with hy | ⟨b,ys,es,e1,e2,hy,q⟩ | ⟨b,ys,es,e1,e2,_,hy,q⟩
  ·exact (flat_ref hy).elim
  ·cases e1; cases e2
   obtain ⟨ia,va,pa,_⟩:=I.tuple hx
   obtain ⟨ib,vb,pb,_⟩:=I.tuple hy
   have la:ia.length = ds.length:=by rw [<- va.length,r.length]
   have lb:ib.length = ds.length:=by rw [<- vb.length,q.length]
   have el:∀ j (h1:j < ia.toArray.size) (h2:j < ib.toArray.size),SeqAt.EqAt A.in1 s ia.toArray[j] ib.toArray[j] true:=fun j h1 h2=>by
    have j1:j < ia.length:=by simpa using h1
    have j2:j < ib.length:=by simpa using h2
    have hxl:j < xs.length:=by rw [va.length]; exact j1
    have hyl:j < ys.length:=by rw [vb.length]; exact j2
    obtain ⟨u',e1,e2⟩:=va.get (i:=j) (List.getElem?_eq_getElem hxl)
    obtain ⟨v',e3,e4⟩:=vb.get (i:=j) (List.getElem?_eq_getElem hyl)
    obtain ⟨d1,f1,f2⟩:=Paired.get r (List.getElem?_eq_getElem hxl)
    obtain ⟨d2,f3,f4⟩:=Paired.get q (List.getElem?_eq_getElem hyl)
    rw [f1] at f3
    cases f3
    rw [List.getElem?_eq_getElem j1] at e1
    rw [List.getElem?_eq_getElem j2] at e3
    cases e1; cases e3
    simpa using eqAt_same I n f2 f4 e2 e4 hin
   have z:(ia.toArray.size == ib.toArray.size) = true:=by simp [la,lb]
   have t1:=SeqAt.RcAt.tuples (A:=A) (s:=s) (e:=fun _=>true) (show s.heap.IsTuple a ia.toArray from pa) (show s.heap.IsTuple b ib.toArray from pb) (by omega) el
   have t2:=SeqAt.RcNeAt.tuples (A:=A) (s:=s) (e:=fun _=>true) (show s.heap.IsTuple a ia.toArray from pa) (show s.heap.IsTuple b ib.toArray from pb) (by omega) el
   rw [all_true,z] at t1 t2
   exact ⟨t1,t2⟩
  ·cases e1; cases e2
 ·cases e0
  rcases hy with hy | ⟨b,ys,es,e1,e2,hy,q⟩ | ⟨b,ys,es,e1,e2,_,hy,q⟩
  ·exact (flat_ref hy).elim
  ·cases e1; cases e2
  ·cases e1; cases e2
   obtain ⟨ia,va,pa,_⟩:=I.list (SqL.of hx)
   obtain ⟨ib,vb,pb,_⟩:=I.list (SqL.of hy)
   have la:ia.length = ds.length:=by rw [<- va.length,r.length]
   have lb:ib.length = ds.length:=by rw [<- vb.length,q.length]
   have el:∀ j (h1:j < ia.toArray.size) (h2:j < ib.toArray.size),SeqAt.EqAt A.in1 s ia.toArray[j] ib.toArray[j] true:=fun j h1 h2=>by
    have j1:j < ia.length:=by simpa using h1
    have j2:j < ib.length:=by simpa using h2
    have hxl:j < xs.length:=by rw [va.length]; exact j1
    have hyl:j < ys.length:=by rw [vb.length]; exact j2
    obtain ⟨u',e1,e2⟩:=va.get (i:=j) (List.getElem?_eq_getElem hxl)
    obtain ⟨v',e3,e4⟩:=vb.get (i:=j) (List.getElem?_eq_getElem hyl)
    obtain ⟨d1,f1,f2⟩:=Paired.get r (List.getElem?_eq_getElem hxl)
    obtain ⟨d2,f3,f4⟩:=Paired.get q (List.getElem?_eq_getElem hyl)
    rw [f1] at f3
    cases f3
    rw [List.getElem?_eq_getElem j1] at e1
    rw [List.getElem?_eq_getElem j2] at e3
    cases e1; cases e3
    simpa using eqAt_same I n f2 f4 e2 e4 hin
   have t1:=SeqAt.RcAt.lists (A:=A) (s:=s) (e:=fun _=>true) pa.isList pb.isList (by simp [la,lb]) (by omega) el
   have t2:=SeqAt.RcNeAt.lists (A:=A) (s:=s) (e:=fun _=>true) pa.isList pb.isList (by simp [la,lb]) (by omega) el
   rw [all_true] at t1 t2
   exact ⟨t1,t2⟩
def rSame (K:PySem.W.Frag) (b:Bool):R2:=fun x y H Q=>∃ (a c:Addr) (n:Nat) (d:Dt) (ok ok':Addr->Prop),x = .ref a/\y = .ref c/\n<=20/\Says K ok H (n + 1) x d/\Says K ok' H (n + 1) y d/\Q (.bl b) H
theorem op_eqS (hu:X.A.units + 64 < cLine):OpR X (compareOp .Eq) (rSame X.K true):=by
 intro pins s σ H x y v u Q I rx ry h
 obtain ⟨a,c,n,d,ok,ok',rfl,rfl,hn,hx,hy,q⟩:=h
 cases rx; cases ry
 exact (rc_same (A:=X.A) I hx hy (by omega)).1 X.prog X.w X.xe _ ⟨.bl true,H,I,rfl,q⟩
theorem op_neS (hu:X.A.units + 64 < cLine):OpR X (compareOp .NotEq) (rSame X.K false):=by
 intro pins s σ H x y v u Q I rx ry h
 obtain ⟨a,c,n,d,ok,ok',rfl,rfl,hn,hx,hy,q⟩:=h
 cases rx; cases ry
 exact (rc_same (A:=X.A) I hx hy (by omega)).2 X.prog X.w X.xe _ ⟨.bl false,H,I,rfl,q⟩
end
def Ite (K:PySem.W.Frag) (a:Addr):It:=
 ⟨fun i H=>∃ xs x,SqL K H a xs/\xs[i]? = some x,fun i H x H'=>∃ (p:Addr) (y:V),x = .ref p/\H p = none/\(∀ xs,SqL K H a xs->xs[i]? = some y)/\H' = upd H p (.tup [.int i,y]),fun i H=>∃ xs,SqL K H a xs/\xs.length<=i⟩
theorem turn_enum {P:Program} {w:World} {K:PySem.W.Frag} {elts:List Expr} {x1:Nat} {tpos:Pos} (a e it:Addr) (hne:e ≠ it) :
  Turn P w K (.Tuple elts x1 tpos) (Ite K a) [e,it] e (fun i h=>(∃ old,IsEnum h e it (i:Int) old)/\h.IsListIter it a i) where
 mem:=by simp
 obj:=fun i h st b hb=>by
  rcases List.mem_cons.mp hb with rfl | hb
  ·obtain ⟨⟨old,he⟩,_⟩:=st
   exact ⟨_,he,fun v q=>by cases q⟩
  ·have e':b = it:=by simpa using hb
   subst e'
   obtain ⟨_,o,ho,_,hd⟩:=st
   exact ⟨o,ho,fun v q=>by rw [hd] at q; cases q⟩
 keep:=fun i h h' st k=>by
  obtain ⟨⟨old,he⟩,o,ho,r⟩:=st
  exact ⟨⟨old,k e (by simp) _ he⟩,o,k it (by simp) o ho,r⟩
 item:=by
  intro X hP hw hK hc i pins s σ H E I hf st hg
  subst hP hw hK
  obtain ⟨f0,f1,f2,f3,f4,f5⟩:=hf e (by simp)
  obtain ⟨g0,g1,g2,g3,g4,g5⟩:=hf it (by simp)
  obtain ⟨⟨old,he⟩,hit⟩:=st
  obtain ⟨xs,x,hS,hx⟩:=hg
  obtain ⟨its,rv,hp,hz⟩:=I.list hS
  obtain ⟨u,hu,ru⟩:=rv.get hx
  refine wpAny_pyNext_enum_item he hit hp.isList (x:=u) (by simpa using hu) hne fun h' he' hit' htup hsz hk=>?_
  have I0:Inv X pins σ H { s with heap:=h',toks:=s.toks + 1 }:=by
   refine I.step (g':=s.gens) (d':=s.drawn) (ch:=[e,it]) (fun b hb=>?_) (fun b o _ _ hc' e1 _=>hk b o (fun z=>hc' (by simp [z])) (fun z=>hc' (by simp [z])) e1) (fun b o _ _ hc' e1 _=>⟨o.slots,hk b o (fun z=>hc' (by simp [z])) (fun z=>hc' (by simp [z])) e1⟩) (fun _ _ _ _ n=>n)
    (fun b o hc' e1=>⟨o,hk b o (fun z=>hc' (by simp [z])) (fun z=>hc' (by simp [z])) e1⟩) (fun _ _ e1=>e1) (fun _ _ _ e1=>e1) (fun b ps e1=>⟨#[],by rw [e1]; simp⟩) (fun m hm=>?_) (fun b u' e1=>?_) I.bare
   ·rcases List.mem_cons.mp hb with rfl | hb
    ·exact ⟨f3,f1,f4,f5⟩
    ·have e':b = it:=by simpa using hb
     subst e'
     exact ⟨g3,g1,g4,g5⟩
   ·obtain ⟨o,es,ep,ho,r⟩:=hm
    exact ⟨o,es,ep,hk _ o (Ne.symm f1) (Ne.symm g1) ho,r⟩
   ·have nit:∀ c v',H c = some v'->c ≠ e/\c ≠ it:=fun c v' q=>⟨fun z=>(by rw [z,f0] at q; cases q),fun z=>(by rw [z,g0] at q; cases q)⟩
    refine (I.hok b u' e1).stay (fun c v' hc' q=>?_) (fun _ q=>q) fun _ _ q=>q
    rcases hc' with z | z
    ·subst z; exact hk c v' (nit c _ e1).1 (nit c _ e1).2 q
    ·exact hk c v' (nit c _ z).1 (nit c _ z).2 q
  have hfr:H s.heap.objs.size = none:=I.hok.fresh (Nat.le_refl _)
  have I1:Inv X pins σ (upd H s.heap.objs.size (.tup [.int i,x])) { s with heap:=h',toks:=s.toks + 1 }:=by
   have hok:HOk X.prog X.w (upd H s.heap.objs.size (.tup [.int i,x])) h':=fun b o q=>by
    by_cases hb:b = s.heap.objs.size
    ·subst hb
     rw [upd_same] at q; cases q
     exact ⟨by show 2<=sizeLine; decide,[.int i s.toks,u],.cons ⟨_,rfl⟩ (.cons ru .nil),⟨_,htup,rfl,_,rfl⟩⟩
    ·rw [upd_ne hb] at q
     exact (I0.hok b o q).stay (fun _ _ _ z=>z) (fun c z=>by rw [upd_ne (ne_of_none z hfr)]; exact z) fun c xs' z=>by rw [upd_ne (ne_of_none z hfr)]; exact z
   refine I0.step (s:={ s with heap:=h',toks:=s.toks + 1 }) (g':=s.gens) (d':=s.drawn) (h':=h') (t':=s.toks + 1) (ch:=[s.heap.objs.size]) (fun b hb=>?_) (fun b o _ _ _ e1 _=>e1) (fun b o _ _ _ e1 _=>⟨o.slots,e1⟩) (fun b o hb e1 n=>by rw [upd_ne (fun z=>hb (by simp [z]))]; exact n)
    (fun b o _ e1=>⟨o,e1⟩) (fun b xs' e1=>by rw [upd_ne (ne_of_none e1 hfr)]; exact e1) (fun b o' u' e1=>by rw [upd_ne (ne_of_none e1 hfr)]; exact e1) (fun b ps e1=>⟨#[],by rw [upd_ne (ne_of_none e1 hfr),e1]; simp⟩) (fun m hm=>hm) hok I0.bare
   have e':b = s.heap.objs.size:=by simpa using hb
   subst e'
   refine ⟨.inr I.sz,fun z=>?_,fun y c h z=>?_,fun p hp' z=>?_⟩
   ·have:=I.lt; rw [<- z] at this; exact absurd this (Nat.lt_irrefl _)
   ·obtain ⟨v',hv⟩:=I.cell y c h
    have:=hv.lt; rw [z] at this; exact absurd this (Nat.lt_irrefl _)
   ·have:=I.pin_lt hp'; rw [z] at this; exact absurd this (Nat.lt_irrefl _)
  refine ⟨_,rfl,wpAny_letOwnedTupleGo_enum he' fun h2 he2 hs2=>?_⟩
  have nes:s.heap.objs.size ≠ e:=fun z=>by
   have:=Heap.lt_size (show s.heap.get? e = some _ from he)
   rw [<- z] at this; exact absurd this (Nat.lt_irrefl _)
  have nis:s.heap.objs.size ≠ it:=fun z=>by
   obtain ⟨o,ho,_⟩:=hit
   have:=Heap.lt_size ho
   rw [<- z] at this; exact absurd this (Nat.lt_irrefl _)
  have I2:Inv X pins σ (upd H s.heap.objs.size (.tup [.int i,x])) { s with heap:=h2,toks:=s.toks + 1 }:=
   I1.turned (s:={ s with heap:=h',toks:=s.toks + 1 }) (t':=s.toks + 1) (it:=e) (fun b o hb q=>(hs2.2 b hb).trans q) (by rw [upd_ne nes.symm]; exact f0) f1 f3 f4 f5
  refine ⟨.ref s.heap.objs.size,_,I2,rfl,⟨_,x,rfl,hfr,fun xs' h'=>?_,rfl⟩,⟨⟨_,by simpa using he2⟩,?_⟩,fun b hb=>?_⟩
  ·rw [I.list_inj h' hS]; exact hx
  ·obtain ⟨o,ho,r⟩:=hit'
   exact ⟨o,(hs2.2 it (Ne.symm hne)).trans ho,r⟩
  ·rcases List.mem_cons.mp hb with rfl | hb
   ·rw [upd_ne nes.symm]; exact f0
   ·have e':b = it:=by simpa using hb
    subst e'
    rw [upd_ne nis.symm]; exact g0
 done:=by
  intro X hP hw hK hc i pins s σ H E I hf st hg
  subst hP hw hK
  obtain ⟨⟨old,he⟩,hit⟩:=st
  obtain ⟨g0,g1,g2,g3,g4,g5⟩:=hf it (by simp)
  obtain ⟨xs,hS,hle⟩:=hg
  obtain ⟨its,rv,hp,hz⟩:=I.list hS
  have hx:its.toArray[i]? = none:=by simp [<- rv.length,hle]
  exact wpAny_pyNext_enum_end (I.ok.hd hc) he hit hp.isList hx fun h' eb=>⟨rfl,I.turned (t':=s.toks) (fun b o hb e1=>eb b o hb e1) g0 g1 g3 g4 g5⟩
 self:=fun A i s Q E st h=>by
  obtain ⟨⟨old,he⟩,_⟩:=st
  exact wpAny_pyIter_enum he h
section
variable {X:Cx} {elts:List Expr} {x1:Nat} {tpos:Pos}
def iEnum (K:PySem.W.Frag) (ta:TA):TI:=fun σ H R=>ta σ H fun vs H1=>∃ a,vs = [.ref a]/\(∃ xs,SqL K H1 a xs)/\R (Ite K a) H1
theorem pi_enum {l:Expr} {ta:TA} {p pos:Pos} (hg:Gl X "enumerate") (hm:X.mg "enumerate" = none) (ha:PA X [l] ta) (hl:isSt l = false:=by rfl):PI X (.Tuple elts x1 tpos) (.Call (.Name "enumerate" p) [l] [] pos) (iEnum X.K ta):=by
 refine ⟨?_⟩
 intro pins s σ H R I h
 refine Call_ (ld_blt I hg hm PyProof.Rows.boot_enumerate (PyProof.Rows.callWith_type1 (thn (ha pos pins s σ H _ I h) fun us s1 ⟨vs,H1,I1,r1,q1⟩=>?_) (star_cons hl) rfl))
 obtain ⟨a,e,⟨xs,hS⟩,q⟩:=q1
 subst e
 obtain ⟨u,rfl,ru⟩:=vals1 r1
 cases ru
 obtain ⟨its,rv,hp,hz⟩:=I1.list hS
 refine call_enumerate_list hp.isList fun h' he hit hsz hk=>?_
 refine wpAny_pyIter_enum he ?_
 have hfr:∀ b,s1.heap.objs.size<=b->H1 b = none:=fun b hb=>I1.hok.fresh hb
 have I2:Inv X pins σ H1 { s1 with heap:=h' }:=I1.kept (t':=s1.toks) hk
 refine ⟨s1.heap.objs.size + 1,[s1.heap.objs.size + 1,s1.heap.objs.size],_,_,H1,rfl,I2,turn_enum a _ _ (Nat.succ_ne_self _),⟨⟨_,he⟩,hit⟩,fun b hb=>?_,q⟩
 rcases List.mem_cons.mp hb with rfl | hb
 ·exact I1.fpOk (Nat.le_succ _) (hfr _ (Nat.le_succ _))
 ·have e':b = s1.heap.objs.size:=by simpa using hb
  subst e'
  exact I1.fpOk (Nat.le_refl _) (hfr _ (Nat.le_refl _))
end
end L2
namespace Att
open PySem PySem.W PySem.Calls PyProof.Rows
theorem script_bits {ns:List Int} (h:WData.layableAll [WData.list (ns.map WData.int)] = true):∀ n ∈ ns,Builtin.Int.intBits n<=1048576:=fun n hn=>
 PySem.intBits_le_of_layable (layable0_of_all (lay0_int (layableW_item (layW_cons h).1 (.int n) (List.mem_map.mpr ⟨n,hn,rfl⟩))))
theorem attach_callB {l:OpenLaw} {n:Nat} {q:Program} {loose:List Str} {XP:(Str->Option Value)->Heap->Prop} {YP:World->Heap->Prop} {d:DefRec}
  (hn:l.most = some n) (hdf:d.params.defaults = [])
  (call:∀ (w:World) (s₀ s₁:Shared) (mg mb:Str->Option Value) (fa:Addr) (o:Obj) (pm cd doc:Value) (a:Addr) (vs:List Value) (ns:List Int),
   Ground q loose [] XP w s₀ mg mb s₁.heap->YP w s₁.heap->
   s₁.heap.get? fa = some o->o.data = .func (docDef d.name d.params d.body d.scope pm cd doc)->s₁.heap.CodeRec cd d.name->mg d.name = some (.ref fa)->
   s₁.heap.get? a = some { cls:=.type "list",data:=.seq vs.toArray }->IntsAre vs ns->ns.length<=n->(∀ m ∈ ns,Builtin.Int.intBits m<=1048576)->s₁.gens = #[]->
   codeAny (model l.prog w) callerA (.call (.ref fa) ⟨[.ref a],[]⟩) (fun r s'=>r = .ok (.ret (.bool true))/\OldK s₁.heap s'.heap/\s'.os = s₁.os/\AllBare s'.gens) s₁) :
  WalkO q loose XP YP l.row.toRowW d [] (fun f vs=>PySem.call f vs):=by
 intro w s₀ s₁ mg mb G Y fa o pm cd doc dV kV ho hd hcd hD hmg hg args vals as hpre hlay hrd hwl hlo
 obtain rfl:dV = .none:=Dflts.none hD hdf
 obtain rfl:kV = .none:=Dflts.noKw hD
 obtain ⟨a,vs,ns,rfl,rfl,hobj,hints,hlen⟩:=script_of hn hpre hwl
 refine enter_call (codeAny_mono (call w s₀ s₁ mg mb fa o pm cd doc a vs ns G Y ho (fd_plain hd) hcd hmg hobj hints hlen (script_bits hlay) hg) fun r s' hq=>?_)
 obtain ⟨rfl,h2,h3,h4⟩:=hq
 exact ⟨.inl ⟨.bool true,.bool true,[],rfl,fun _=>rfl,.bool true,post_true l _,fun _=>⟨List.Pairwise.nil,fun _ hm=>(nomatch hm)⟩⟩,h2,h3,h4⟩
end Att
namespace L2
open PySem PySem.Spec PyProof.Rows
theorem walk_ofB {l:PySem.W.OpenLaw} {n k:Nat} {q:Program} {loose:List Str} {XP:(Str->Option Value)->Heap->Prop} {YP:World->Heap->Prop} {d:DefRec} {K:Params->PySem.W.Frag} {CX:World->CXT} {sp:World->Sp} {x:Str}
  (hn:l.most = some n) (hn2:n<=sizeLine) (hdf:d.params.defaults = []) (hr:Room k callerA)
  (hY:∀ (w:World) (h:Heap),YP w h->(K w.params).In h)
  (F:∀ (w:World) (mg:Str->Option Value) (fa:Addr) (h:Heap),(K w.params).In h->h.Ns mainGlobals mg->mg d.name = some (.ref fa)->
   ∃ fd:FuncData,(∀ (s:Shared) (u:Value),BindsTo s fd ⟨[u],[]⟩ [(x,u)])/\
    ∀ base:Heap,(K w.params).In base->base.Ns mainGlobals mg->FnOk l.prog w (K w.params) mg base (CX w) k fa fd [x] (sp w))
  (hsp:∀ (w:World) (H:Hp) (a:Addr) (ns:List Int),ns.length<=n->(∀ m ∈ ns,Builtin.Int.intBits m<=1048576)->Only H->SqL (K w.params) H a (ns.map V.int)->sp w [.ref a] H (fun v _=>v = .bl true) fun _ _ _=>False)
  (hCX:∀ (w:World) (H:Hp) (s:Shared) (e:Value) (s':Shared),CX w [] H s (fun _ _ _=>False) e s'->False) :
  PySem.W.WalkO q loose XP YP l.row.toRowW d [] (fun f vs=>PySem.call f vs):=by
 refine Att.attach_callB hn hdf fun w s₀ s₁ mg mb fa o pm cd doc a vs ns G Y ho hd hcd hmg hobj hints hlen hbits hg=>?_
 have KX:=hY w _ Y
 obtain ⟨fd,hb,hF⟩:=F w mg fa _ KX G.T.g hmg
 exact law_call KX G.T.g G.T.b G.T.builtins G.T.nolimit hg hobj hints (Nat.le_trans hlen hn2) hr hF hb (fun H hO hS=>hsp w H a ns hlen hbits hO hS) fun H e s'=>hCX w H s₁ e s'
section
variable {X:Cx}
end
structure FunD (K:PySem.W.Frag) (x qual:Str) (st:Stmt) (f:Addr) (fd:FuncData) (items:List Value):Prop where
 ex:∃ (oc:Value) (od:Option Addr) (T:Addr) (kV doc pm:Value) (an:Option Addr) (cdv ct:Value) (osl:Array (Option Value)) (o:Obj) (n:Nat),
  fd = PySem.W.fnOf x qual (defArgs st) (defBody st) (defScope st) (.ref T) kV doc pm an cdv ct/\K.lookup f = some ⟨oc,od,.func fd,osl⟩/\PySem.W.codeIn K cdv qual = true/\K.lookup T = some o/\o.data = .seq items.toArray n
 kp:PySem.W.keepIn K (.ref f) = true
section
variable {P:Program} {w:World} {K:PySem.W.Frag} {mg:Str->Option Value} {base:Heap}
theorem FunD.ok {x qual:Str} {st:Stmt} {f:Addr} {fd:FuncData} {items:List Value} {N ps:List Str} {k:Nat} {sp:Sp} (F:FunD K x qual st f fd items) (S:FnScope N ps (defScope st)) (len:∀ vs H Q E,sp vs H Q E->vs.length = ps.length)
  (hbody:∀ (cdv:Value) (A:Around) (outer:List Env) (s:Shared) (H:Hp) (vs:List V) (Q:VK) (E:XK),Room k (A.deeper (envOfC qual (defScope st) s.heap.objs.size f cdv))->sp vs H Q E->
   ∃ t,PSs (cxOf CX0 P w K mg base N qual (defScope st) f cdv A outer s H E).nox (defBody st) t/\t { nx:=fun _ H'=>Q .non H',rt:=Q } (start N vs) H):FnOk P w K mg base CX0 (k + 1) f fd ps sp:=by
 obtain ⟨oc,od,T,kV,doc,pm,an,cdv,ct,osl,o,n,rfl,lk,hcd,_,_⟩:=F.ex
 refine fn_of lk hcd S len fun A outer s H vs Q E hr hsp=>?_
 obtain ⟨t,h,q⟩:=hbody cdv A outer s H vs Q E hr hsp
 exact ⟨t,h.nox,q⟩
theorem FunD.bindsTo {x qual:Str} {st:Stmt} {f:Addr} {fd:FuncData} {items:List Value} (F:FunD K x qual st f fd items) {args:Args} {bs:List (Str × Value)}
  (h:∀ (T:Addr) (kV doc pm:Value) (an:Option Addr) (cdv ct:Value),∃ k:Option (Array Value)->Sem (List (Str × Value)),
   bindArgs (PySem.W.fnOf x qual (defArgs st) (defBody st) (defScope st) (.ref T) kV doc pm an cdv ct) args = seqItems? (.ref T) >>= k/\k (some items.toArray) = pure bs) {s:Shared} (KX:K.In s.heap):BindsTo s fd args bs:=by
 obtain ⟨oc,od,T,kV,doc,pm,an,cdv,ct,osl,o,n,rfl,lk,hcd,lt,hs⟩:=F.ex
 obtain ⟨k,h1,h2⟩:=h T kV doc pm an cdv ct
 exact BindsTo.of_defaults (T:=T) (n:=n) rfl (KX _ _ lt) hs h1 h2
theorem funD_mk {x qual:Str} {st:Stmt} {f T:Addr} {oc:Value} {od an:Option Addr} {osl:Array (Option Value)} {kV doc pm cdv ct:Value} {o:Obj} {n:Nat} {items:List Value}
  (l:K.lookup f = some ⟨oc,od,.func (PySem.W.fnOf x qual (defArgs st) (defBody st) (defScope st) (.ref T) kV doc pm an cdv ct),osl⟩)
  (c:PySem.W.codeIn K cdv qual = true) (k:PySem.W.keepIn K (.ref f) = true) (lT:K.lookup T = some o) (hs:o.data = .seq items.toArray n) :
  FunD K x qual st f (PySem.W.fnOf x qual (defArgs st) (defBody st) (defScope st) (.ref T) kV doc pm an cdv ct) items:=⟨⟨oc,od,T,kV,doc,pm,an,cdv,ct,osl,o,n,rfl,l,c,lT,hs⟩,k⟩
end
section
variable {X:Cx} {CX:CXT} {k:Nat} {f C:Addr} {fd:FuncData} {ps ks:List Str} {sp:Sp} {E:XK} {x:Str} {p pos:Pos} {e:Expr} {es:List Expr} {kws:List Keyword} {t tk:TA}
 {g:List Value->List Value->List Value} {gV:List V->List V->List V}
end
theorem seq_via {t u:TS} {D:Ends} {σ : St} {H:Hp} (R:St->Hp->Prop) (h2:∀ σ H,R σ H->u D σ H) (h1:(∀ σ H,R σ H->u D σ H)->t { D with nx:=u D } σ H):tSeq t u D σ H:=h1 h2
def lcN (n i:Nat) (D:Addr) (Pv:Nat->List V->Hp->Prop) (ys:List V):VK:=fun v H4=>H4 D = some (.lst ys)/\ys.length < sizeLine/\∃ m',m' < n - i/\m' = n - (i + 1)/\i + 1<=n/\Pv (i + 1) (ys ++ [v]) (upd H4 D (.lst (ys ++ [v])))
def lcS (n i:Nat) (Pv:Nat->List V->Hp->Prop) (ys:List V):Hp->Prop:=fun H4=>∃ m',m' < n - i/\m' = n - (i + 1)/\i + 1<=n/\Pv (i + 1) ys H4
theorem lcN.mk {n i:Nat} {D:Addr} {Pv:Nat->List V->Hp->Prop} {ys:List V} {v:V} {H4:Hp} (hi:i < n) (hn:n<=sizeLine) (hD:H4 D = some (.lst ys)) (hy:ys.length<=i) (p:Pv (i + 1) (ys ++ [v]) (upd H4 D (.lst (ys ++ [v])))):lcN n i D Pv ys v H4:=
 ⟨hD,by omega,n - (i + 1),by omega,rfl,hi,p⟩
theorem lcS.mk {n i:Nat} {Pv:Nat->List V->Hp->Prop} {ys:List V} {H4:Hp} (hi:i < n) (p:Pv (i + 1) ys H4):lcS n i Pv ys H4:=⟨n - (i + 1),by omega,rfl,hi,p⟩
theorem lc_list {K:PySem.W.Frag} {a:Addr} {xs:List V} {caps:List (Option Nat)} {g:TG} {tt:TT} {te:TE} {σ : St} {H1:Hp} {Q:VK} {D:Addr} (Pv:Nat->List V->Hp->Prop) (h0:Pv 0 [] (upd H1 D (.lst [])))
  (hl:∀ i ys H,Pv i ys H->SqL K H a xs)
  (hs:∀ i x ys H,i < xs.length->xs[i]? = some x->Pv i ys H->g x (capS caps σ) H fun σ2 H2=>tt σ2 H2 fun ok H3=>(ok = true->te σ2 H3 (lcN xs.length i D Pv ys))/\(ok = false->lcS xs.length i Pv ys H3))
  (hd:∀ ys H,Pv xs.length ys H->Q (.ref D) H):LCr (Itl K a) caps g tt te σ H1 Q D:=by
 refine ⟨fun i m ys H=>m = xs.length - i/\i<=xs.length/\Pv i ys H,⟨xs.length,by simp,Nat.zero_le _,h0⟩,?_⟩
 rintro i m ys H ⟨rfl,hi,p⟩
 have q:=hl i ys H p
 by_cases hlt:i < xs.length
 ·refine .inr ⟨⟨xs,xs[i],q,by simp [hlt]⟩,fun x H' y=>?_⟩
  obtain ⟨e,y⟩:=y
  subst e
  exact hs i x ys _ hlt (y xs q) p
 ·have e:i = xs.length:=by omega
  subst e
  exact .inl ⟨⟨xs,q,Nat.le_refl _⟩,hd ys H p⟩
theorem same_make0 {H:Hp} {x dx:Addr} {o1:HO} (hx:H x = none) (hd:H dx = none):Same H (upd (upd H dx (.own x)) x o1):=fun b u q=>by
 rw [upd_ne (ne_of_none q hx),upd_ne (ne_of_none q hd)]
 exact q
theorem same_new {H:Hp} {p:Addr} (h:H p = none) (o:HO):Same H (upd H p o):=fun b u q=>by rw [upd_ne (ne_of_none q h)]; exact q
theorem lc_range {lo:Int} {n:Nat} {caps:List (Option Nat)} {g:TG} {tt:TT} {te:TE} {σ : St} {H1:Hp} {Q:VK} {D:Addr} (Pv:Nat->List V->Hp->Prop) (h0:Pv 0 [] (upd H1 D (.lst [])))
  (hs:∀ i ys H,i < n->Pv i ys H->g (.int (lo + i)) (capS caps σ) H fun σ2 H2=>tt σ2 H2 fun ok H3=>(ok = true->te σ2 H3 (lcN n i D Pv ys))/\(ok = false->lcS n i Pv ys H3))
  (hd:∀ ys H,Pv n ys H->Q (.ref D) H):LCr (Itr lo n) caps g tt te σ H1 Q D:=by
 refine ⟨fun i m ys H=>m = n - i/\i<=n/\Pv i ys H,⟨n,by simp,Nat.zero_le _,h0⟩,?_⟩
 rintro i m ys H ⟨rfl,hi,p⟩
 by_cases hlt:i < n
 ·refine .inr ⟨hlt,fun x H' y=>?_⟩
  obtain ⟨e,y⟩:=y
  subst e y
  exact hs i ys _ hlt p
 ·have e:i = n:=by omega
  subst e
  exact .inl ⟨Nat.le_refl _,hd ys H p⟩
theorem lc_enum {K:PySem.W.Frag} {a:Addr} {xs:List V} {caps:List (Option Nat)} {g:TG} {tt:TT} {te:TE} {σ : St} {H1:Hp} {Q:VK} {D:Addr} (Pv:Nat->List V->Hp->Prop) (h0:Pv 0 [] (upd H1 D (.lst [])))
  (hl:∀ i ys H,Pv i ys H->SqL K H a xs)
  (hs:∀ i x p ys H,i < xs.length->xs[i]? = some x->Pv i ys H->H p = none->g (.ref p) (capS caps σ) (upd H p (.tup [.int i,x])) fun σ2 H2=>tt σ2 H2 fun ok H3=>(ok = true->te σ2 H3 (lcN xs.length i D Pv ys))/\(ok = false->lcS xs.length i Pv ys H3))
  (hd:∀ ys H,Pv xs.length ys H->Q (.ref D) H):LCr (Ite K a) caps g tt te σ H1 Q D:=by
 refine ⟨fun i m ys H=>m = xs.length - i/\i<=xs.length/\Pv i ys H,⟨xs.length,by simp,Nat.zero_le _,h0⟩,?_⟩
 rintro i m ys H ⟨rfl,hi,p⟩
 have q:=hl i ys H p
 by_cases hlt:i < xs.length
 ·refine .inr ⟨⟨xs,xs[i],q,by simp [hlt]⟩,fun x H' y=>?_⟩
  obtain ⟨pp,y,rfl,hp,y2,rfl⟩:=y
  exact hs i y pp ys H hlt (y2 xs q) p hp
 ·have e:i = xs.length:=by omega
  subst e
  exact .inl ⟨⟨xs,q,Nat.le_refl _⟩,hd ys H p⟩
theorem for_enum {K:PySem.W.Frag} {a:Addr} {xs:List V} {g:TG} {tb:TS} {D:Ends} {σ : St} {H:Hp} (Pv:Nat->St->Hp->Prop) (h0:Pv 0 σ H) (hl:∀ i σ H,i<=xs.length->Pv i σ H->SqL K H a xs)
  (hs:∀ i x p σ H,xs[i]? = some x->Pv i σ H->H p = none->g (.ref p) σ (upd H p (.tup [.int i,x])) fun σ2 H2=>tb { D with nx:=Pv (i + 1),ct:=Pv (i + 1),bk:=D.nx } σ2 H2) (hd:∀ σ H,Pv xs.length σ H->D.nx σ H) :
  ∃ W:Nat->Nat->St->Hp->Prop,(∃ m,W 0 m σ H)/\∀ i m σ H,W i m σ H->
   ((Ite K a).stop i H/\D.nx σ H)\/((Ite K a).go i H/\∃ N:St->Hp->Prop,(∀ σ' H',N σ' H'->∃ m',m' < m/\W (i + 1) m' σ' H')/\∀ x H',(Ite K a).yld i H x H'->g x σ H' fun σ2 H2=>tb { D with nx:=N,ct:=N,bk:=D.nx } σ2 H2):=by
 refine ⟨fun i m σ H=>m = xs.length - i/\i<=xs.length/\Pv i σ H,⟨xs.length,by simp,Nat.zero_le _,h0⟩,?_⟩
 rintro i m σ H ⟨rfl,hi,p⟩
 have q:=hl i σ H hi p
 by_cases hlt:i < xs.length
 ·refine .inr ⟨⟨xs,xs[i],q,by simp [hlt]⟩,Pv (i + 1),fun σ' H' p'=>⟨xs.length - (i + 1),by omega,rfl,hlt,p'⟩,fun x H' y=>?_⟩
  obtain ⟨pp,y,rfl,hp,y2,rfl⟩:=y
  exact hs i y pp σ H (y2 xs q) p hp
 ·have e:i = xs.length:=by omega
  subst e
  exact .inl ⟨⟨xs,q,Nat.le_refl _⟩,hd σ H p⟩
theorem atI_pos {α : Type} {xs:List α} {i:Int} (h0 : 0<=i) (h1:i < xs.length):∃ x,x ∈ xs/\atI xs i = some x/\xs[i.toNat]? = some x:=by
 obtain ⟨k,rfl⟩:=Int.eq_ofNat_of_zero_le h0
 have hk:k < xs.length:=by omega
 exact ⟨xs[k],List.getElem_mem hk,atI_nat (List.getElem?_eq_getElem hk),by simp [hk]⟩
theorem call_isinstT {X:Cx}:CallR X (.builtin "isinstance") (fun xs H Q=>∃ a ys T b,xs = [.ref a,.ty T]/\SqT X.K H a ys/\PySem.W.kitOne X.K (.type "tuple") (.type T) = some b/\Q (.bl b) H):=by
 intro pins s σ H xs us Q I r h
 obtain ⟨a,ys,T,b,rfl,hS,e,q⟩:=h
 obtain ⟨u,w',rfl,ru,rw'⟩:=vals2 r
 cases rw'
 cases ru
 obtain ⟨its,r,⟨o,h1,h2,_⟩,_⟩:=I.tuple hS
 exact PySem.W.kia_one PySem.W.kitx_tuple I.kIn ⟨o,h1,h2⟩ e (fun z=>nomatch z) fun tk=>⟨.bl b,H,I.tok tk,rfl,q⟩
section
variable {X:Cx} {pins:List (Addr × Obj)} {σ : St} {H H':Hp} {s s':Shared} {ea:Addr} {cls:Value} {vs:List Value} {h':Heap} {M:Model} {E:Value->Shared->Prop}
end
section
variable {X:Cx} {E:XK} {x:Str} {C:Addr} {B Bn newId nid initId inN:String} {bm bmN:List Value} {np cpos pos:Pos} {e:Expr} {es:List Expr} {t:TA}
end
section
variable {P:Program} {w:World} {K:PySem.W.Frag} {mg:Str->Option Value} {base:Heap} {N:List Str} {qual:Str} {scope:Scope} {f:Addr} {cd:Value} {A:Around} {outer:List Env} {s:Shared} {H:Hp} {E E':XK}
end
section
variable {X:Cx} {k:Nat} {f:Addr} {fd:FuncData} {ps:List Str} {sp:Sp} {E:XK} {x:Str} {p pos:Pos} {e:Expr} {es:List Expr} {t:TA}
end
section
variable {X:Cx} {pins:List (Addr × Obj)} {σ : St} {H H':Hp} {s s':Shared} {ea a:Addr} {cls:Value} {o:HO} {h5:Heap}
end
section
variable {X:Cx} {pins:List (Addr × Obj)} {σ : St} {H:Hp} {s:Shared} {M:Model} {A:Around} {E:Value->Shared->Prop} {i:Nat} {n:Str} {pos:Pos}
end
section
variable {X:Cx} {pins:List (Addr × Obj)} {σ : St} {e:Expr} {es:List Expr} {te ta:TE} {t tr:TA} {E:XK} {x m:Str} {p pos apos:Pos} {k:Nat} {f C:Addr} {fd:FuncData} {ps:List Str} {sp:Sp} {o:Expr} {dvs:List V} {ds:List Value}
end
section
variable {X:Cx} {pins:List (Addr × Obj)} {σ : St} {H:Hp} {s:Shared} {ea:Addr}
variable {st b₀:Stmt} {suite:List Stmt} {c n:Str} {np hpos pos:Pos} {C:Addr} {i:Nat} {tb:XK->TS} {ts:TS} {ok:Value->Prop}
end
end L2
namespace L2
open PySem PySem.W PySem.Builtin PySem.Builtin.ObjectAttr PySem.Builtin.Getset_descriptor PySem.Spec PyProof.Rows
section
variable {prog:Program} {w:World} {A:Around} {E:Value->Shared->Prop} {s:Shared} {K:PySem.W.Frag} {x D:Addr}
end
end L2
namespace L2
open PySem PySem.Spec PyProof.Rows
section
variable {X:Cx}
end
section
variable {P:Program} {w:World} {K:PySem.W.Frag} {mg:Str->Option Value} {base:Heap}
end
section
variable {X:Cx} {k:Nat} {f:Addr} {fd:FuncData} {ps:List Str} {sp:Sp} {x:Str} {p pos:Pos} {e:Expr} {es:List Expr} {t:TA}
end
abbrev revIt (n:Int):Obj:={ cls:=.type "range_iterator",data:=.fields #[rawInt (n - 1),rawInt n,rawInt (-1)] }
section
variable {prog:Program} {w:World} {A:Around} {E:Value->Shared->Prop} {s:Shared} {r:Addr} {n:Int} {t u v:Tok}
theorem rev_small (h0 : 0<=n) (h1:n < 2 ^ 62):(Builtin.Range.rangeFitsLong 0 && Builtin.Range.rangeFitsLong n && Builtin.Range.rangeFitsLong 1 && Builtin.Range.rangeFitsLong (-1) && Builtin.Range.rangeFitsLong (0 - 1) && Builtin.Range.rangeFitsLong (Builtin.Range.rangeSize 0 n 1)) = true:=by
 have e:Builtin.Range.rangeSize 0 n 1 = n:=by rw [rangeSize_one]; split <;> omega
 rw [e]
 have f:Builtin.Range.rangeFitsLong n = true:=by unfold Builtin.Range.rangeFitsLong; simp; omega
 rw [f]
 decide
theorem call_rev1 {Q:Value->Shared->Prop} (hr:IsRange s.heap r 0 n 1 t u v) (h0 : 0<=n) (h1:n < 2 ^ 62) (h:Q (.ref s.heap.objs.size) { s with heap:=s.heap.push (revIt n) }) :
  wpAny (model prog w) A (call (.builtin "range.__reversed__") [.ref r]) Q E s:=by
 have hT:s.TypeIs (.ref r) "range":=⟨_,hr,rfl⟩
 have e:Builtin.Range.rangeSize 0 n 1 = n:=by rw [rangeSize_one]; split <;> omega
 refine wpAny_call_entry F.slot_range_reversed hT F.entry_range_reversed ?_ (F.args_range_reversed_1 (.ref r))
 unfold Builtin.«range.__reversed__»
 refine wpAny_bind (wpAny_of_eq (a:=Value.ref r) (by rfl) ?_)
 have rf:∀ (Q':Int × Int × Int->Shared->Prop) (E':Value->Shared->Prop) (A':Around),Q' (0,n,1) s->wpAny (model prog w) A' (Builtin.Range.rangeFields (.ref r)) Q' E' s:=by
  intro Q' E' A' q
  unfold Builtin.Range.rangeFields
  refine wpAny_bind (wpAny_field hr rfl (x:=.int 0 t) rfl (wpAny_bind (wpAny_of_eq (a:=some (0:Int)) (by rfl) ?_)))
  refine wpAny_bind (wpAny_field hr rfl (x:=.int n u) rfl (wpAny_bind (wpAny_of_eq (a:=some n) (by rfl) ?_)))
  refine wpAny_bind (wpAny_field hr rfl (x:=.int 1 v) rfl (wpAny_bind (wpAny_of_eq (a:=some (1:Int)) (by rfl) ?_)))
  exact wpAny_pure q
 refine wpAny_bind (rf _ _ _ ?_)
 dsimp only
 rw [rev_small h0 h1]
 simp only [Bool.not_true,Bool.false_eq_true,if_false,if_true]
 rw [e]
 unfold newFields
 refine wpAny_bind (wpAny_newObj_type (wpAny_pure ⟨_,rfl,?_⟩))
 have e2:(0:Int) + (n - 1) * 1 = n - 1:=by omega
 rw [e2]
 exact h
theorem code_rev {Q:Value->Shared->Prop} (hr:IsRange s.heap r 0 n 1 t u v) (h0 : 0<=n) (h1:n < 2 ^ 62) (h:Q (.ref s.heap.objs.size) { s with heap:=s.heap.push (revIt n) }) :
  codeAny (model prog w) A (.call (.builtin "reversed.__new__") ⟨[.type "reversed",.ref r],[]⟩) (wants Q E) s:=by
 have hT:s.TypeIs (.ref r) "range":=⟨_,hr,rfl⟩
 refine codeAny_of_tree ?_
 show wpAny _ A.in1 (do checkBuiltinCall "reversed.__new__" ⟨[.type "reversed",.ref r],[]⟩; again (.builtin "reversed.__new__" ⟨[.type "reversed",.ref r],[]⟩)) _ _ s
 refine wpAny_bind (wpAny_of_eq (F.newCall_reversed_1 (.ref r)) (wpAny_pure ⟨plainId_quiet F.plain_reversed_new _,?_⟩))
 refine codeAny_builtin F.entry_reversed_new ?_
 rw [Around.under_plainId F.plain_reversed_new (⟨[.type "reversed",.ref r],[]⟩:Args)]
 unfold Builtin.«reversed.__new__»
 refine wpAny_bind (wpAny_of_eq (newClass_reversed (.ref r)) ?_)
 try dsimp only
 refine wpAny_bind (wpAny_of_eq (a:=Unit.unit) (by first | rfl | kernel_rfl) ?_)
 refine wpAny_bind (wpAny_of_eq (a:=Unit.unit) (by first | rfl | kernel_rfl) ?_)
 try dsimp only
 refine wpAny_bind (wpAny_specialOf hT F.slot_range_reversed.lookup ?_)
 try dsimp only
 refine wpAny_bind (wpAny_of_eq (F.slot_range_reversed.bind (.ref r)) ?_)
 try dsimp only
 have hn:¬ ((Value.builtin "range.__reversed__" == Value.none) = true):=Bool.false_ne_true
 first
 | rw [if_neg hn]
 | (show wpAny _ _ (if (Value.builtin "range.__reversed__" == Value.none) = true then _ else _) _ _ _; rw [if_neg hn])
 refine wpAny_bind (wpAny_rule ?_)
 have c1:∀ (Q':Value->Shared->Prop) (E':Value->Shared->Prop) (A':Around),Q' (.ref s.heap.objs.size) { s with heap:=s.heap.push (revIt n) }->wpAny (model prog w) A' (runValue (.call (.builtin "range.__reversed__") ⟨[.ref r],[]⟩)) Q' E' s:=fun Q' E' A' q=>call_rev1 hr h0 h1 q
 refine wpAny_bind (c1 _ _ _ ?_)
 first
 | exact wpAny_pure h
 | exact wpAny_bind (wpAny_pure (wpAny_pure h))
theorem sub_ri_rev:isSubtype (.type "range_iterator") (.type "reversed") = pure false:=by rw [isSubtype_type]; kernel_rfl
theorem call_rev {Q:Value->Shared->Prop} (hr:IsRange s.heap r 0 n 1 t u v) (h0 : 0<=n) (h1:n < 2 ^ 62) (h:Q (.ref s.heap.objs.size) { s with heap:=s.heap.push (revIt n) }) :
  wpAny (model prog w) A (call (.type "reversed") [.ref r]) Q E s:=by
 refine callType_other (U:="range_iterator") (Q₁:=fun obj s₁=>obj = .ref s.heap.objs.size/\s₁ = { s with heap:=s.heap.push (revIt n) }) (by decide +kernel) F.create_reversed ⟨_,_,F.mro_reversed⟩
  F.made_reversed sub_ri_rev (F.typeCall_reversed_1 (.ref r)) (code_rev hr h0 h1 ⟨rfl,rfl⟩) ?_
 rintro obj s₁ ⟨rfl,rfl⟩
 exact ⟨⟨_,Heap.get?_push_size _ rfl,rfl⟩,h⟩
end
theorem boot_rev:bootBuiltins "reversed" = some (.type "reversed"):=by decide +kernel
def Itrr (n:Nat):It:=⟨fun i _=>i < n,fun i H x H'=>H' = H/\x = .int ((n:Int) - 1 - i),fun i _=>n<=i⟩
theorem turn_rev {P:Program} {w:World} {K:PySem.W.Frag} {tg:Expr} (it:Addr) (n:Nat):Turn P w K tg (Itrr n) [it] it (fun i h=>IsRangeIter h it (((n:Int) - 1) + (i:Nat) * (-1)) ((n:Int) - (i:Nat)) (-1)) where
 mem:=by simp
 obj:=fun i h st b hb=>by
  have e:b = it:=by simpa using hb
  subst e
  exact ⟨_,st,fun v z=>by
   have z':Data.fields _ = Data.cell v:=z
   cases z'⟩
 keep:=fun i h h' st k=>k it (by simp) _ st
 item:=by
  intro X hP hw hK hc i pins s σ H E I hf st hg
  subst hP hw hK
  obtain ⟨f0,f1,f2,f3,f4,f5⟩:=hf it (by simp)
  have W:=Walks.range (prog:=X.prog) (w:=X.w) (I.ok.hd hc) it ((n:Int) - 1) (-1) n
  refine W.item i s _ _ hg st fun v h' tk hv st' kk=>?_
  obtain ⟨t,rfl⟩:=hv
  have I1:Inv X pins σ H { s with heap:=h',toks:=tk }:=I.turned (fun b o hb e=>kk b o (by simpa using hb) e) f0 f1 f3 f4 f5
  refine ⟨_,rfl,go_of (s:={ s with heap:=h',toks:=tk }) (n:="range_iterator") st' rfl rfl (by decide) ⟨.int ((n:Int) - 1 - i),H,I1,⟨t,?_⟩,⟨rfl,rfl⟩,st',fun b hb=>(hf b hb).1⟩⟩
  have e:(n:Int) - 1 + (i:Int) * -1 = (n:Int) - 1 - i:=by omega
  rw [e]
 done:=by
  intro X hP hw hK hc i pins s σ H E I hf st hg
  subst hP hw hK
  obtain ⟨f0,f1,f2,f3,f4,f5⟩:=hf it (by simp)
  exact wpAny_pyNext_range_end (I.ok.hd hc) st (by have:n<=i:=hg; omega) fun h' eb=>⟨rfl,I.turned (t':=s.toks) (fun b o hb e=>eb b o hb e) f0 f1 f3 f4 f5⟩
 self:=fun _ _ _ _ _ st h=>wpAny_pyIter_rangeiter st h
section
variable {X:Cx} {tg:Expr}
def iRev (ta:TA):TI:=fun σ H R=>ta σ H fun vs H1=>∃ j:Nat,vs = [.int j]/\(j:Int) < 2 ^ 62/\R (Itrr j) H1
theorem pi_rev {a:Expr} {ta:TA} {p p2 pos pos2:Pos} (hg:Gl X "range") (hm:X.mg "range" = none) (hg2:Gl X "reversed") (hm2:X.mg "reversed" = none) (ha:PA X [a] ta) (h1:isSt a = false:=by rfl) :
  PI X tg (.Call (.Name "reversed" p) [.Call (.Name "range" p2) [a] [] pos2] [] pos) (iRev ta):=by
 refine ⟨?_⟩
 intro pins s σ H R I h
 refine Call_ (ld_blt I hg2 hm2 boot_rev (PyProof.Rows.callWith_type1 ?_ (star_cons rfl) rfl))
 rw [star_cons (show isSt (.Call (.Name "range" p2) [a] [] pos2) = false from rfl)]
 show wpAny _ _ (spliced ((false,eval (.Call (.Name "range" p2) [a] [] pos2) X.env) :: backTo pos (starEach [] X.env))) _ _ s
 refine Calls.spliced_cons ?_
 refine Call_ (ld_blt I hg hm boot_range (PyProof.Rows.callWith_type1 (thn (ha pos2 pins s σ H _ I h) fun us s1 ⟨vs,H1,I1,r1,j,e,hj,q⟩=>?_) (star_cons h1) rfl))
 subst e
 cases r1 with
 | cons r rr=>
  cases rr
  obtain ⟨t,rfl⟩:=r
  refine call_range_1 (Calls.spliced_nil ?_)
  refine call_rev (IsRange.new ..) (by omega) hj ?_
  generalize hg1:s1.heap.push { cls:=.type "range",data:=.fields #[.int 0 s1.toks,.int j t,.int 1 (s1.toks + 1)] } = hh
  have k1:∀ b o,s1.heap.get? b = some o->hh.get? b = some o:=fun b o e=>by rw [<- hg1]; exact Heap.get?_push_of_some _ e
  have I2:Inv X pins σ H1 { s1 with heap:=hh,toks:=s1.toks + 1 + 1 }:=I1.kept k1
  have hit:IsRangeIter (hh.push (revIt j)) hh.objs.size ((j:Int) - 1) j (-1):=Heap.get?_push_size _ rfl
  refine wpAny_pyIter_rangeiter (s:={ s1 with heap:=hh.push (revIt j),toks:=s1.toks + 1 + 1 }) hit ?_
  have I3:Inv X pins σ H1 { s1 with heap:=hh.push (revIt j),toks:=s1.toks + 1 + 1 }:=I2.kept fun b o e=>Heap.get?_push_of_some _ e
  refine ⟨hh.objs.size,[hh.objs.size],_,_,H1,rfl,I3,turn_rev _ j,?_,fun b hb=>?_,q⟩
  ·show IsRangeIter _ _ (((j:Int) - 1) + ((0:Nat):Int) * (-1)) ((j:Int) - ((0:Nat):Int)) (-1)
   have e1:((j:Int) - 1) + ((0:Nat):Int) * (-1) = (j:Int) - 1:=by simp
   have e2:(j:Int) - ((0:Nat):Int) = j:=by simp
   rw [e1,e2]
   exact hit
  ·have e:b = hh.objs.size:=by simpa using hb
   subst e
   exact I2.fpOk (Nat.le_refl _) (I2.hok.fresh (Nat.le_refl _))
theorem for_rev {n:Nat} {g:TG} {tb:TS} {D:Ends} {σ : St} {H:Hp} (Pv:Nat->St->Hp->Prop) (h0:Pv 0 σ H)
  (hs:∀ i σ H,i < n->Pv i σ H->g (.int ((n:Int) - 1 - i)) σ H fun σ2 H2=>tb { D with nx:=Pv (i + 1),ct:=Pv (i + 1),bk:=D.nx } σ2 H2) (hd:∀ σ H,Pv n σ H->D.nx σ H) :
  ∃ W:Nat->Nat->St->Hp->Prop,(∃ m,W 0 m σ H)/\∀ i m σ H,W i m σ H->
   ((Itrr n).stop i H/\D.nx σ H)\/((Itrr n).go i H/\∃ N:St->Hp->Prop,(∀ σ' H',N σ' H'->∃ m',m' < m/\W (i + 1) m' σ' H')/\∀ x H',(Itrr n).yld i H x H'->g x σ H' fun σ2 H2=>tb { D with nx:=N,ct:=N,bk:=D.nx } σ2 H2):=by
 refine ⟨fun i m σ H=>m = n - i/\i<=n/\Pv i σ H,⟨n,by simp,Nat.zero_le _,h0⟩,?_⟩
 rintro i m σ H ⟨rfl,hi,p⟩
 by_cases hlt:i < n
 ·refine .inr ⟨hlt,Pv (i + 1),fun σ' H' p'=>⟨n - (i + 1),by omega,rfl,hlt,p'⟩,fun x H' y=>?_⟩
  obtain ⟨e,y⟩:=y
  subst e y
  exact hs i σ _ hlt p
 ·have e:i = n:=by omega
  subst e
  exact .inl ⟨Nat.le_refl _,hd σ H p⟩
end
section
variable {X:Cx} {o i:Expr} {to ti:TE} {pos tpos:Pos}
def rLen:R2:=fun x y H Q=>∃ (a c:Addr) (xs ys:List V),x = .ref a/\y = .ref c/\H a = some (.lst xs)/\H c = some (.lst ys)/\xs.length ≠ ys.length/\Q (.bl false) H
theorem op_eqLen (hu:X.A.units < cLine):OpR X (compareOp .Eq) rLen:=by
 intro pins s σ H x y v u Q I rx ry h
 obtain ⟨a,c,xs,ys,rfl,rfl,ha,hc,hn,q⟩:=h
 cases rx
 cases ry
 obtain ⟨its,r,pl,_⟩:=I.list (SqL.of ha)
 obtain ⟨its2,r2,pl2,_⟩:=I.list (SqL.of hc)
 have e1:=r.length
 have e2:=r2.length
 exact PySem.SeqAt.eq_list_lengthsAt pl.isList pl2.isList (by simp only [List.size_toArray,bne_iff_ne]; omega) hu ⟨.bl false,H,I,rfl,q⟩
end
section
variable {X:Cx} {pins:List (Addr × Obj)} {σ : St} {e:Expr} {te:TE} {pos p:Pos} {C:Addr} {x:Str}
end
theorem same_after {H H1:Hp} {x dx:Addr} {o1 o2:HO} (hx:H x = none) (hd:H dx = none) (s:Same (upd (upd H dx (.own x)) x o1) H1):Same H (upd H1 x o2):=fun b u q=>by
 rw [upd_ne (ne_of_none q hx)]
 exact s _ _ (same_make0 hx hd b u q)
structure Ctor (P:Program) (w:World) (K:PySem.W.Frag) (mg:Str->Option Value) (base:Heap) (CX:CXT) (k:Nat) (x:Str) (C i:Addr) (fd:FuncData) (ps:List Str) (ds:List Value) (sp:Sp):Prop where
 mkr:Mk K C i
 ok:FnOk P w K mg base CX k i fd ps sp
 mg:mg x = some (.ref C)
 bd:Binds K fd ps ds
section
variable {X:Cx} {CX:CXT} {k:Nat} {C i f:Addr} {fd:FuncData} {ps ks:List Str} {sp:Sp} {E:XK} {x m:Str} {p pos apos:Pos} {e:Expr} {es:List Expr} {t tk:TA} {ds:List Value} {dvs:List V} {kws:List Keyword}
 {g:List Value->List Value->List Value} {gV:List V->List V->List V}
theorem cMk (c:Ctor X.prog X.w X.K X.mg X.base CX k x C i fd ps ds sp) (hd:Vals dvs ds) (hp:Passes CX X E) (hr:Room (k + 1) X.A) (ha:PA X (e :: es) t) (hg:Gl X x:=by rfl) (hdb:(x == ("__debug__" : Str)) = false:=by decide)
  (h1:isSt e = false:=by rfl) (h2:es.any isSt = false:=by rfl):PE X (.Call (.Name x p) (e :: es) [] pos) (tMake C sp dvs E t):=pe_make c.mkr c.ok hr hg c.mg c.bd hd hp ha hdb (star_cons h1) (star_any h2)
structure ClsFn (K:PySem.W.Frag) (C:Addr) (m:Str) (f:Addr):Prop where
 ga:PySem.W.specialIn K (.ref C) "__getattribute__" = some (some (.builtin "type.__getattribute__"))
 rd:PySem.W.readsIn K C (.type "type") = true
 fc:PySem.W.findCls K (.ref C) (.type "type") m = some (.val (.ref f))
 kp:PySem.W.keepIn K (.ref f) = true
theorem pe_cm {pl:Sem Bool} (B:ClsFn X.K C m f) (hm:X.mg x = some (.ref C)) (F:FnOk X.prog X.w X.K X.mg X.base CX k f fd ps sp) (hr:Room k X.A) (hb:Binds X.K fd ps []) (hx:Passes CX X E) (ha:PA X (e :: es) t) (hg:Gl X x:=by rfl)
  (hdb:(x == ("__debug__" : Str)) = false:=by decide) (h1:isSt e = false:=by rfl) (h2:es.any isSt = false:=by rfl)
  (ht:eval (.Call (.Attribute (.Name x p) m apos) (e :: es) [] pos) X.env = (do
   let ov <- eval (.Name x p) X.env
   standAt apos.atName
   let (f,first) <- holding [ov] (getMethod ov m pl)
   callWith pos f first (backTo pos (starEach (e :: es) X.env)) (backToKw pos (keywordEach [] X.env))):=by rfl) :
  PE X (.Call (.Attribute (.Name x p) m apos) (e :: es) [] pos) (tCall sp [] E t):=by
 refine ⟨?_⟩
 intro pins s σ H Q I h
 refine PySem.W.methodCall_KW (pl:=pl) (ld_glob I hg hm ?_ hdb) ht
 refine PySem.W.method_cls I.kIn B.ga (PySem.W.cls_value I.kIn B.rd B.fc rfl ?_)
 have It:=I.tok (s.toks + 1)
 refine PySem.W.callWith_K (first:=[]) (h₀:=X.base) I.ok.mod.kin B.kp (thn (ha pos pins _ σ H _ It h) fun us s2 ⟨vs,H2,I2,r,q2⟩=>⟨I2.kIn,?_⟩) (star_cons h1) (star_any h2)
 exact run_fn F hr hb .nil hx I2 r q2
end
theorem ps_dead {X:Cx} {st:Stmt}:PS X st (fun _ _ _=>False):=⟨fun _ _ _ _ _ _ h=>h.elim⟩
def SetT (P:Program) (w:World) (a:Addr) (S:Str->Bool) (n:Nat) (h:Heap):Prop:=h.SetOf (strKind P w) a S n
abbrev setO (P:Program) (w:World) (a:Addr) (S:Str->Bool) (n:Nat):HO:=.ext (SetT P w a S n)
theorem setO_ok {P:Program} {w:World} {H:Hp} {h:Heap} {a:Addr} {S:Str->Bool} {n:Nat} (e:h.SetOf (strKind P w) a S n):ObjOk P w H h a (setO P w a S n):=
 ⟨e,let ⟨o,_,_,_,h1,_⟩:=e; ⟨o,h1⟩,fun g1 g2 q k=>let ⟨o,es,ep,t,h1,c⟩:=q; ⟨o,es,ep,t,k o h1,c⟩⟩
section
variable {X:Cx}
theorem call_set0:CallR X (.type "set") (fun xs H Q=>xs = []/\∀ p,H p = none->Q (.ref p) (upd H p (setO X.prog X.w p (fun _=>false) 0))):=by
 intro pins s σ H xs us Q I r h
 obtain ⟨rfl,q⟩:=h
 cases r
 refine call_set_0 fun led=>?_
 have hf:H s.heap.objs.size = none:=I.hok.fresh (Nat.le_refl _)
 refine ⟨.ref s.heap.objs.size,_,I.laid (t':=s.toks) (fun b u e=>Heap.get?_push_of_some _ e) (Nat.le_refl _) (setO_ok ?_),rfl,q _ hf⟩
 exact (setObjOf_fresh led).setOf (Heap.get?_push_size _ rfl) (by decide)
theorem op_in_setT:OpR X (compareOp .In) (fun x y H Q=>∃ (a:Addr) (S:Str->Bool) (n:Nat) (z:Str),x = .str z/\y = .ref a/\H a = some (setO X.prog X.w a S n)/\Q (.bl (S z)) H):=by
 intro pins s σ H x y v u Q I rx ry h
 obtain ⟨a,S,n,z,rfl,rfl,e,q⟩:=h
 obtain ⟨t,rfl⟩:=rx
 cases ry
 have hS:s.heap.SetOf (strKind X.prog X.w) a S n:=(I.hok a _ e).1
 exact wpAny_inSet_of (strKind_is X.prog X.w z t) rfl hS ⟨.bl (S z),H,I.tok _,rfl,q⟩
def tSAdd (P:Program) (w:World) (to te:TE):TE:=fun σ H Q=>to σ H fun x H1=>∃ (a:Addr) (S:Str->Bool) (n:Nat),x = .ref a/\H1 a = some (setO P w a S n)/\te σ H1 fun y H2=>∃ (S:Str->Bool) (n:Nat) (z:Str),y = .str z/\H2 a = some (setO P w a S n)/\n + 1 < scanBound/\
 Q .non (upd H2 a (setO P w a (fun k=>S k || decide (k = z)) (if S z then n else n + 1)))
theorem pe_sadd {o e:Expr} {apos cpos:Pos} {to te:TE} (ho:PE X o to) (he:PE X e te) (m:M1 X o "add" apos e cpos):PE X (.Call (.Attribute o "add" apos) [e] [] cpos) (tSAdd X.prog X.w to te):=by
 refine ⟨?_⟩
 intro pins s σ H Q I h
 refine wpAny_Call_method m.base m.few m.line PySem.F.plainAttrs_set PySem.F.slot_set_add PySem.F.type_set_add (thn (ho pins s σ H _ I h) fun u s1 ⟨x,H1,I1,rx,a,S,n,ex,d,q1⟩=>?_)
 subst ex
 obtain rfl:u = Value.ref a:=rx
 have hS:s1.heap.SetOf (strKind X.prog X.w) a S n:=(I1.hok a _ d).1
 refine ⟨hS.typeIs,hS.noDict,?_⟩
 rw [m.trees]
 refine Calls.callWith_builtin rfl (Calls.evalArgs_plain (Calls.spliced_cons (thn (he pins s1 σ H1 _ I1 q1) fun iv s2 ⟨y,H2,I2,ry,S2,n2,z,ey,e2,hn,q2⟩=>Calls.spliced_nil ?_)))
 subst ey
 obtain ⟨t,rfl⟩:=ry
 have hS2:s2.heap.SetOf (strKind X.prog X.w) a S2 n2:=(I2.hok a _ e2).1
 refine call_set_add (strKind_is X.prog X.w z t) rfl hS2 hn fun h' hs hS3=>⟨.non,_,?_,rfl,q2⟩
 refine I2.write (x:=a) (e:=a) (by rw [e2]; exact True.intro) (.inl rfl) (fun b q hb z=>(hs.2 b hb).trans z) (let ⟨o,_,_,_,h1,_⟩:=hS3; ⟨o,h1⟩) (setO_ok hS3)
def tMethP (Cs:Addr->Prop) (m:Str) (sp:Sp) (E:XK) (ta:TE):TE:=fun σ H Q=>ta σ H fun x H1=>∃ a C dx fs,x = .ref a/\Cs C/\H1 a = some (.ins C dx fs)/\fs.lookup m = none/\sp [x] H1 Q E
theorem pe_methP {CX:CXT} {k:Nat} {f:Addr} {fd:FuncData} {ps:List Str} {sp:Sp} {E:XK} {m:Str} {pos apos:Pos} {o:Expr} {ta:TE} {Cs:Addr->Prop} {pl:Sem Bool} (he:PE X o ta) (hC:∀ C,Cs C->Cls X.K C/\Meth X.K C m f) (F:FnOk X.prog X.w X.K X.mg X.base CX k f fd ps sp) (hr:Room k X.A) (hb:Binds X.K fd ps []) (hx:Passes CX X E)
  (ht:eval (.Call (.Attribute o m apos) [] [] pos) X.env = (do
   let ov <- eval o X.env
   standAt apos.atName
   let (f,first) <- holding [ov] (getMethod ov m pl)
   callWith pos f first (backTo pos (starEach [] X.env)) (backToKw pos (keywordEach [] X.env))):=by rfl) :
  PE X (.Call (.Attribute o m apos) [] [] pos) (tMethP Cs m sp E ta):=by
 refine ⟨?_⟩
 intro pins s σ H Q I h
 refine PySem.W.methodCall_KW (pl:=pl) (thn (he pins s σ H _ I h) fun u s1 ⟨x,H1,I1,rx,a,C,dx,fs,ex,hc,ea,l,q⟩=>?_) ht
 subst ex
 obtain rfl:u = Value.ref a:=rx
 obtain ⟨c,hm⟩:=hC C hc
 refine getmeth_ok I1 ea c hm l ?_
 exact PySem.W.callWith_K0 (first:=[.ref a]) I1.kIn hm.kp (run_fn (us:=[.ref a]) (vs:=[.ref a]) F hr hb .nil hx I1 (.cons rfl .nil) q)
structure KTab (w:World) (K:PySem.W.Frag) (a:Addr) (f:Str->Option V):Prop where
 obj:∃ es n,K.lookup a = some ⟨.type "dict",none,.dict es n,#[]⟩/\PySem.W.KeysLit w.params es.toList
 vals:∀ x v,f x = some v->∃ u,PySem.W.nsIn K a x = some (some u)/\RelV v u
theorem pe_kget {e:Expr} {d:Str} {p pos:Pos} {a:Addr} {f:Str->Option V} {te:TE} (T:KTab X.w X.K a f) (hm:X.mg d = some (.ref a)) (he:PE X e te) (hg:Gl X d:=by rfl) (hs:NoSl e:=by first | exact fun _ _=>rfl | decide | rfl) (hdb:(d == ("__debug__" : Str)) = false:=by decide) :
  PE X (.Subscript (.Name d p) e pos) (fun σ H Q=>te σ H fun y H1=>∃ x v,y = .str x/\f x = some v/\Q v H1):=by
 refine ⟨?_⟩
 intro pins s σ H Q I h
 obtain ⟨es,n,hl,hk⟩:=T.obj
 refine subD_of PySem.F.slot_dict_getitem.lookup hs (ld_glob I hg hm (thn (he pins s σ H _ I h) fun iv s2 ⟨y,H2,I2,ry,x,v,ey,ef,q2⟩=>?_) hdb)
 subst ey
 obtain ⟨t,rfl⟩:=ry
 obtain ⟨u,eu,ru⟩:=T.vals x v ef
 have hmap:=PySem.W.mapOf_K (prog:=X.prog) (w:=X.w) I2.kIn hl hk
 exact ⟨hmap.typeIs,wpAny_getItem_of (strKind_is X.prog X.w x t) hmap (PySem.W.find_K hl eu) ⟨v,H2,I2.tok _,ru,q2⟩⟩
end
section
variable {X:Cx} {pins:List (Addr × Obj)} {σ : St} {H:Hp} {s:Shared} {sc:Scope} {fr Nc:List Str} {fp:List Addr} {C:Addr}
theorem comp_startO {caps:List (Option Nat)} {h':Heap} {D:Addr} {m:Str->Option Value} {t':Nat} {o0:HO} (I:Inv X pins σ H s) (B:BlockOk X.env sc fr) (hf:∀ b ∈ fp,FpOk X pins H b) (ho:∀ b ∈ fp,∃ o,s.heap.get? b = some o)
  (hC:s.heap.objs.size<=C) (hD:s.heap.objs.size<=D) (hDC:D ≠ C) (keep:∀ b o,s.heap.get? b = some o->h'.get? b = some o) (new:ObjOk X.prog X.w (upd H D o0) h' D o0) (hn:h'.Ns C m)
  (hcap:capChk X.N Nc caps X.env sc fr = true) (hlen:caps.length = Nc.length) :
  Inv (compCx X pins sc fr Nc fp s H C) [] (capS caps σ) (upd H D o0) { s with heap:=h',toks:=t' }:=by
 have hk:X.env.scope.kind = .function:=I.ok.kind
 have fresh:∀ a,s.heap.objs.size<=a->H a = none:=fun a ha=>I.hok.fresh ha
 refine ⟨comp_ok I B hf ho hC,rfl,I.bare,Un.laid keep hD (fresh D hD),⟨m,hn,fun i x v e1 e2 e3=>?_⟩,fun x c h=>?_,?_,fun x c h=>?_,fun p hp=>?_,?_,?_⟩
 ·
  have e2':(caps[i]?).map (fun o=>match o with | none=>none | some j=>(σ[j]?).join) = some (some v):=by
   have:(capS caps σ)[i]? = some (some v):=e2
   unfold capS at this
   rw [List.getElem?_map] at this
   exact this
  cases hc:caps[i]? with
  | none=>rw [hc] at e2'; cases e2'
  | some o=>
   rw [hc] at e2'
   cases o with
   | none=>simp at e2'
   | some j=>
    have e4:(σ[j]?).join = some v:=by simpa using e2'
    have e5 : σ[j]? = some (some v):=by
     cases q : σ[j]? with
     | none=>rw [q] at e4; cases e4
     | some w'=>rw [q] at e4; simp at e4; rw [e4]
    have e6:(Nc.zip caps)[i]? = some (x,some j):=by
     rw [List.getElem?_zip_eq_some]
     exact ⟨e1,hc⟩
    have e7:=List.all_eq_true.mp hcap _ (List.mem_of_getElem? e6)
    simp only [Bool.and_eq_true,beq_iff_eq,List.contains_iff_mem] at e7
    obtain ⟨⟨⟨a1,a2⟩,a3⟩,a4⟩:=e7
    obtain ⟨m0,hn0,hl0⟩:=I.loc
    obtain ⟨u,r,l⟩:=hl0 j x v a1 e5 (.inr (.inl a2))
    refine ⟨u,r,.inr ⟨.inl (relabel_free hk a3 a2),_,clB_in a4,?_⟩⟩
    rcases l with ⟨z,_⟩ | ⟨_,c,ec,hcell⟩
    ·rw [a2] at z; cases z
    ·have:(X.env.cells.lookup x).getD 0 = c:=by rw [ec]; rfl
     rw [this]
     exact hcell.keeps keep
 ·obtain ⟨v,hv⟩:=I.cell x c (B.sub h)
  exact ⟨v,hv.keeps keep⟩
 ·show upd H D o0 C = none
  rw [upd_ne (Ne.symm hDC)]; exact fresh C hC
 ·obtain ⟨v,hv⟩:=I.cell x c (B.sub h)
  have:c ≠ D:=fun z=>by have:=hv.lt; rw [z] at this; exact absurd (Nat.lt_of_lt_of_le this hD) (Nat.lt_irrefl _)
  rw [upd_ne this]; exact I.freeC x c (B.sub h)
 ·have hp':p ∈ X.pn ++ pins:=by simpa using hp
  obtain ⟨e,n,ne,nf,d⟩:=I.pin p hp'
  have hlt:=I.pin_lt hp'
  refine ⟨keep _ _ e,?_,?_,fun z=>?_,d⟩
  ·rw [upd_ne (fun z=>by rw [z] at hlt; exact absurd (Nat.lt_of_lt_of_le hlt hD) (Nat.lt_irrefl _))]; exact n
  ·intro z
   have z':p.1 = C:=z
   rw [z'] at hlt; exact absurd (Nat.lt_of_lt_of_le hlt hC) (Nat.lt_irrefl _)
  ·rcases List.mem_cons.mp (I.stkSub p.1 z) with q | q
   ·exact ne q
   ·exact nf q
 ·exact I.hok.laid keep hD new
 ·show (capS caps σ).length = Nc.length
  unfold capS
  rw [List.length_map,hlen]
end
section
variable {prog:Program} {w:World} {A:Around} {R:Result->Shared->Prop} {s:Shared}
theorem compLoop_anyD {kx vx target iter:Expr} {ifs:List Expr} {scope:Scope} {pos:Pos} {it:Value} {D:Addr} {env:Env} (I:Nat->Shared->Prop)
  (turn:∀ n s,I n s->wpAny (model prog w) A (pyNext it) (fun r s₁=>match r with
   | none=>R (.ok .next) s₁
   | some v=>wpAny (model prog w) A (letOwnedTupleGo target it v) (fun _ s₀=>wpAny (model prog w) A (assign target env v) (fun _ s₂=>
     wpAny (model prog w) A (forIn ifs true fun c r=>if r = true then do let ok <- isTrue c env (eval c env); pure (ForInStep.yield ok) else pure (ForInStep.yield r)) (fun ok s₃=>
      if ok = true then wpAny (model prog w) A (eval kx env) (fun kv s₄=>wpAny (model prog w) A (eval vx env) (fun vv s₅=>
       wpAny (model prog w) A (dictSet D kv vv) (fun _ s₆=>∃ m,m < n/\I m s₆) (fun _ _=>False) s₅) (fun _ _=>False) s₄) (fun _ _=>False) s₃
      else ∃ m,m < n/\I m s₃) (fun _ _=>False) s₂) (fun _ _=>False) s₀) (fun _ _=>False) s₁) (fun _ _=>False) s)
  (n:Nat) (h:I n s) :
  codeAny (model prog w) A (.compLoop (.DictComp kx vx [⟨target,iter,ifs,0⟩] scope pos) 0 it (.ref D) env) R s:=by
 refine codeAny_loop rfl I (fun n s hI=>?_) n h
 show wpAny _ A ((compTurn (.DictComp kx vx [⟨target,iter,ifs,0⟩] scope pos) 0 it (.ref D) env).onRaise (fun x=>do noteFrame x env; theTreesLotGoes x)) _ _ s
 refine wpAny_noted ?_
 rw [compTurn_dict]
 refine wpAny_bind (wpAny_standAt (wpAny_bind (wpAny_mono (turn n s hI) (fun r s₁ h₁=>?_) fun _ _ z=>z.elim)))
 cases r with
 | none=>exact wpAny_pure h₁
 | some v=>
  refine wpAny_bind (wpAny_mono h₁ (fun _ s₀ h₀=>?_) fun _ _ z=>z.elim)
  refine wpAny_bind (wpAny_mono h₀ (fun _ s₂ h₂=>wpAny_bind (wpAny_mono h₂ (fun ok s₃ h₃=>?_) fun _ _ z=>z.elim)) fun _ _ z=>z.elim)
  cases ok with
  | false=>exact wpAny_pure ⟨rfl,h₃⟩
  | true=>
   exact wpAny_bind (wpAny_bind (wpAny_mono h₃ (fun kv s₄ h₄=>wpAny_bind (wpAny_holding (wpAny_mono h₄ (fun vv s₅ h₅=>wpAny_bind (wpAny_standAt (wpAny_holding (wpAny_mono h₅ (fun _ s₆ h₆=>wpAny_pure ⟨rfl,h₆⟩) fun _ _ z=>z.elim)))) fun _ _ z=>z.elim))) fun _ _ z=>z.elim))
end
def DCr (J:It) (caps:List (Option Nat)) (g:TG) (tt:TT) (tk tv:TE) (σ : St) (H1:Hp) (Q:VK) (D:Addr):Prop:=
 ∃ W:Nat->Nat->List (Key × V)->Hp->Prop,(∃ m,W 0 m [] (upd H1 D (.dK [])))/\∀ i m ys H,W i m ys H->
  (J.stop i H/\Q (.ref D) H)\/
  (J.go i H/\∀ x H',J.yld i H x H'->g x (capS caps σ) H' fun σ2 H2=>tt σ2 H2 fun ok H3=>
   (ok = true->tk σ2 H3 fun y H4=>tv σ2 H4 fun v H5=>∃ k,y = kV k/\H5 D = some (.dK ys)/\ys.length < sizeLine/\∃ m',m' < m/\W (i + 1) m' (putK ys k v) (upd H5 D (.dK (putK ys k v))))/\
   (ok = false->∃ m',m' < m/\W (i + 1) m' ys H3))
def tDC (wi:TI) (caps:List (Option Nat)) (g:TG) (tt:TT) (tk tv:TE):TE:=fun σ H Q=>wi σ H fun J H1=>∀ D,H1 D = none->DCr J caps g tt tk tv σ H1 Q D
section
variable {X:Cx} {pins:List (Addr × Obj)} {σ : St} {s:Shared} {sc:Scope} {fr Nc:List Str} {caps:List (Option Nat)} {kx vx tg iter:Expr} {ifs:List Expr} {g:TG} {tt:TT} {tk tv:TE} {ow:List Nat} {pos pos2:Pos} {E:Value->Shared->Prop}
theorem sysLt {H:Hp} (I:Inv X pins σ H s):sysModules < s.heap.objs.size:=I.big
theorem comp_runD {H2:Hp} {it:Addr} {fp:List Addr} {tn:Nat->Heap->Prop} {J:It} {Q:VK} {RR:Value->Addr->Result->Shared->Prop}
  (hc:X.calm = true) (B:BlockOk X.env sc fr) (go:GOwn g ow) (how:(ow.all fun i=>caps[i]? == some none) = true) (hcap:capChk X.N Nc caps X.env sc fr = true) (hlen:caps.length = Nc.length)
  (hb:∀ (pins:List (Addr × Obj)) (fp:List Addr) (s:Shared) (H:Hp) (C:Addr),PG (compCx X pins sc fr Nc fp s H C) tg g/\PIf (compCx X pins sc fr Nc fp s H C) ifs tt/\PE (compCx X pins sc fr Nc fp s H C) kx tk/\PE (compCx X pins sc fr Nc fp s H C) vx tv)
  (I2:Inv X pins σ H2 s) (T:Turn X.prog X.w X.K tg J fp it tn) (st2:tn 0 s.heap) (f2:∀ b ∈ fp,FpOk X pins H2 b) (h:∀ D,H2 D = none->DCr J caps g tt tk tv σ H2 Q D)
  (fin:∀ (D C:Addr) (σ':St) (H':Hp) (s':Shared),Inv (compCx X pins sc fr Nc fp s H2 C) [] σ' H' s'->Q (.ref D) H'->RR (.ref D) C (.ok .next) s') :
  wpAny (model X.prog X.w) X.A newDict (fun acc s₃=>wpAny (model X.prog X.w) X.A (newFunctionEnv sc X.env.globals (clB X.env fr) [] X.env.qual none .none (some X.env)) (fun cenv s₄=>
   codeAny (model X.prog X.w) X.A (.compStart (.DictComp kx vx [⟨tg,iter,ifs,0⟩] sc pos) 0 (.ref it) acc { cenv with scope:=relabel sc X.env }) (RR acc cenv.locals) s₄) E s₃) E s:=by
 have hcell:∀ y ∈ sc.names,y.2 ≠ .cell:=fun y hy=>by
  have h3:=List.all_eq_true.mp B.names _ hy
  simp only [Bool.and_eq_true,bne_iff_ne,ne_eq] at h3
  exact h3.1.1
 refine wpAny_newObj_type (wpAny_newFunctionEnv hcell (by intro y hy; simp at hy) (fun h₁ hns₁ hsb₁=>?_) B.kind)
 dsimp only at hns₁ hsb₁ |-
 have hnew:(s.heap.push { cls:=.type "dict",dict:=none,data:=.dict #[] }).DictOf (mixKind X.prog X.w) s.heap.objs.size []:=Heap.DictOf.new s.heap
 generalize hH2:s.heap.push { cls:=.type "dict",dict:=none,data:=.dict #[] } = H3 at hns₁ hsb₁ hnew |-
 have hCs:H3.objs.size = s.heap.objs.size + 1:=by rw [<- hH2,Heap.size_push]
 have hDC:s.heap.objs.size ≠ H3.objs.size:=by rw [hCs]; exact Nat.ne_of_lt (Nat.lt_succ_self _)
 have hC:s.heap.objs.size<=H3.objs.size:=by rw [hCs]; exact Nat.le_succ _
 have old:∀ b o,s.heap.get? b = some o->h₁.get? b = some o:=fun b o e=>
  hsb₁.extBut b o (Nat.ne_of_lt (Nat.lt_of_lt_of_le (Heap.lt_size e) hC)) (Heap.get?_push_of_some _ (hH2 ▸ Heap.get?_push_of_some _ e))
 have hsm:sysModules < s.heap.objs.size:=sysLt I2
 have hD:h₁.DictOf (mixKind X.prog X.w) s.heap.objs.size []:=hnew.at fun o e=>hsb₁.extBut _ _ hDC (Heap.get?_push_of_some _ e)
 have hDo:∀ H',ObjOk X.prog X.w H' h₁ s.heap.objs.size (.dK []):=fun _=>⟨Nat.zero_le _,beq_eq_false_iff_ne.mpr (Ne.symm (Nat.ne_of_lt hsm)),[],.nil,hD⟩
 have ho:∀ b ∈ fp,∃ o,s.heap.get? b = some o:=fun b hb'=>let ⟨o,e,_⟩:=T.obj 0 _ st2 b hb'; ⟨o,e⟩
 have I4:∀ t',Inv (compCx X pins sc fr Nc fp s H2 H3.objs.size) [] (capS caps σ) (upd H2 s.heap.objs.size (.dK [])) { s with heap:=h₁,toks:=t' }:=fun t'=>
  comp_startO I2 B f2 ho hC (Nat.le_refl _) hDC old (hDo _) hns₁ hcap hlen
 have ok:=(I4 0).ok
 obtain ⟨hbg,hbt,hbk,hbv⟩:=hb pins fp s H2 H3.objs.size
 obtain ⟨W,⟨m0,w0⟩,turn⟩:=h s.heap.objs.size (I2.hok.fresh (Nat.le_refl _))
 have stat:∀ {H':Hp},(∀ b ∈ fp,H' b = none)->∀ b ∈ fp,FpOk (compCx X pins sc fr Nc fp s H2 H3.objs.size) [] H' b:=fun hn b hb'=>
  ⟨hn b hb',(ok.exf b hb').1,ok.exfs b hb',.inl hb',(ok.exf b hb').2,fun p hp=>(f2 b hb').2.2.2.2.2 p (by simpa using hp)⟩
 have hfp0:∀ b ∈ fp,upd H2 s.heap.objs.size (.dK []) b = none:=fun b hb'=>by
  obtain ⟨o,e⟩:=ho b hb'
  rw [upd_ne (Nat.ne_of_lt (Heap.lt_size e))]
  exact (f2 b hb').1
 have loop:∀ s₃:Shared,s₃ = { s with heap:=h₁,toks:=s.toks + ([]:List (Str × Value)).length }->
   codeAny (model X.prog X.w) X.A (.compLoop (.DictComp kx vx [⟨tg,iter,ifs,0⟩] sc pos) 0 (.ref it) (.ref s.heap.objs.size) (compEnvC sc (clB X.env fr) H3.objs.size X.env)) (RR (.ref s.heap.objs.size) H3.objs.size) s₃:=by
  rintro s₃ rfl
  refine compLoop_anyD (fun n s'=>∃ i σ' H' ys,Inv (compCx X pins sc fr Nc fp s H2 H3.objs.size) [] σ' H' s'/\tn i s'.heap/\(∀ b ∈ fp,H' b = none)/\W i n ys H'/\
   (∀ (k:Nat) (v:V),(capS caps σ)[k]? = some (some v)->σ'[k]? = some (some v))) ?_ m0
   ⟨0,_,_,[],I4 _,T.keep _ _ _ st2 (fun b _ o e=>old b o e),hfp0,w0,fun _ _ e=>e⟩
  rintro n s3 ⟨i,σ3,H4,ys,I3,st3,fr3,w3,wk3⟩
  have I3':Inv (compCx X pins sc fr Nc fp s H2 H3.objs.size) [] (capS caps σ) H4 s3:=I3.weak (by rw [I3.len]; exact (I4 0).len) wk3
  rcases turn i n ys H4 w3 with ⟨stop,qn⟩ | ⟨gg,step⟩
  ·refine thn (T.done (compCx X pins sc fr Nc fp s H2 H3.objs.size) rfl rfl rfl hc i [] s3 _ H4 (fun _ _=>False) I3' (stat fr3) st3 stop) fun r s4 ⟨hr,I4'⟩=>?_
   subst hr
   exact fin _ _ _ _ _ I4' qn
  ·refine thn (T.item (compCx X pins sc fr Nc fp s H2 H3.objs.size) rfl rfl rfl hc i [] s3 _ H4 (fun _ _=>False) I3' (stat fr3) st3 gg) fun r s4 ⟨u,hr,h4⟩=>?_
   subst hr
   refine thn h4 fun _ s5 ⟨x,H5,I5,r5,y5,st5,fr5⟩=>?_
   have I5':=I5.pinned (stat fr5) (T.obj _ _ st5)
   refine thn (hbg _ s5 _ H5 x u _ I5' r5 (go _ _ _ _ (step x H5 y5))) fun _ s6 ⟨σ6,H6,I6,q6,l6,k6⟩=>?_
   have wk6:∀ (k:Nat) (v:V),(capS caps σ)[k]? = some (some v)->σ6[k]? = some (some v):=fun k v e=>by
    rw [k6 k fun hk=>?_]
    ·exact e
    ·have h1:=List.all_eq_true.mp how k hk
     have h2:caps[k]? = some none:=by simpa using h1
     unfold capS at e
     rw [List.getElem?_map,h2] at e
     cases e
   refine thn (hbt _ s6 σ6 H6 _ I6 q6) fun ok s7 ⟨H7,I7,q7⟩=>?_
   have again:∀ {H8:Hp} {s8:Shared} {ys':List (Key × V)},Inv (compCx X pins sc fr Nc fp s H2 H3.objs.size) ([] ++ pinsAt fp s5.heap) σ6 H8 s8->(∃ m',m' < n/\W (i + 1) m' ys' H8)->
     ∃ m,m < n/\∃ i σ' H' ys,Inv (compCx X pins sc fr Nc fp s H2 H3.objs.size) [] σ' H' s8/\tn i s8.heap/\(∀ b ∈ fp,H' b = none)/\W i m ys H'/\(∀ (k:Nat) (v:V),(capS caps σ)[k]? = some (some v)->σ'[k]? = some (some v)):=fun {H8 s8 ys'} I8 ⟨m',hm,w8⟩=>by
    refine ⟨m',hm,i + 1,σ6,H8,ys',I8.unpinned,T.keep _ _ _ st5 fun b hb' o e=>(I8.pin (b,o) (List.mem_append_right _ (List.mem_append_right _ (mem_pinsAt hb' e)))).1,fun b hb'=>?_,w8,wk6⟩
    obtain ⟨o,e,d⟩:=T.obj _ _ st5 b hb'
    exact (I8.pin (b,o) (List.mem_append_right _ (List.mem_append_right _ (mem_pinsAt hb' e)))).2.1
   cases ok with
   | false=>
    rw [if_neg Bool.false_ne_true]
    exact again I7 (q7.2 rfl)
   | true=>
    rw [if_pos rfl]
    refine thn (hbk _ s7 σ6 H7 _ I7 (q7.1 rfl)) fun uk s8 ⟨y,H8,I8,r8,q8⟩=>?_
    refine thn (hbv _ s8 σ6 H8 _ I8 q8) fun uv s9 ⟨v,H9,I9,r9,k,ey,hD9,hz,q9⟩=>?_
    subst ey
    obtain ⟨z,hd,vs,rel,dd⟩:=dk_of I9.hok hD9
    have hzs:vs.length<=sizeLine:=by rw [<- rel.length]; exact z
    have hl:(putK ys k v).length<=sizeLine:=by have:=length_putK ys k v; omega
    refine wpAny_dictSet_pairs (hsz:=hzs) (kV_is r8) dd fun h' dd' hs=>?_
    have he:∃ q,h'.get? s.heap.objs.size = some q:=let ⟨q,_,_,hq,_⟩:=dd'; ⟨q,hq⟩
    exact again (d_write I9 (by rw [hD9]; exact True.intro) hs he (dk_new hl hd (rel.put k r9) dd')) q9
 exact codeAny_compStart_dict (loop _ rfl) (T.self _ 0 _ _ _ (T.keep _ _ _ st2 (fun b _ o e=>old b o e)) (loop _ rfl))
theorem pe_dc {wi:TI} (fr Nc:List Str) (caps:List (Option Nat)) (hc:X.calm = true) (B:BlockOk X.env sc fr) (hi:PI X tg iter wi) (go:GOwn g ow) (how:(ow.all fun i=>caps[i]? == some none) = true)
  (hcap:capChk X.N Nc caps X.env sc fr = true) (hlen:caps.length = Nc.length)
  (hb:∀ (pins:List (Addr × Obj)) (fp:List Addr) (s:Shared) (H:Hp) (C:Addr),PG (compCx X pins sc fr Nc fp s H C) tg g/\PIf (compCx X pins sc fr Nc fp s H C) ifs tt/\PE (compCx X pins sc fr Nc fp s H C) kx tk/\PE (compCx X pins sc fr Nc fp s H C) vx tv)
  (hs:∀ x,foldedSetIterable iter X.env x = pure x:=by intro _; rfl):PE X (.DictComp kx vx [⟨tg,iter,ifs,0⟩] sc pos) (tDC wi caps g tt tk tv):=by
 refine ⟨?_⟩
 intro pins s σ H Q I h
 rw [arm_eval_DictComp]
 refine wpAny_comprehension_free (use:=none) rfl hs B.clos B.kind B.loc (thn (hi pins s σ H _ I h) fun v s1 h1=>thn h1 fun itv s2 h2=>?_)
 obtain ⟨it,fp,tn,J,H2,e,I2,T,st2,f2,q⟩:=h2
 subst e
 refine comp_runD (RR:=fun acc C=>compPost (model X.prog X.w) X.A X.xe none (EP X pins σ Q) acc C) hc B go how hcap hlen hb I2 T st2 f2 q ?_
 intro D C σ' H' s' J' qq
 obtain ⟨m,hn,_⟩:=J'.loc
 exact ⟨m,hn,fun h' hs'=>⟨.ref D,H',comp_gone I2 J' (comp_back I2 f2 J') hs',rfl,qq⟩⟩
end
def eqT (xs ys:List V):Bool:=((List.range (min xs.length ys.length)).all fun j=>eqV (xs[j]?.getD .non) (ys[j]?.getD .non)) && xs.length == ys.length
end L2
namespace K32
open PySem L2 PyProof.Rows
def top (i:Nat):Stmt:=PySem.Challenge.pw_callbinds_k32_mends_lead.main.body.getD i (.Pass ⟨0,0,0,0⟩)
abbrev sIs:Stmt:=top 25
abbrev sPInit:Stmt:=inClass (top 41) 0
abbrev sFree:Stmt:=inClass (top 41) 1
abbrev sByPlace:Stmt:=inClass (top 41) 2
abbrev sByName:Stmt:=inClass (top 41) 3
abbrev sTakes:Stmt:=inClass (top 41) 4
abbrev sTold:Stmt:=inClass (top 41) 5
abbrev sSeat:Stmt:=inClass (top 42) 0
abbrev sBoth:Stmt:=inClass (top 43) 0
abbrev sTail:Stmt:=inClass (top 44) 0
abbrev sTag:Stmt:=inClass (top 45) 0
abbrev sBag:Stmt:=inClass (top 46) 0
abbrev sFInit:Stmt:=inClass (top 31) 0
abbrev sKeep:Stmt:=inClass (top 31) 1
abbrev sFPars:Stmt:=inClass (top 31) 2
abbrev sFBars:Stmt:=inClass (top 31) 3
abbrev sFPlaces:Stmt:=inClass (top 31) 4
abbrev sFTail:Stmt:=inClass (top 31) 5
abbrev sFBag:Stmt:=inClass (top 31) 6
abbrev sFNum:Stmt:=inClass (top 31) 7
abbrev sFTold:Stmt:=inClass (top 31) 8
abbrev sPof:Stmt:=top 47
abbrev sRMany:Stmt:=top 32
abbrev sROrder:Stmt:=top 33
abbrev sRBars:Stmt:=top 34
abbrev sRTwice:Stmt:=top 35
abbrev sNumW:Stmt:=top 36
abbrev sLaid:Stmt:=top 1
abbrev sShape:Stmt:=top 9
abbrev sFirsts:Stmt:=top 10
abbrev sMOf:Stmt:=top 11
abbrev sOvers:Stmt:=top 12
abbrev sUnw:Stmt:=top 13
abbrev sLack:Stmt:=top 14
abbrev sOneE:Stmt:=top 15
abbrev sFewest:Stmt:=top 16
abbrev sNearest:Stmt:=top 18
abbrev sMends:Stmt:=top 19
abbrev sWanted:Stmt:=top 20
abbrev sMTo:Stmt:=top 21
abbrev sNth:Stmt:=top 49
abbrev sNum:Stmt:=top 50
abbrev sMix:Stmt:=top 51
abbrev sPool:Stmt:=top 52
abbrev sSpecs:Stmt:=top 53
abbrev sBars:Stmt:=top 54
abbrev sThing:Stmt:=top 55
abbrev sItems:Stmt:=top 56
abbrev sLaid2:Stmt:=top 57
abbrev sLFits:Stmt:=top 58
abbrev sTurned:Stmt:=top 59
abbrev sIsCh:Stmt:=top 60
abbrev sHanded:Stmt:=top 61
abbrev sLaw:Stmt:=top 62
def low (c:Nat):Bool:=decide (97<=c) && decide (c<=122)
def nameB (z:Str):Bool:=decide (1<=z.length) && decide (z.length<=8) && z.cps.toList.all low
def nmV:V->Bool
 | .str z=>nameB z
 | _=>false
def OkS (z:Str):Prop:=z.length<=1000/\∀ c ∈ z.cps.toList,c < 128
def OkV (K:PySem.W.Frag) (H:Hp) (x:V):Prop:=(∃ z,x = .str z/\OkS z)\/(nmV x = false/\∃ t,TyOf K H x t/\PySem.W.kitOne K t (.type "str") = some false)
theorem nameB_iff {z:Str}:nameB z = true ↔ 1<=z.length/\z.length<=8/\∀ c ∈ z.cps.toList,97<=c/\c<=122:=by
 unfold nameB low
 simp only [Bool.and_eq_true,decide_eq_true_eq,List.all_eq_true]
 constructor
 ·rintro ⟨⟨a,b⟩,c⟩; exact ⟨a,b,c⟩
 ·rintro ⟨a,b,c⟩; exact ⟨⟨a,b⟩,c⟩
theorem nameB_long {z:Str} (h:z.length = 0\/9<=z.length):nameB z = false:=by
 cases e:nameB z with
 | false=>rfl
 | true=>
  have:=nameB_iff.mp e
  omega
theorem nameB_ok {z:Str} (h:nameB z = true):OkS z:=by
 obtain ⟨_,h2,h3⟩:=nameB_iff.mp h
 exact ⟨by omega,fun c hc=>by have:=h3 c hc; omega⟩
def letters:Str:="abcdefghijklmnopqrstuvwxyz"
theorem letters_in:∀ c:Nat,c < 128->(!(Builtin.Str.occurrences letters ⟨#[c]⟩ 0 letters.length 1).isEmpty) = low c:=by decide +kernel
theorem same_new {H:Hp} {p:Addr} (h:H p = none) (o:HO):Same H (upd H p o):=fun b u q=>by rw [upd_ne (ne_of_none q h)]; exact q
theorem tyOf_same {K:PySem.W.Frag} {H H':Hp} {x:V} {t:Value} (s:Same H H') (h:TyOf K H x t):TyOf K H' x t:=by
 cases h with
 | non=>exact .non
 | bl b=>exact .bl b
 | int i=>exact .int i
 | str z=>exact .str z
 | flt z=>exact .flt z
 | lst e=>exact .lst (s _ _ e)
 | frz e=>exact .frz (s _ _ e)
 | tup e=>exact .tup (s _ _ e)
 | dK e=>exact .dK (s _ _ e)
 | dT e=>exact .dT (s _ _ e)
 | ins e a b c d f=>exact .ins (s _ _ e) a b c d f
theorem OkV.same {K:PySem.W.Frag} {H H':Hp} {x:V} (s:Same H H') (h:OkV K H x):OkV K H' x:=by
 rcases h with h | ⟨h,t,ty,e⟩
 ·exact .inl h
 ·exact .inr ⟨h,t,tyOf_same s ty,e⟩
theorem nd1:([Str.ofString "sign"]:List Str).Nodup:=by decide +kernel
def spIs (K:PySem.W.Frag):Sp:=fun vs H Q _=>∃ x,vs = [x]/\OkV K H x/\∀ H',Same H H'->Q (.bl (nmV x)) H'
structure Txt1 (K:PySem.W.Frag) (mg:Str->Option Value):Prop where
 isi:mg "isinstance" = none
 str:mg "str" = none
 bool:mg "bool" = none
 len:mg "len" = none
 all:mg "all" = none
 range:mg "range" = none
 letters:∃ t,mg "LETTERS" = some (.str letters t)
 longest:∃ t,mg "LONGEST" = some (.int 8 t)
 kNon:PySem.W.kitOne K (.type "NoneType") (.type "str") = some false
 kInt:PySem.W.kitOne K (.type "int") (.type "str") = some false
 kBl:PySem.W.kitOne K (.type "bool") (.type "str") = some false
 kLst:PySem.W.kitOne K (.type "list") (.type "str") = some false
 kTup:PySem.W.kitOne K (.type "tuple") (.type "str") = some false
 kDct:PySem.W.kitOne K (.type "dict") (.type "str") = some false
 kStr:PySem.W.kitOne K (.type "str") (.type "str") = some true
 bBl:PySem.W.kitOne K (.type "bool") (.type "bool") = some true
section
variable {P:Program} {w:World} {K:PySem.W.Frag} {mg:Str->Option Value} {base:Heap} {f:Addr} {fd:FuncData}
theorem scIs:FnScope ["thing"] ["thing"] (defScope sIs):=⟨rfl,rfl,rfl,by decide +kernel,rfl,by decide +kernel,by decide +kernel⟩
theorem ok_is (F:Fun K "is_name" "is_name" sIs f fd) (T:Txt1 K mg):FnOk P w K mg base CX0 1 f fd ["thing"] (spIs K):=by
 refine F.ok scIs (fun vs H Q E h=>?_) (fun cdv A outer s H vs Q E hr h=>?_)
 ·obtain ⟨x,rfl,_⟩:=h
  rfl
 obtain ⟨x,rfl,hx,q⟩:=h
 obtain ⟨tL,hL⟩:=T.letters
 obtain ⟨tN,hN⟩:=T.longest
 refine ⟨_,pss_cons (ps_if (PW.pt (pw_or (pt_not (pt_val (cB call_isinst T.isi boot_isinstance (ac (pv 0) (ac (pe_bltn (v:=.ty "str") rfl T.str PyProof.Rows.boot_str rfl) pa_nil)))))
   (pw_or1 (pt_not (pt_chain op_le op_le pe_int (cB call_len_str T.len PySem.boot_len (ac (pv 0) pa_nil)) (pe_glob (v:=.int 8) rfl hN ⟨_,rfl⟩))))))
   (pss_one (ps_ret pe_bl)) pss_nil)
  (pss_one (ps_ret (cB (call_allB rfl) T.all boot_all (ac (pe_lc [] ["sign"] [none] rfl ⟨rfl,rfl,rfl,rfl⟩ (pi_str (pv 0)) (gown_name 0) rfl rfl rfl
   (fun pins fp s H C=>⟨pg_name (i:=0) nd1 rfl (Or.inl rfl) (.inr rfl),pif_nil,pe_cmpR op_in_str (pv 0) (pe_glob (v:=.str letters) rfl hL ⟨_,rfl⟩) (by with_unfolding_all rfl)⟩)) pa_nil)))),?_⟩
 rcases hx with ⟨z,rfl,hz1,hz2⟩ | ⟨hn,t,ty,e⟩
 ·refine ⟨_,rfl,_,_,_,_,rfl,.str z,T.kStr,_,rfl,?_⟩
  refine iteF ?_
  refine ⟨_,rfl,z,rfl,Nat.le_trans hz1 (by decide),_,_,rfl,rfl,_,rfl,?_⟩
  have no:nameB z = false->Q (.bl false) H:=fun e=>by
   have:=q H (Same.refl H)
   have e':nmV (.str z) = false:=e
   rw [e'] at this
   exact this
  refine ite2 (fun c=>?_) (fun c=>?_)
  ·have c':(1:Int)<=(z.length:Int):=of_decide_eq_true c
   refine ⟨_,_,rfl,rfl,_,rfl,?_⟩
   by_cases h8:(z.length:Int)<=8
   ·rw [decide_eq_true h8]
    refine iteF ?_
    refine ⟨_,rfl,z,rfl,fun D hD=>?_⟩
    refine ⟨fun i m ys H'=>i<=z.cps.size/\m = z.cps.size - i/\ys = (z.cps.toList.take i).map (fun c=>V.bl (low c))/\H' = upd H D (.lst ys),⟨_,Nat.zero_le _,rfl,rfl,rfl⟩,?_⟩
    rintro i m ys H' ⟨hi,rfl,rfl,rfl⟩
    by_cases he:i = z.cps.size
    ·subst he
     refine .inl ⟨Nat.le_refl _,?_⟩
     refine ⟨D,z.cps.toList.map low,rfl,SqL.of ?_,?_⟩
     ·rw [upd_same,List.take_of_length_le (by simp),List.map_map]
      rfl
     ·have e:(z.cps.toList.map low).all id = nmV (.str z):=by
       show _ = nameB z
       unfold nameB
       rw [decide_eq_true (show 1<=z.length by omega),decide_eq_true (show z.length<=8 by omega),List.all_map]
       rfl
      rw [e]
      exact q _ (same_new hD _)
    ·refine .inr ⟨by show i < z.cps.size; omega,?_⟩
     rintro x H' ⟨rfl,c,hc,rfl⟩
     refine ⟨fun _=>?_,fun e=>Bool.noConfusion e⟩
     refine ⟨_,rfl,_,_,rfl,rfl,upd_same,?_,z.cps.size - (i + 1),by omega,by omega,rfl,?_,?_⟩
     ·rw [List.length_map,List.length_take]
      have:z.cps.size<=1000:=hz1
      exact small1000 (by omega)
     ·have hc':z.cps.toList[i]? = some c:=by simpa using hc
      have hlow:=letters_in c (hz2 c (List.mem_of_getElem? hc'))
      rw [hlow,List.take_add_one,hc',List.map_append]
      rfl
     ·rw [upd_upd]
   ·rw [decide_eq_false h8]
    refine iteT ?_
    exact no (nameB_long (.inr (by omega)))
  ·have c':¬ (1:Int)<=(z.length:Int):=of_decide_eq_false (Bool.eq_false_iff.mpr c)
   refine ⟨_,rfl,?_⟩
   exact iteT (no (nameB_long (.inl (by omega))))
 ·refine ⟨_,rfl,_,_,_,_,rfl,ty,e,_,rfl,?_⟩
  refine iteT ?_
  refine iteT ?_
  have:=q H (Same.refl H)
  rw [hn] at this
  exact this
end
theorem dT {A B:Prop} {c:Prop} [Decidable c] (h:c) (a:A):if decide c = true then A else B:=by rw [decide_eq_true h]; exact iteT a
theorem dF {A B:Prop} {c:Prop} [Decidable c] (h:¬ c) (b:B):if decide c = true then A else B:=by rw [decide_eq_false h]; exact iteF b
def kw:Nat->Str
 | 0=>"seat" | 1=>"both" | 2=>"tail" | 3=>"tag" | _=>"bag"
def rowV (k:Nat) (x:V) (b:Bool):List V:=match k with
 | 0=>[.str "seat",x,.bl b] | 1=>[.str "both",x,.bl b] | 2=>[.str "tail",x] | 3=>[.str "tag",x,.bl b] | _=>[.str "bag",x]
def fr (k:Nat) (b:Bool):Bool:=match k with
 | 0=>b | 1=>b | 2=>true | 3=>b | _=>true
theorem lt5 {k:Nat} (h:k < 5):k = 0\/k = 1\/k = 2\/k = 3\/k = 4:=by omega
def pf (wd:Str) (x:V) (b:Bool):List (Str × V):=putF "may_lack" (.bl b) (putF "name" x (putF "word" (.str wd) []))
theorem pf_word {wd:Str} {x:V} {b:Bool}:(pf wd x b).lookup ("word" : Str) = some (.str wd):=by
 unfold pf
 rw [lookup_putF,if_neg (by decide +kernel),lookup_putF,if_neg (by decide +kernel),lookup_putF,if_pos rfl]
theorem pf_name {wd:Str} {x:V} {b:Bool}:(pf wd x b).lookup ("name" : Str) = some x:=by
 unfold pf
 rw [lookup_putF,if_neg (by decide +kernel),lookup_putF,if_pos rfl]
theorem pf_lack {wd:Str} {x:V} {b:Bool}:(pf wd x b).lookup ("may_lack" : Str) = some (.bl b):=by
 unfold pf
 rw [lookup_putF,if_pos rfl]
theorem pf_no {wd:Str} {x:V} {b:Bool} {m:Str} (h1:¬ m = "may_lack") (h2:¬ m = "name") (h3:¬ m = "word"):(pf wd x b).lookup m = none:=by
 unfold pf
 rw [lookup_putF,if_neg h1,lookup_putF,if_neg h2,lookup_putF,if_neg h3]
 rfl
structure MA where
 (fF fP fB fT fO:Addr)
structure PC (K:PySem.W.Frag) (m:MA) (C:Addr):Prop where
 cl:Cls K C
 nW:NoAttr K C "word"
 nN:NoAttr K C "name"
 nM:NoAttr K C "may_lack"
 mF:Meth K C "free" m.fF
 mP:Meth K C "by_place" m.fP
 mB:Meth K C "by_name" m.fB
 mT:Meth K C "takes_one" m.fT
 mO:Meth K C "told" m.fO
def spP (K:PySem.W.Frag) (m:MA):Sp:=fun vs H Q _=>∃ (p dx C:Addr) (wd:Str) (x:V) (b:Bool),vs = [.ref p,.str wd,x,.bl b]/\H p = some (.ins C dx [])/\PC K m C/\OkV K H x/\nmV x = true/\∀ H1,Same H H1->Q .non (upd H1 p (.ins C dx (pf wd x b)))
def spS (K:PySem.W.Frag) (C:Addr) (wd:Str):Sp:=fun vs H Q _=>∃ (p dx:Addr) (x:V) (b:Bool),vs = [.ref p,x,.bl b]/\H p = some (.ins C dx [])/\OkV K H x/\nmV x = true/\∀ H1,Same H H1->Q .non (upd H1 p (.ins C dx (pf wd x b)))
def spT (K:PySem.W.Frag) (C:Addr) (wd:Str):Sp:=fun vs H Q _=>∃ (p dx:Addr) (x:V),vs = [.ref p,x]/\H p = some (.ins C dx [])/\OkV K H x/\nmV x = true/\∀ H1,Same H H1->Q .non (upd H1 p (.ins C dx (pf wd x true)))
def bpL:List V:=[.str "seat",.str "both"]
def bnL:List V:=[.str "both",.str "tag"]
def otL:List V:=[.str "seat",.str "both",.str "tag"]
def spFree (K:PySem.W.Frag) (m:MA):Sp:=fun vs H Q _=>∃ (p dx C:Addr) (wd:Str) (x:V) (b:Bool),vs = [.ref p]/\PC K m C/\H p = some (.ins C dx (pf wd x b))/\Q (.bl b) H
def spIn (K:PySem.W.Frag) (m:MA) (l:List V):Sp:=fun vs H Q _=>∃ (p dx C:Addr) (wd:Str) (x:V) (b:Bool),vs = [.ref p]/\PC K m C/\H p = some (.ins C dx (pf wd x b))/\Q (.bl (inV (.str wd) l)) H
structure Wds (K:PySem.W.Frag) (mg:Str->Option Value) (tP tB tO:Addr):Prop where
 mP:mg "BY_PLACE" = some (.ref tP)
 mB:mg "BY_NAME" = some (.ref tB)
 mO:mg "OF_ONE_THING" = some (.ref tO)
 hP:∀ H,SqT K H tP bpL
 hB:∀ H,SqT K H tB bnL
 hO:∀ H,SqT K H tO otL
section
variable {P:Program} {w:World} {K:PySem.W.Frag} {mg:Str->Option Value} {base:Heap} {f C tP tB tO:Addr} {fd:FuncData} {m:MA}
theorem scPInit:FnScope ["self","word","name","may_lack"] ["self","word","name","may_lack"] (defScope sPInit):=⟨rfl,rfl,rfl,by decide +kernel,rfl,by decide +kernel,by decide +kernel⟩
theorem ok_pinit {g:Addr} {gd:FuncData} (F:Fun K "__init__" "Parameter.__init__" sPInit f fd) (cI:Callee P w K mg base 1 "is_name" g gd ["thing"] (spIs K)) :
  FnOk P w K mg base CX0 2 f fd ["self","word","name","may_lack"] (spP K m):=by
 refine F.ok scPInit (fun vs H Q E h=>?_) (fun cdv A outer s H vs Q E hr h=>?_)
 ·obtain ⟨p,dx,C,wd,x,b,rfl,_⟩:=h
  rfl
 obtain ⟨p,dx,C,wd,x,b,rfl,hp,c,hx,q1,q2⟩:=h
 refine ⟨_,pss_cons (ps_if (pt_not (pt_val (cF cI hr (ac (pv 2) pa_nil)))) (pss_one ps_dead) pss_nil)
  (pss_cons (ps_fld (pv 0) (pv 1) rfl) (pss_cons (ps_fld (pv 0) (pv 2) rfl) (pss_one (ps_fld (pv 0) (pv 3) rfl)))),?_⟩
 refine ⟨_,rfl,x,rfl,hx,fun H1 s1=>⟨_,rfl,?_⟩⟩
 rw [q1]
 refine iteF ?_
 refine ⟨_,rfl,_,rfl,p,C,dx,[],rfl,s1 _ _ hp,c.cl,c.nW,(by show 0 < 1000; decide),?_⟩
 refine ⟨_,rfl,_,rfl,p,C,dx,_,rfl,upd_same,c.cl,c.nN,(by show 1 < 1000; decide),?_⟩
 refine ⟨_,rfl,_,rfl,p,C,dx,_,rfl,upd_same,c.cl,c.nM,(by show 2 < 1000; decide),?_⟩
 rw [upd_upd,upd_upd]
 exact q2 _ s1
theorem scSeat:FnScope ["self","name","free"] ["self","name","free"] (defScope sSeat):=⟨rfl,rfl,rfl,by decide +kernel,rfl,by decide +kernel,by decide +kernel⟩
theorem ok_seat {g D:Addr} {gd:FuncData} {ds:List Value} (F:FunD K "__init__" "Seat.__init__" sSeat f fd ds) (c:PC K m C) (B:ClsFn K D "__init__" g) (mD:mg "Parameter" = some (.ref D)) (G:FnOk P w K mg base CX0 2 g gd ["self","word","name","may_lack"] (spP K m)) (bg:Binds K gd ["self","word","name","may_lack"] []) :
  FnOk P w K mg base CX0 3 f fd ["self","name","free"] (spS K C "seat"):=by
 refine F.ok scSeat (fun vs H Q E h=>?_) (fun cdv A outer s H vs Q E hr h=>?_)
 ·obtain ⟨p,dx,x,b,rfl,_⟩:=h
  rfl
 obtain ⟨p,dx,x,b,rfl,hp,hx,q1,q2⟩:=h
 refine ⟨_,pss_one (ps_expr (pe_cm B mD G hr bg pass0 (ac (pv 0) (ac pe_str (ac (pv 1) (ac (pv 2) pa_nil)))))),?_⟩
 exact ⟨_,rfl,_,rfl,_,rfl,p,dx,C,_,x,b,rfl,hp,c,hx,q1,q2⟩
theorem scBoth:FnScope ["self","name","free"] ["self","name","free"] (defScope sBoth):=⟨rfl,rfl,rfl,by decide +kernel,rfl,by decide +kernel,by decide +kernel⟩
theorem ok_both {g D:Addr} {gd:FuncData} {ds:List Value} (F:FunD K "__init__" "Both.__init__" sBoth f fd ds) (c:PC K m C) (B:ClsFn K D "__init__" g) (mD:mg "Parameter" = some (.ref D)) (G:FnOk P w K mg base CX0 2 g gd ["self","word","name","may_lack"] (spP K m)) (bg:Binds K gd ["self","word","name","may_lack"] []) :
  FnOk P w K mg base CX0 3 f fd ["self","name","free"] (spS K C "both"):=by
 refine F.ok scBoth (fun vs H Q E h=>?_) (fun cdv A outer s H vs Q E hr h=>?_)
 ·obtain ⟨p,dx,x,b,rfl,_⟩:=h
  rfl
 obtain ⟨p,dx,x,b,rfl,hp,hx,q1,q2⟩:=h
 refine ⟨_,pss_one (ps_expr (pe_cm B mD G hr bg pass0 (ac (pv 0) (ac pe_str (ac (pv 1) (ac (pv 2) pa_nil)))))),?_⟩
 exact ⟨_,rfl,_,rfl,_,rfl,p,dx,C,_,x,b,rfl,hp,c,hx,q1,q2⟩
theorem scTag:FnScope ["self","name","free"] ["self","name","free"] (defScope sTag):=⟨rfl,rfl,rfl,by decide +kernel,rfl,by decide +kernel,by decide +kernel⟩
theorem ok_tag {g D:Addr} {gd:FuncData} {ds:List Value} (F:FunD K "__init__" "Tag.__init__" sTag f fd ds) (c:PC K m C) (B:ClsFn K D "__init__" g) (mD:mg "Parameter" = some (.ref D)) (G:FnOk P w K mg base CX0 2 g gd ["self","word","name","may_lack"] (spP K m)) (bg:Binds K gd ["self","word","name","may_lack"] []) :
  FnOk P w K mg base CX0 3 f fd ["self","name","free"] (spS K C "tag"):=by
 refine F.ok scTag (fun vs H Q E h=>?_) (fun cdv A outer s H vs Q E hr h=>?_)
 ·obtain ⟨p,dx,x,b,rfl,_⟩:=h
  rfl
 obtain ⟨p,dx,x,b,rfl,hp,hx,q1,q2⟩:=h
 refine ⟨_,pss_one (ps_expr (pe_cm B mD G hr bg pass0 (ac (pv 0) (ac pe_str (ac (pv 1) (ac (pv 2) pa_nil)))))),?_⟩
 exact ⟨_,rfl,_,rfl,_,rfl,p,dx,C,_,x,b,rfl,hp,c,hx,q1,q2⟩
theorem scTail:FnScope ["self","name"] ["self","name"] (defScope sTail):=⟨rfl,rfl,rfl,by decide +kernel,rfl,by decide +kernel,by decide +kernel⟩
theorem ok_tail {g D:Addr} {gd:FuncData} (F:Fun K "__init__" "Tail.__init__" sTail f fd) (c:PC K m C) (B:ClsFn K D "__init__" g) (mD:mg "Parameter" = some (.ref D)) (G:FnOk P w K mg base CX0 2 g gd ["self","word","name","may_lack"] (spP K m)) (bg:Binds K gd ["self","word","name","may_lack"] []) :
  FnOk P w K mg base CX0 3 f fd ["self","name"] (spT K C "tail"):=by
 refine F.ok scTail (fun vs H Q E h=>?_) (fun cdv A outer s H vs Q E hr h=>?_)
 ·obtain ⟨p,dx,x,rfl,_⟩:=h
  rfl
 obtain ⟨p,dx,x,rfl,hp,hx,q1,q2⟩:=h
 refine ⟨_,pss_one (ps_expr (pe_cm B mD G hr bg pass0 (ac (pv 0) (ac pe_str (ac (pv 1) (ac pe_bl pa_nil)))))),?_⟩
 exact ⟨_,rfl,_,rfl,p,dx,C,_,x,true,rfl,hp,c,hx,q1,q2⟩
theorem scBag:FnScope ["self","name"] ["self","name"] (defScope sBag):=⟨rfl,rfl,rfl,by decide +kernel,rfl,by decide +kernel,by decide +kernel⟩
theorem ok_bag {g D:Addr} {gd:FuncData} (F:Fun K "__init__" "Bag.__init__" sBag f fd) (c:PC K m C) (B:ClsFn K D "__init__" g) (mD:mg "Parameter" = some (.ref D)) (G:FnOk P w K mg base CX0 2 g gd ["self","word","name","may_lack"] (spP K m)) (bg:Binds K gd ["self","word","name","may_lack"] []) :
  FnOk P w K mg base CX0 3 f fd ["self","name"] (spT K C "bag"):=by
 refine F.ok scBag (fun vs H Q E h=>?_) (fun cdv A outer s H vs Q E hr h=>?_)
 ·obtain ⟨p,dx,x,rfl,_⟩:=h
  rfl
 obtain ⟨p,dx,x,rfl,hp,hx,q1,q2⟩:=h
 refine ⟨_,pss_one (ps_expr (pe_cm B mD G hr bg pass0 (ac (pv 0) (ac pe_str (ac (pv 1) (ac pe_bl pa_nil)))))),?_⟩
 exact ⟨_,rfl,_,rfl,p,dx,C,_,x,true,rfl,hp,c,hx,q1,q2⟩
theorem scFree:FnScope ["self"] ["self"] (defScope sFree):=⟨rfl,rfl,rfl,by decide +kernel,rfl,by decide +kernel,by decide +kernel⟩
theorem ok_free (F:Fun K "free" "Parameter.free" sFree f fd):FnOk P w K mg base CX0 1 f fd ["self"] (spFree K m):=by
 refine F.ok scFree (fun vs H Q E h=>?_) (fun cdv A outer s H vs Q E hr h=>?_)
 ·obtain ⟨p,dx,C,wd,x,b,rfl,_⟩:=h
  rfl
 obtain ⟨p,dx,C,wd,x,b,rfl,c,hp,q⟩:=h
 refine ⟨_,pss_one (ps_ret (pe_fld (pv 0) rfl)),?_⟩
 exact ⟨_,rfl,p,C,dx,_,_,rfl,hp,c.cl,c.nM,pf_lack,q⟩
theorem scByPlace:FnScope ["self"] ["self"] (defScope sByPlace):=⟨rfl,rfl,rfl,by decide +kernel,rfl,by decide +kernel,by decide +kernel⟩
theorem ok_by_place (F:Fun K "by_place" "Parameter.by_place" sByPlace f fd) (Wd:Wds K mg tP tB tO):FnOk P w K mg base CX0 1 f fd ["self"] (spIn K m bpL):=by
 refine F.ok scByPlace (fun vs H Q E h=>?_) (fun cdv A outer s H vs Q E hr h=>?_)
 ·obtain ⟨p,dx,C,wd,x,b,rfl,_⟩:=h
  rfl
 obtain ⟨p,dx,C,wd,x,b,rfl,c,hp,q⟩:=h
 refine ⟨_,pss_one (ps_ret (pe_cmpR op_in_seq (pe_fld (pv 0) rfl) (pe_glob (v:=.ref tP) rfl Wd.mP rfl) (by with_unfolding_all rfl))),?_⟩
 exact ⟨_,rfl,p,C,dx,_,_,rfl,hp,c.cl,c.nW,pf_word,tP,bpL,rfl,.inr (Wd.hP H),rfl,(by decide),q⟩
theorem scByName:FnScope ["self"] ["self"] (defScope sByName):=⟨rfl,rfl,rfl,by decide +kernel,rfl,by decide +kernel,by decide +kernel⟩
theorem ok_by_name (F:Fun K "by_name" "Parameter.by_name" sByName f fd) (Wd:Wds K mg tP tB tO):FnOk P w K mg base CX0 1 f fd ["self"] (spIn K m bnL):=by
 refine F.ok scByName (fun vs H Q E h=>?_) (fun cdv A outer s H vs Q E hr h=>?_)
 ·obtain ⟨p,dx,C,wd,x,b,rfl,_⟩:=h
  rfl
 obtain ⟨p,dx,C,wd,x,b,rfl,c,hp,q⟩:=h
 refine ⟨_,pss_one (ps_ret (pe_cmpR op_in_seq (pe_fld (pv 0) rfl) (pe_glob (v:=.ref tB) rfl Wd.mB rfl) (by with_unfolding_all rfl))),?_⟩
 exact ⟨_,rfl,p,C,dx,_,_,rfl,hp,c.cl,c.nW,pf_word,tB,bnL,rfl,.inr (Wd.hB H),rfl,(by decide),q⟩
end
structure C5 where
 (c0 c1 c2 c3 c4:Addr)
def C5.at (c:C5):Nat->Addr
 | 0=>c.c0 | 1=>c.c1 | 2=>c.c2 | 3=>c.c3 | _=>c.c4
structure Ctors (P:Program) (w:World) (K:PySem.W.Frag) (mg:Str->Option Value) (base:Heap) (c:C5) (i0 i1 i2 i3 i4:Addr) (d0 d1 d2 d3 d4:FuncData):Prop where
 k0:Ctor P w K mg base CX0 3 "Seat" c.c0 i0 d0 ["self","name","free"] [] (spS K c.c0 "seat")
 k1:Ctor P w K mg base CX0 3 "Both" c.c1 i1 d1 ["self","name","free"] [] (spS K c.c1 "both")
 k2:Ctor P w K mg base CX0 3 "Tail" c.c2 i2 d2 ["self","name"] [] (spT K c.c2 "tail")
 k3:Ctor P w K mg base CX0 3 "Tag" c.c3 i3 d3 ["self","name","free"] [] (spS K c.c3 "tag")
 k4:Ctor P w K mg base CX0 3 "Bag" c.c4 i4 d4 ["self","name"] [] (spT K c.c4 "bag")
def Res (c:C5) (H:Hp) (k:Nat) (x:V) (b:Bool) (Q:VK):Prop:=
 nmV x = true/\∀ (o dx:Addr) (H':Hp),Same H H'->H' o = some (.ins (c.at k) dx (pf (kw k) x (fr k b)))->Q (.ref o) H'
def spPof (K:PySem.W.Frag) (c:C5):Sp:=fun vs H Q _=>∃ (p:Addr) (k:Nat) (x:V) (b:Bool),vs = [.ref p]/\k < 5/\H p = some (.tup (rowV k x b))/\OkV K H x/\Res c H k x b Q
theorem ne10:¬ (V.str "both" = V.str "seat"):=by decide +kernel
theorem ne20:¬ (V.str "tail" = V.str "seat"):=by decide +kernel
theorem ne21:¬ (V.str "tail" = V.str "both"):=by decide +kernel
theorem ne30:¬ (V.str "tag" = V.str "seat"):=by decide +kernel
theorem ne31:¬ (V.str "tag" = V.str "both"):=by decide +kernel
theorem ne32:¬ (V.str "tag" = V.str "tail"):=by decide +kernel
theorem ne40:¬ (V.str "bag" = V.str "seat"):=by decide +kernel
theorem ne41:¬ (V.str "bag" = V.str "both"):=by decide +kernel
theorem ne42:¬ (V.str "bag" = V.str "tail"):=by decide +kernel
theorem ne43:¬ (V.str "bag" = V.str "tag"):=by decide +kernel
section
variable {P:Program} {w:World} {K:PySem.W.Frag} {mg:Str->Option Value} {base:Heap} {f i0 i1 i2 i3 i4:Addr} {fd d0 d1 d2 d3 d4:FuncData} {c:C5}
theorem lk_0 {x:V} {k:Nat} {b:Bool} (h:k < 5):atI (rowV k x b) 0 = some (.str (kw k)):=by rcases lt5 h with rfl | rfl | rfl | rfl | rfl <;> rfl
theorem scPof:FnScope ["told","word"] ["told"] (defScope sPof):=⟨rfl,rfl,rfl,by decide +kernel,rfl,by decide +kernel,by decide +kernel⟩
theorem ok_pof (F:Fun K "parameter_of" "parameter_of" sPof f fd) (U:Ctors P w K mg base c i0 i1 i2 i3 i4 d0 d1 d2 d3 d4):FnOk P w K mg base CX0 5 f fd ["told"] (spPof K c):=by
 refine F.ok scPof (fun vs H Q E h=>?_) (fun cdv A outer s H vs Q E hr h=>?_)
 ·obtain ⟨p,k,x,b,rfl,_⟩:=h
  rfl
 obtain ⟨p,k,x,b,rfl,hk,hp,hx,r1,r2⟩:=h
 refine ⟨_,pss_cons (ps_set (i:=1) scPof.nd rfl (Or.inl rfl) (pe_ix ix_tup (pv 0) pe_int (fun _ _=>rfl)))
  (pss_cons (ps_if (pt_cmpR op_eq (pv 1) pe_str (nomark _)) (pss_one (ps_ret (cMk U.k0 .nil pass0 hr (ac (pe_ix ix_tup (pv 0) pe_int (fun _ _=>rfl)) (ac (pe_ix ix_tup (pv 0) pe_int (fun _ _=>rfl)) pa_nil))))) pss_nil)
  (pss_cons (ps_if (pt_cmpR op_eq (pv 1) pe_str (nomark _)) (pss_one (ps_ret (cMk U.k1 .nil pass0 hr (ac (pe_ix ix_tup (pv 0) pe_int (fun _ _=>rfl)) (ac (pe_ix ix_tup (pv 0) pe_int (fun _ _=>rfl)) pa_nil))))) pss_nil)
  (pss_cons (ps_if (pt_cmpR op_eq (pv 1) pe_str (nomark _)) (pss_one (ps_ret (cMk U.k2 .nil pass0 hr (ac (pe_ix ix_tup (pv 0) pe_int (fun _ _=>rfl)) pa_nil)))) pss_nil)
  (pss_cons (ps_if (pt_cmpR op_eq (pv 1) pe_str (nomark _)) (pss_one (ps_ret (cMk U.k3 .nil pass0 hr (ac (pe_ix ix_tup (pv 0) pe_int (fun _ _=>rfl)) (ac (pe_ix ix_tup (pv 0) pe_int (fun _ _=>rfl)) pa_nil))))) pss_nil)
  (pss_one (ps_ret (cMk U.k4 .nil pass0 hr (ac (pe_ix ix_tup (pv 0) pe_int (fun _ _=>rfl)) pa_nil)))))))),?_⟩
 refine ⟨_,rfl,p,_,_,.str (kw k),rfl,rfl,SqT.of hp,lk_0 hk,?_⟩
 rcases lt5 hk with rfl | rfl | rfl | rfl | rfl
 ·have hS:SqT K H p _:=SqT.of hp
  refine ⟨_,rfl,rfl,_,rfl,?_⟩
  refine dT rfl ?_
  exact ⟨_,rfl,p,_,_,x,rfl,rfl,hS,rfl,_,rfl,p,_,_,.bl b,rfl,rfl,hS,rfl,fun o dx ho hdx ne=>⟨o,dx,x,b,rfl,upd_same,hx.same (same_make0 ho hdx),r1,fun H1 s1=>⟨rfl,r2 o dx _ (same_after ho hdx s1) upd_same⟩⟩⟩
 ·have hS:SqT K H p _:=SqT.of hp
  refine ⟨_,rfl,rfl,_,rfl,?_⟩
  refine dF ne10 ?_
  refine ⟨_,rfl,rfl,_,rfl,?_⟩
  refine dT rfl ?_
  exact ⟨_,rfl,p,_,_,x,rfl,rfl,hS,rfl,_,rfl,p,_,_,.bl b,rfl,rfl,hS,rfl,fun o dx ho hdx ne=>⟨o,dx,x,b,rfl,upd_same,hx.same (same_make0 ho hdx),r1,fun H1 s1=>⟨rfl,r2 o dx _ (same_after ho hdx s1) upd_same⟩⟩⟩
 ·have hS:SqT K H p _:=SqT.of hp
  refine ⟨_,rfl,rfl,_,rfl,?_⟩
  refine dF ne20 ?_
  refine ⟨_,rfl,rfl,_,rfl,?_⟩
  refine dF ne21 ?_
  refine ⟨_,rfl,rfl,_,rfl,?_⟩
  refine dT rfl ?_
  exact ⟨_,rfl,p,_,_,x,rfl,rfl,hS,rfl,fun o dx ho hdx ne=>⟨o,dx,x,rfl,upd_same,hx.same (same_make0 ho hdx),r1,fun H1 s1=>⟨rfl,r2 o dx _ (same_after ho hdx s1) upd_same⟩⟩⟩
 ·have hS:SqT K H p _:=SqT.of hp
  refine ⟨_,rfl,rfl,_,rfl,?_⟩
  refine dF ne30 ?_
  refine ⟨_,rfl,rfl,_,rfl,?_⟩
  refine dF ne31 ?_
  refine ⟨_,rfl,rfl,_,rfl,?_⟩
  refine dF ne32 ?_
  refine ⟨_,rfl,rfl,_,rfl,?_⟩
  refine dT rfl ?_
  exact ⟨_,rfl,p,_,_,x,rfl,rfl,hS,rfl,_,rfl,p,_,_,.bl b,rfl,rfl,hS,rfl,fun o dx ho hdx ne=>⟨o,dx,x,b,rfl,upd_same,hx.same (same_make0 ho hdx),r1,fun H1 s1=>⟨rfl,r2 o dx _ (same_after ho hdx s1) upd_same⟩⟩⟩
 ·have hS:SqT K H p _:=SqT.of hp
  refine ⟨_,rfl,rfl,_,rfl,?_⟩
  refine dF ne40 ?_
  refine ⟨_,rfl,rfl,_,rfl,?_⟩
  refine dF ne41 ?_
  refine ⟨_,rfl,rfl,_,rfl,?_⟩
  refine dF ne42 ?_
  refine ⟨_,rfl,rfl,_,rfl,?_⟩
  refine dF ne43 ?_
  exact ⟨_,rfl,p,_,_,x,rfl,rfl,hS,rfl,fun o dx ho hdx ne=>⟨o,dx,x,rfl,upd_same,hx.same (same_make0 ho hdx),r1,fun H1 s1=>⟨rfl,r2 o dx _ (same_after ho hdx s1) upd_same⟩⟩⟩
end
end K32
namespace L2
open PySem PySem.Spec PyProof.Rows
def dcN (n i:Nat) (D:Addr) (Pv:Nat->List (Key × V)->Hp->Prop) (ys:List (Key × V)) (y:V):VK:=fun v H5=>∃ k,y = kV k/\H5 D = some (.dK ys)/\ys.length < sizeLine/\∃ m',m' < n - i/\m' = n - (i + 1)/\i + 1<=n/\Pv (i + 1) (putK ys k v) (upd H5 D (.dK (putK ys k v)))
def dcS (n i:Nat) (Pv:Nat->List (Key × V)->Hp->Prop) (ys:List (Key × V)) (H4:Hp):Prop:=∃ m',m' < n - i/\m' = n - (i + 1)/\i + 1<=n/\Pv (i + 1) ys H4
theorem dcN.mk {n i:Nat} {D:Addr} {Pv:Nat->List (Key × V)->Hp->Prop} {ys:List (Key × V)} {y v:V} {H5:Hp} (k:Key) (hi:i < n) (ek:y = kV k) (hn:n<=sizeLine) (hD:H5 D = some (.dK ys)) (hy:ys.length<=i) (p:Pv (i + 1) (putK ys k v) (upd H5 D (.dK (putK ys k v)))):dcN n i D Pv ys y v H5:=
 ⟨k,ek,hD,by omega,n - (i + 1),by omega,rfl,hi,p⟩
theorem dcS.mk {n i:Nat} {Pv:Nat->List (Key × V)->Hp->Prop} {ys:List (Key × V)} {H4:Hp} (hi:i < n) (p:Pv (i + 1) ys H4):dcS n i Pv ys H4:=⟨n - (i + 1),by omega,rfl,hi,p⟩
theorem dc_enum {K:PySem.W.Frag} {a:Addr} {xs:List V} {caps:List (Option Nat)} {g:TG} {tt:TT} {tk tv:TE} {σ : St} {H1:Hp} {Q:VK} {D:Addr} (Pv:Nat->List (Key × V)->Hp->Prop) (h0:Pv 0 [] (upd H1 D (.dK [])))
  (hl:∀ i ys H,Pv i ys H->SqL K H a xs)
  (hs:∀ i x p ys H,i < xs.length->xs[i]? = some x->Pv i ys H->H p = none->g (.ref p) (capS caps σ) (upd H p (.tup [.int i,x])) fun σ2 H2=>tt σ2 H2 fun ok H3=>(ok = true->tk σ2 H3 fun y H4=>tv σ2 H4 (dcN xs.length i D Pv ys y))/\(ok = false->dcS xs.length i Pv ys H3))
  (hd:∀ ys H,Pv xs.length ys H->Q (.ref D) H):DCr (Ite K a) caps g tt tk tv σ H1 Q D:=by
 refine ⟨fun i m ys H=>m = xs.length - i/\i<=xs.length/\Pv i ys H,⟨xs.length,by simp,Nat.zero_le _,h0⟩,?_⟩
 rintro i m ys H ⟨rfl,hi,p⟩
 have q:=hl i ys H p
 by_cases hlt:i < xs.length
 ·refine .inr ⟨⟨xs,xs[i],q,by simp [hlt]⟩,fun x H' y=>?_⟩
  obtain ⟨pp,y,rfl,hp,y2,rfl⟩:=y
  exact hs i y pp ys H hlt (y2 xs q) p hp
 ·have e:i = xs.length:=by omega
  subst e
  exact .inl ⟨⟨xs,q,Nat.le_refl _⟩,hd ys H p⟩
end L2
namespace K32
open PySem L2 PyProof.Rows
structure Rw where
 (k:Nat) (z:Str) (b:Bool)
def Rw.ok (r:Rw):Prop:=r.k < 5/\nameB r.z = true
abbrev rv (r:Rw):List V:=rowV r.k (.str r.z) r.b
abbrev pr (r:Rw):List (Str × V):=pf (kw r.k) (.str r.z) (fr r.k r.b)
def PAt (c:C5) (H:Hp) (p:Addr) (r:Rw):Prop:=∃ dx,H p = some (.ins (c.at r.k) dx (pr r))
def byPl (k:Nat):Bool:=k == 0 || k == 1
def byNm (k:Nat):Bool:=k == 1 || k == 3
theorem in_pl:∀ k:Nat,k < 5->inV (.str (kw k)) bpL = byPl k:=by decide +kernel
theorem in_nm:∀ k:Nat,k < 5->inV (.str (kw k)) bnL = byNm k:=by decide +kernel
def grp:Nat->Nat
 | 0=>0 | 1=>0 | 2=>1 | 3=>2 | _=>3
def badAt (l g:Nat):Bool:=decide (g < l) || (g == l && (g == 1 || g == 3))
def ordOk:Nat->List Rw->Bool
 | _,[]=>true
 | l,r :: rs=>!badAt l (grp r.k) && ordOk (grp r.k) rs
def nms (rows:List Rw):List Str:=(rows.filter fun r=>byNm r.k).map (·.z)
structure Valid (rows:List Rw) (bars:List Str):Prop where
 ok:∀ r ∈ rows,r.ok
 l24:rows.length<=24
 l60:bars.length<=60
 ord:ordOk 0 rows = true
 bn:∀ z ∈ bars,nameB z = true
 nd:(nms rows ++ bars).Nodup
def firstK (kk:Nat):Nat->List Rw->Option Nat
 | _,[]=>none
 | i,r :: rs=>if r.k = kk then some i else firstK kk (i + 1) rs
def numV:Option Nat->V
 | none=>.non
 | some i=>.int i
def doorsF:Nat->List (Key × V)->List Rw->List (Key × V)
 | _,acc,[]=>acc
 | i,acc,r :: rs=>doorsF (i + 1) (if byNm r.k = true then putK acc (.inr r.z) (.int i) else acc) rs
def plN (rows:List Rw):Nat:=(rows.filter fun r=>byPl r.k).length
def attrs:List Str:=["row","bar_names","place_count","tail_number","bag_number","doors"]
structure FF (fs:List (Str × V)) (lr lb ld:Addr) (rows:List Rw):Prop where
 row:fs.lookup ("row" : Str) = some (.ref lr)
 bn:fs.lookup ("bar_names" : Str) = some (.ref lb)
 pc:fs.lookup ("place_count" : Str) = some (.int (plN rows))
 tn:fs.lookup ("tail_number" : Str) = some (numV (firstK 2 0 rows))
 bg:fs.lookup ("bag_number" : Str) = some (numV (firstK 4 0 rows))
 dr:fs.lookup ("doors" : Str) = some (.ref ld)
 no:∀ m,m ∉ attrs->fs.lookup m = none
def FormAt (c:C5) (CF:Addr) (H:Hp) (f:Addr) (rows:List Rw) (bars:List Str):Prop:=
 ∃ dx fs lr lb ld ps,H f = some (.ins CF dx fs)/\FF fs lr lb ld rows/\H lr = some (.lst (ps.map V.ref))/\Paired (PAt c H) ps rows/\H lb = some (.lst (bars.map V.str))/\H ld = some (.dK (doorsF 0 [] rows))
section
variable {c:C5} {CF f p:Addr} {H H':Hp} {rows:List Rw} {bars:List Str} {r:Rw} {ps:List Addr}
theorem PAt.same (h:PAt c H p r) (s:Same H H'):PAt c H' p r:=h.imp fun _=>s _ _
theorem pats_same (s:Same H H') (h:Paired (PAt c H) ps rows):Paired (PAt c H') ps rows:=Paired.imp' (fun _ _ z=>z.same s) h
theorem FormAt.same (h:FormAt c CF H f rows bars) (s:Same H H'):FormAt c CF H' f rows bars:=by
 obtain ⟨dx,fs,lr,lb,ld,ps,h1,h2,h3,h4,h5,h6⟩:=h
 exact ⟨dx,fs,lr,lb,ld,ps,s _ _ h1,h2,s _ _ h3,pats_same s h4,s _ _ h5,s _ _ h6⟩
def FormN (c:C5) (CF:Addr) (H H':Hp) (f:Addr) (rows:List Rw) (bars:List Str):Prop:=
 ∃ dx fs lr lb ld ps,H' f = some (.ins CF dx fs)/\FF fs lr lb ld rows/\H' lr = some (.lst (ps.map V.ref))/\Paired (PAt c H') ps rows/\H' lb = some (.lst (bars.map V.str))/\H' ld = some (.dK (doorsF 0 [] rows))/\H lr = none/\H lb = none
theorem FormN.of {H0:Hp} (h:FormN c CF H H' f rows bars) (s:Same H0 H):FormN c CF H0 H' f rows bars:=by
 obtain ⟨dx,fs,lr,lb,ld,ps,h1,h2,h3,h4,h5,h6,h7,h8⟩:=h
 exact ⟨dx,fs,lr,lb,ld,ps,h1,h2,h3,h4,h5,h6,s.free h7,s.free h8⟩
theorem paired_at {α β : Type} {R : α->β->Prop} {xs:List α} {ys:List β} (h:Paired R xs ys):∀ {i:Nat} {x : α},xs[i]? = some x->∃ y,ys[i]? = some y/\R x y:=by
 induction h with
 | nil=>intro i x e; simp at e
 | cons r t ih=>
  intro i x e
  cases i with
  | zero=>exact ⟨_,rfl,by simp at e; exact e ▸ r⟩
  | succ i=>simpa using ih (by simpa using e)
end
def grpV (x:Str):Option V:=([(("seat" : Str),V.int 0),("both",.int 0),("tail",.int 1),("tag",.int 2),("bag",.int 3)]:List (Str × V)).lookup x
theorem grpV_kw:∀ k:Nat,k < 5->grpV (kw k) = some (.int (grp k)):=by decide +kernel
theorem grp_lt (k:Nat):grp k < 4:=by unfold grp; split <;> decide
structure TxtF (w:World) (K:PySem.W.Frag) (mg:Str->Option Value) (G sg:Addr):Prop where
 len:mg "len" = none
 en:mg "enumerate" = none
 lst:mg "list" = none
 set:mg "set" = none
 mp:∃ t,mg "MOST_PARAMETERS" = some (.int 24 t)
 mb:∃ t,mg "MOST_BARS" = some (.int 60 t)
 mgr:mg "GROUPS" = some (.ref G)
 gt:KTab w K G grpV
 ms:mg "SINGLE_GROUPS" = some (.ref sg)
 hs:∀ H,SqT K H sg [.int 1,.int 3]
def Cs5 (c:C5):Addr->Prop:=fun C=>∃ k,k < 5/\C = c.at k
def spMany (K:PySem.W.Frag):Sp:=fun vs H Q _=>∃ (a b:Addr) (xs ys:List V),vs = [.ref a,.ref b]/\SqL K H a xs/\SqL K H b ys/\xs.length<=24/\ys.length<=60/\Q .non H
def spOrd (c:C5):Sp:=fun vs H Q _=>∃ (a:Addr) (ps:List Addr) (rows:List Rw),vs = [.ref a]/\H a = some (.lst (ps.map V.ref))/\Paired (PAt c H) ps rows/\(∀ r ∈ rows,r.ok)/\ordOk 0 rows = true/\∀ H',Same H H'->Q .non H'
def spRB:Sp:=fun vs H Q _=>∃ (b:Addr) (bars:List Str),vs = [.ref b]/\H b = some (.lst (bars.map V.str))/\(∀ z ∈ bars,nameB z = true)/\∀ H',Same H H'->Q .non H'
def spTw (c:C5):Sp:=fun vs H Q _=>∃ (a b:Addr) (ps:List Addr) (rows:List Rw) (bars:List Str),vs = [.ref a,.ref b]/\H a = some (.lst (ps.map V.ref))/\Paired (PAt c H) ps rows/\(∀ r ∈ rows,r.ok)/\rows.length<=500/\H b = some (.lst (bars.map V.str))/\bars.length<=500/\(nms rows ++ bars).Nodup/\∀ H',Same H H'->Q .non H'
def spNW (c:C5):Sp:=fun vs H Q _=>∃ (a:Addr) (ps:List Addr) (rows:List Rw) (kk:Nat),vs = [.ref a,.str (kw kk)]/\kk < 5/\H a = some (.lst (ps.map V.ref))/\Paired (PAt c H) ps rows/\(∀ r ∈ rows,r.ok)/\∀ H',Same H H'->Q (numV (firstK kk 0 rows)) H'
theorem kw_inj:∀ i:Nat,i < 5->∀ k:Nat,k < 5->decide (V.str (kw k) = V.str (kw i)) = (k == i):=by decide +kernel
theorem drop_at {α : Type} {xs:List α} {i:Nat} {x : α} (h:xs[i]? = some x):xs.drop i = x :: xs.drop (i + 1):=by
 have hi:i < xs.length:=(List.getElem?_eq_some_iff.mp h).1
 rw [List.drop_eq_getElem_cons hi]
 rw [List.getElem?_eq_getElem hi] at h
 rw [Option.some.inj h]
theorem refs_at {ps:List Addr} {i:Nat} {x:V} (h:(ps.map V.ref)[i]? = some x):∃ p,ps[i]? = some p/\x = .ref p:=by
 rw [List.getElem?_map] at h
 cases e:ps[i]? with
 | none=>rw [e] at h; cases h
 | some p=>rw [e] at h; exact ⟨p,rfl,(Option.some.inj h).symm⟩
theorem strs_at {zs:List Str} {i:Nat} {x:V} (h:(zs.map V.str)[i]? = some x):∃ z,zs[i]? = some z/\x = .str z:=by
 rw [List.getElem?_map] at h
 cases e:zs[i]? with
 | none=>rw [e] at h; cases h
 | some p=>rw [e] at h; exact ⟨p,rfl,(Option.some.inj h).symm⟩
section
variable {P:Program} {w:World} {K:PySem.W.Frag} {mg:Str->Option Value} {base:Heap} {f G sg:Addr} {fd:FuncData} {c:C5} {m:MA}
def Pcs (K:PySem.W.Frag) (m:MA) (c:C5):Prop:=∀ k,k < 5->PC K m (c.at k)
theorem scRMany:FnScope ["parameters","bars"] ["parameters","bars"] (defScope sRMany):=⟨rfl,rfl,rfl,by decide +kernel,rfl,by decide +kernel,by decide +kernel⟩
theorem ok_many (F:Fun K "refuse_too_many" "refuse_too_many" sRMany f fd) (T:TxtF w K mg G sg):FnOk P w K mg base CX0 1 f fd ["parameters","bars"] (spMany K):=by
 refine F.ok scRMany (fun vs H Q E h=>?_) (fun cdv A outer s H vs Q E hr h=>?_)
 ·obtain ⟨a,b,xs,ys,rfl,_⟩:=h
  rfl
 obtain ⟨a,b,xs,ys,rfl,ha,hb,l1,l2,q⟩:=h
 obtain ⟨t1,m1⟩:=T.mp
 obtain ⟨t2,m2⟩:=T.mb
 refine ⟨_,pss_cons (ps_if (pt_cmpR op_gt (cB call_len_seq T.len PySem.boot_len (ac (pv 0) pa_nil)) (pe_glob (v:=.int 24) rfl m1 ⟨_,rfl⟩) (nomark _)) (pss_one ps_dead) pss_nil)
  (pss_one (ps_if (pt_cmpR op_gt (cB call_len_seq T.len PySem.boot_len (ac (pv 1) pa_nil)) (pe_glob (v:=.int 60) rfl m2 ⟨_,rfl⟩) (nomark _)) (pss_one ps_dead) pss_nil)),?_⟩
 refine ⟨_,rfl,a,_,rfl,.inl ha,_,_,rfl,rfl,_,rfl,?_⟩
 refine dF (by show ¬ (24:Int) < (xs.length:Int); omega) ?_
 refine ⟨_,rfl,b,_,rfl,.inl hb,_,_,rfl,rfl,_,rfl,?_⟩
 exact dF (by show ¬ (60:Int) < (ys.length:Int); omega) q
theorem scROrder:FnScope ["parameters","last","at","parameter","group"] ["parameters"] (defScope sROrder):=⟨rfl,rfl,rfl,by decide +kernel,rfl,by decide +kernel,by decide +kernel⟩
theorem ok_order (F:Fun K "refuse_bad_order" "refuse_bad_order" sROrder f fd) (T:TxtF w K mg G sg) (PP:Pcs K m c):FnOk P w K mg base CX0 1 f fd ["parameters"] (spOrd c):=by
 refine F.ok scROrder (fun vs H Q E h=>?_) (fun cdv A outer s H vs Q E hr h=>?_)
 ·obtain ⟨a,ps,rows,rfl,_⟩:=h
  rfl
 obtain ⟨a,ps,rows,rfl,ha,hp,hok,ho,q⟩:=h
 refine ⟨_,pss_cons (ps_set (i:=1) scROrder.nd rfl (Or.inl rfl) pe_int)
  (pss_one (ps_for PassesOwn.never rfl (pi_enum rfl T.en (ac (pv 0) pa_nil)) (pg_tup rfl (pgs_cons (pg_name (i:=2) scROrder.nd rfl (Or.inl rfl)) (pgs_cons (pg_name (i:=3) scROrder.nd rfl (Or.inl rfl)) pgs_nil)))
   (pss_cons (ps_set (i:=4) scROrder.nd rfl (Or.inl rfl) (pe_kget T.gt T.mgr (pe_fld (pv 3) rfl)))
   (pss_cons (ps_if (PW.pt (pw_or (pt_cmpR op_lt (pv 4) (pv 1) (nomark _)) (pw_or1 (PW.pt (pw_and (pt_cmpR op_eq (pv 4) (pv 1) (nomark _)) (pw_and1 (pt_cmpR op_in_seq (pv 4) (pe_glob (v:=.ref sg) rfl T.ms rfl) (by with_unfolding_all rfl)))))))) (pss_one ps_dead) pss_nil)
   (pss_one (ps_set (i:=1) scROrder.nd rfl (Or.inl rfl) (pv 4))))))),?_⟩
 show tSeq _ _ _ _ _
 refine ⟨_,rfl,a,rfl,⟨_,SqL.of ha⟩,for_enum (K:=K) (a:=a) (xs:=ps.map V.ref) (fun i σ H'=>∃ (l:Nat) (v2 v3 v4:Option V),σ = [some (.ref a),some (.int (l:Nat)),v2,v3,v4]/\Same H H'/\ordOk l (rows.drop i) = true)
  ⟨0,_,_,_,rfl,Same.refl _,ho⟩ (fun i σ H' _ ⟨_,_,_,_,_,sH,_⟩=>SqL.of (sH _ _ ha)) ?_ ?_⟩
 ·rintro i x p σ H' hx ⟨l,v2,v3,v4,rfl,sH,hl⟩ hpn
  obtain ⟨pa,hpa,rfl⟩:=refs_at hx
  obtain ⟨r,hr',dx,hdx⟩:=paired_at hp hpa
  have rok:=hok r (List.mem_of_getElem? hr')
  have C:=PP r.k rok.1
  rw [drop_at hr'] at hl
  have hl':(!badAt l (grp r.k) && ordOk (grp r.k) (rows.drop (i + 1))) = true:=hl
  rw [Bool.and_eq_true,Bool.not_eq_true'] at hl'
  obtain ⟨hb,hl2⟩:=hl'
  have hb':(decide (grp r.k < l) || (grp r.k == l && (grp r.k == 1 || grp r.k == 3))) = false:=hb
  rw [Bool.or_eq_false_iff] at hb'
  have sp:=same_new hpn (.tup [.int (i:Nat),.ref pa])
  refine ⟨p,_,rfl,SqT.of upd_same,rfl,_,_,rfl,_,_,rfl,rfl,?_⟩
  refine ⟨_,rfl,pa,_,dx,_,_,rfl,sp _ _ (sH _ _ hdx),C.cl,C.nW,pf_word,kw r.k,.int (grp r.k),rfl,grpV_kw r.k rok.1,?_⟩
  refine ⟨_,rfl,_,rfl,_,_,rfl,rfl,_,rfl,?_⟩
  refine dF (fun z=>by have:=of_decide_eq_false hb'.1; omega) ?_
  have fin:∃ (l':Nat) (v2 v3 v4:Option V),([some (.ref a),some (.int (grp r.k:Nat)),some (.int (i:Nat)),some (.ref pa),some (.int (grp r.k:Nat))]:L2.St) = [some (.ref a),some (.int (l':Nat)),v2,v3,v4]/\Same H (upd H' p (.tup [.int (i:Nat),.ref pa]))/\ordOk l' (rows.drop (i + 1)) = true:=
   ⟨grp r.k,_,_,_,rfl,sH.trans sp,hl2⟩
  refine ⟨_,rfl,_,rfl,rfl,_,rfl,?_⟩
  by_cases e:grp r.k = l
  ·refine dT (by rw [e]) ?_
   refine ⟨_,rfl,sg,_,rfl,.inr (T.hs _),rfl,(by decide),_,rfl,?_⟩
   have h13:(grp r.k == 1 || grp r.k == 3) = false:=by
    have:=hb'.2
    rw [e] at this |-
    simpa using this
   have hin:inV (.int (grp r.k:Nat)) [.int 1,.int 3] = false:=by
    have g4:=grp_lt r.k
    have:∀ g:Nat,g < 4->(g == 1 || g == 3) = false->inV (.int (g:Nat)) [.int 1,.int 3] = false:=by decide +kernel
    exact this _ g4 h13
   rw [show (if false = true then !inV (V.int ((grp r.k:Nat):Int)) [V.int 1,V.int 3] else inV (V.int ((grp r.k:Nat):Int)) [V.int 1,V.int 3]) = false from hin]
   refine iteF ?_
   exact ⟨_,rfl,fin⟩
  ·refine dF (fun z=>e (by have:=V.int.inj z; omega)) ?_
   exact ⟨_,rfl,fin⟩
 ·rintro σ H' ⟨l,v2,v3,v4,rfl,sH,_⟩
  exact q _ sH
end
end K32
namespace L2
open PySem PySem.Spec PyProof.Rows
theorem pe_fldK {X:Cx} {K:PySem.W.Frag} {e:Expr} {f:Str} {pos:Pos} {ta:TE} (hK:X.K = K) (he:PE X e ta) (hb:attributeBase e f X.env (eval e X.env) = eval e X.env):PE X (.Attribute e f pos) (tFld K ta f):=hK ▸ pe_fld he hb
end L2
namespace K32
open PySem L2 PyProof.Rows
theorem le1000 {n:Nat} (h:n<=1000):n<=sizeLine:=Nat.le_of_lt (small1000 h)
theorem nm_take {rows:List Rw} {i:Nat} {r:Rw} (h:rows[i]? = some r):nms (rows.take (i + 1)) = nms (rows.take i) ++ (if byNm r.k = true then [r.z] else []):=by
 have hi:i < rows.length:=(List.getElem?_eq_some_iff.mp h).1
 have e:rows[i] = r:=by rw [List.getElem?_eq_getElem hi] at h; exact Option.some.inj h
 unfold nms
 rw [List.take_succ_eq_append_getElem hi,List.filter_append,List.map_append,e]
 cases hb:byNm r.k <;> simp [hb]
section
variable {P:Program} {w:World} {K:PySem.W.Frag} {mg:Str->Option Value} {base:Heap} {f G sg:Addr} {fd:FuncData} {c:C5} {m:MA}
theorem scNumW:FnScope ["parameters","word","at","parameter"] ["parameters","word"] (defScope sNumW):=⟨rfl,rfl,rfl,by decide +kernel,rfl,by decide +kernel,by decide +kernel⟩
theorem ok_numw (F:Fun K "number_of_word" "number_of_word" sNumW f fd) (T:TxtF w K mg G sg) (PP:Pcs K m c):FnOk P w K mg base CX0 1 f fd ["parameters","word"] (spNW c):=by
 refine F.ok scNumW (fun vs H Q E h=>?_) (fun cdv A outer s H vs Q E hr h=>?_)
 ·obtain ⟨a,ps,rows,kk,rfl,_⟩:=h
  rfl
 obtain ⟨a,ps,rows,kk,rfl,hkk,ha,hp,hok,q⟩:=h
 refine ⟨_,pss_cons (ps_for PassesOwn.never rfl (pi_enum rfl T.en (ac (pv 0) pa_nil)) (pg_tup rfl (pgs_cons (pg_name (i:=2) scNumW.nd rfl (Or.inl rfl)) (pgs_cons (pg_name (i:=3) scNumW.nd rfl (Or.inl rfl)) pgs_nil)))
   (pss_one (ps_if (pt_cmpR op_eq (pe_fld (pv 3) rfl) (pv 1) (nomark _)) (pss_one (ps_ret (pv 2))) pss_nil))) (pss_one (ps_ret pe_non)),?_⟩
 refine ⟨_,rfl,a,rfl,⟨_,SqL.of ha⟩,for_enum (K:=K) (a:=a) (xs:=ps.map V.ref) (fun i σ H'=>∃ (v2 v3:Option V),σ = [some (.ref a),some (.str (kw kk)),v2,v3]/\Same H H'/\firstK kk i (rows.drop i) = firstK kk 0 rows)
  ⟨_,_,rfl,Same.refl _,rfl⟩ (fun i σ H' _ ⟨_,_,_,sH,_⟩=>SqL.of (sH _ _ ha)) ?_ ?_⟩
 ·rintro i x p σ H' hx ⟨v2,v3,rfl,sH,hl⟩ hpn
  obtain ⟨pa,hpa,rfl⟩:=refs_at hx
  obtain ⟨r,hr',dx,hdx⟩:=paired_at hp hpa
  have rok:=hok r (List.mem_of_getElem? hr')
  have C:=PP r.k rok.1
  rw [drop_at hr'] at hl
  have hl':(if r.k = kk then some i else firstK kk (i + 1) (rows.drop (i + 1))) = firstK kk 0 rows:=hl
  have sp:=same_new hpn (.tup [.int (i:Nat),.ref pa])
  refine ⟨p,_,rfl,SqT.of upd_same,rfl,_,_,rfl,_,_,rfl,rfl,?_⟩
  refine ⟨_,rfl,pa,_,dx,_,_,rfl,sp _ _ (sH _ _ hdx),C.cl,C.nW,pf_word,_,rfl,rfl,_,rfl,?_⟩
  by_cases e:r.k = kk
  ·refine dT (by rw [e]) ?_
   rw [if_pos e] at hl'
   refine ⟨_,rfl,?_⟩
   have:=q _ (sH.trans sp)
   rw [<- hl'] at this
   exact this
  ·refine dF (fun z=>?_) ?_
   ·have h1:=kw_inj kk hkk r.k rok.1
    rw [decide_eq_true z] at h1
    exact e (by simpa using h1.symm)
   ·rw [if_neg e] at hl'
    exact ⟨_,_,rfl,sH.trans sp,hl'⟩
 ·rintro σ H' ⟨v2,v3,rfl,sH,hl⟩
  have e:firstK kk 0 rows = none:=by
   rw [<- hl,List.length_map,hp.length,List.drop_length]
   rfl
  have:=q _ sH
  rw [e] at this
  exact this
theorem scRBars:FnScope ["bars","bar"] ["bars"] (defScope sRBars):=⟨rfl,rfl,rfl,by decide +kernel,rfl,by decide +kernel,by decide +kernel⟩
theorem ok_rbars {g:Addr} {gd:FuncData} (F:Fun K "refuse_bars_without_name" "refuse_bars_without_name" sRBars f fd) (cI:Callee P w K mg base 1 "is_name" g gd ["thing"] (spIs K)):FnOk P w K mg base CX0 2 f fd ["bars"] spRB:=by
 refine F.ok scRBars (fun vs H Q E h=>?_) (fun cdv A outer s H vs Q E hr h=>?_)
 ·obtain ⟨b,bars,rfl,_⟩:=h
  rfl
 obtain ⟨b,bars,rfl,hb,hn,q⟩:=h
 refine ⟨_,pss_one (ps_for PassesOwn.never rfl (pi_list (pv 0)) (pg_name (i:=1) scRBars.nd rfl (Or.inl rfl)) (pss_one (ps_if (pt_not (pt_val (cF cI hr (ac (pv 1) pa_nil)))) (pss_one ps_dead) pss_nil))),?_⟩
 refine ⟨_,rfl,b,rfl,⟨_,SqL.of hb⟩,for_list (K:=K) (a:=b) (xs:=bars.map V.str) (fun i σ H'=>∃ v1,σ = [some (.ref b),v1]/\Same H H') ⟨_,rfl,Same.refl _⟩ (fun i σ H' _ ⟨_,_,sH⟩=>SqL.of (sH _ _ hb)) ?_ ?_⟩
 ·rintro i x σ H' hx ⟨v1,rfl,sH⟩
  obtain ⟨z,hz,rfl⟩:=strs_at hx
  have nz:=hn z (List.mem_of_getElem? hz)
  refine ⟨_,rfl,_,rfl,.inl ⟨z,rfl,nameB_ok nz⟩,fun H2 s2=>⟨_,rfl,?_⟩⟩
  rw [show nmV (.str z) = true from nz]
  refine iteF ?_
  exact ⟨_,rfl,sH.trans s2⟩
 ·rintro σ H' ⟨v1,rfl,sH⟩
  exact q _ sH
theorem ndPm:([Str.ofString "parameter"]:List Str).Nodup:=by decide +kernel
theorem scRTwice:FnScope ["parameters","bars","seen","name"] ["parameters","bars"] (defScope sRTwice):=⟨rfl,rfl,rfl,by decide +kernel,rfl,by decide +kernel,by decide +kernel⟩
theorem ok_twice {gd:FuncData} (F:Fun K "refuse_twice" "refuse_twice" sRTwice f fd) (T:TxtF w K mg G sg) (PP:Pcs K m c) (GB:FnOk P w K mg base CX0 1 m.fB gd ["self"] (spIn K m bnL)) (bB:Binds K gd ["self"] []):FnOk P w K mg base CX0 2 f fd ["parameters","bars"] (spTw c):=by
 refine F.ok scRTwice (fun vs H Q E h=>?_) (fun cdv A outer s H vs Q E hr h=>?_)
 ·obtain ⟨a,b,ps,rows,bars,rfl,_⟩:=h
  rfl
 obtain ⟨a,b,ps,rows,bars,rfl,ha,hp,hok,l1,hb,l2,nd,q⟩:=h
 have hC:∀ C,Cs5 c C->Cls K C/\Meth K C "by_name" m.fB:=fun C ⟨k,hk,e⟩=>by rw [e]; exact ⟨(PP k hk).cl,(PP k hk).mB⟩
 refine ⟨_,pss_cons (ps_set (i:=2) scRTwice.nd rfl (Or.inl rfl) (pe_callTy0 call_set0 rfl T.set (by decide +kernel:bootBuiltins "set" = some (.type "set"))))
  (pss_one (ps_for PassesOwn.never rfl (pi_list (pe_op op_cat (pe_lc [] ["parameter"] [none] rfl ⟨rfl,rfl,rfl,rfl⟩ (pi_list (pv 0)) (gown_name 0) rfl rfl rfl
    (fun pins fp s H C=>⟨pg_name (i:=0) ndPm rfl (Or.inl rfl) (.inr rfl),pif_one (pt_val (pe_methP (pv 0) hC GB hr bB pass0)),pe_fldK (K:=K) rfl (pv 0) rfl⟩)) (cTy call_list_of T.lst PyProof.Rows.boot_list (ac (pv 1) pa_nil)))) (pg_name (i:=3) scRTwice.nd rfl (Or.inl rfl))
   (pss_cons (ps_if (pt_cmpR op_in_setT (pv 3) (pv 2) (by with_unfolding_all rfl)) (pss_one ps_dead) pss_nil)
   (pss_one (ps_expr (pe_sadd (pv 2) (pv 3) ⟨rfl,rfl,rfl,rfl⟩)))))),?_⟩
 refine ⟨rfl,fun se hse=>?_⟩
 have s1:Same H (upd H se (setO P w se (fun _=>false) 0)):=same_new hse _
 have g1:upd H se (setO P w se (fun _=>false) 0) se = some (setO P w se (fun _=>false) 0):=upd_same
 show tSeq _ _ _ _ (upd H se (setO P w se (fun _=>false) 0))
 generalize upd H se (setO P w se (fun _=>false) 0) = H1 at s1 g1 |-
 have ha1:=s1 _ _ ha
 have hp1:=pats_same s1 hp
 refine ⟨_,rfl,a,rfl,⟨_,SqL.of ha1⟩,fun D hD=>?_⟩
 refine lc_list (K:=K) (xs:=ps.map V.ref) (fun i ys H'=>Same H1 H'/\H' D = some (.lst ys)/\ys = (nms (rows.take i)).map V.str) ⟨same_new hD _,upd_same,rfl⟩ (fun i ys H' h=>SqL.of (h.1 _ _ ha1)) ?_ ?_
 ·rintro i x ys H' hlt hx ⟨sH,hDy,ey⟩
  obtain ⟨pa,hpa,rfl⟩:=refs_at hx
  obtain ⟨r,hr',dx,hdx⟩:=paired_at hp1 hpa
  have rok:=hok r (List.mem_of_getElem? hr')
  have C:=PP r.k rok.1
  have nl:ys.length<=i:=by
   rw [ey,List.length_map]
   unfold nms
   rw [List.length_map]
   refine Nat.le_trans (List.length_filter_le _ _) ?_
   rw [List.length_take]
   omega
  have hd2:=sH _ _ hdx
  refine ⟨_,rfl,pa,_,dx,_,rfl,⟨r.k,rok.1,rfl⟩,hd2,pf_no (by decide +kernel) (by decide +kernel) (by decide +kernel),pa,dx,_,_,_,_,rfl,C,hd2,_,rfl,?_⟩
  rw [in_nm r.k rok.1]
  have tk:=nm_take hr'
  refine ⟨fun e=>?_,fun e=>?_⟩
  ·rw [e,if_pos rfl] at tk
   refine ⟨_,rfl,pa,_,dx,_,_,rfl,hd2,C.cl,C.nN,pf_name,?_⟩
   refine lcN.mk hlt (le1000 (by rw [List.length_map,hp.length]; omega)) hDy nl ⟨fun b u e=>?_,upd_same,?_⟩
   ·rw [upd_ne (ne_of_none e hD)]
    exact sH b u e
   ·rw [ey,tk,List.map_append]
    rfl
  ·rw [e,if_neg Bool.false_ne_true,List.append_nil] at tk
   exact lcS.mk hlt ⟨sH,hDy,by rw [ey,tk]⟩
 rintro ys H2 ⟨s2,hDy,ey⟩
 have ey:ys = (nms rows).map V.str:=by
  rw [ey,List.length_map,hp.length,List.take_length]
 subst ey
 have hb2:=s2 _ _ (s1 _ _ hb)
 refine ⟨_,rfl,b,_,rfl,.inl (SqL.of hb2),fun l hl=>?_⟩
 have s3:=same_new hl (.lst (bars.map V.str))
 have g3:upd H2 l (.lst (bars.map V.str)) l = some (.lst (bars.map V.str)):=upd_same
 generalize upd H2 l (.lst (bars.map V.str)) = H3 at s3 g3 |-
 have ln:(nms rows).length<=500:=by
  unfold nms
  rw [List.length_map]
  exact Nat.le_trans (List.length_filter_le _ _) l1
 refine ⟨D,l,_,_,rfl,rfl,s3 _ _ hDy,g3,le1000 (by rw [List.length_map,List.length_map]; omega),fun l4 hl4=>?_⟩
 rw [<- List.map_append]
 have s4:=same_new hl4 (.lst ((nms rows ++ bars).map V.str))
 have g4:upd H3 l4 (.lst ((nms rows ++ bars).map V.str)) l4 = some (.lst ((nms rows ++ bars).map V.str)):=upd_same
 have nse:l4 ≠ se:=fun z=>by
  rw [z] at hl4
  rw [s3 _ _ (s2 _ _ g1)] at hl4
  cases hl4
 generalize upd H3 l4 (.lst ((nms rows ++ bars).map V.str)) = H4 at s4 g4 |-
 have sA:Same H1 H4:=s2.trans (s3.trans s4)
 have gse:=sA _ _ g1
 refine ⟨l4,rfl,⟨_,SqL.of g4⟩,for_list (K:=K) (a:=l4) (xs:=(nms rows ++ bars).map V.str) (fun i σ H'=>∃ (S:Str->Bool) (n:Nat) (v3:Option V),σ = [some (.ref a),some (.ref b),some (.ref se),v3]/\H' se = some (setO P w se S n)/\(∀ z,S z = decide (z ∈ (nms rows ++ bars).take i))/\n<=i/\(∀ b' u,H4 b' = some u->b' ≠ se->H' b' = some u))
  ⟨_,0,_,rfl,gse,fun z=>by simp,Nat.le_refl _,fun b' u e _=>e⟩ (fun i σ H' _ ⟨_,_,_,_,_,_,_,k⟩=>SqL.of (k _ _ g4 nse)) ?_ ?_⟩
 ·rintro i x σ H' hx ⟨S,n,v3,rfl,hS,hSz,hn,k⟩
  obtain ⟨z,hz,rfl⟩:=strs_at hx
  have hi:i < (nms rows ++ bars).length:=(List.getElem?_eq_some_iff.mp hz).1
  have ez:(nms rows ++ bars)[i] = z:=by rw [List.getElem?_eq_getElem hi] at hz; exact Option.some.inj hz
  have nz:S z = false:=by
   rw [hSz,decide_eq_false_iff_not]
   intro hm
   obtain ⟨j,hj,ej⟩:=List.mem_take_iff_getElem.mp hm
   have:=List.pairwise_iff_getElem.mp nd j i (by omega) hi (by omega)
   exact this (ej.trans ez.symm)
  refine ⟨_,rfl,_,rfl,se,S,n,z,rfl,rfl,hS,_,rfl,?_⟩
  rw [nz]
  refine iteF ?_
  refine ⟨_,rfl,se,S,n,rfl,hS,_,rfl,S,n,z,rfl,hS,?_,?_⟩
  ·rw [List.length_append] at hi
   show n + 1 < 4096
   omega
  ·refine ⟨_,_,_,rfl,upd_same,fun y=>?_,?_,fun b' u e ne=>?_⟩
   ·rw [hSz y,List.take_succ_eq_append_getElem hi,ez]
    simp [List.mem_append]
   ·rw [nz]
    show n + 1<=i + 1
    omega
   ·rw [upd_ne ne]
    exact k b' u e ne
 ·rintro σ H' ⟨S,n,v3,rfl,hS,hSz,hn,k⟩
  refine q _ fun b' u e=>k b' u (sA _ _ (s1 _ _ e)) fun z=>?_
  rw [z,hse] at e
  cases e
end
def SX (f:Addr) (H H':Hp):Prop:=∀ b u,H b = some u->b ≠ f->H' b = some u
theorem SX.same {f:Addr} {H H1 H2:Hp} (x:SX f H H1) (s:Same H1 H2):SX f H H2:=fun b u e n=>s b u (x b u e n)
theorem SX.upd {f:Addr} {H H1:Hp} {o:HO} (x:SX f H H1):SX f H (upd H1 f o):=fun b u e n=>by rw [upd_ne n]; exact x b u e n
theorem SX.refl {f:Addr} {H:Hp}:SX f H H:=fun _ _ e _=>e
theorem putF_le (f:Str) (v:V):∀ fs:List (Str × V),(putF f v fs).length<=fs.length + 1
 | []=>Nat.le_refl _
 | (g,x) :: r=>by
  show (if g = f then (g,v) :: r else (g,x) :: putF f v r).length<=_
  split
  ·simp
  ·have:=putF_le f v r
   simp only [List.length_cons]
   omega
def Pre (fs:List (Str × V)):Prop:=fs.length<=50/\∀ m,m ∉ attrs->fs.lookup m = none
structure FC (K:PySem.W.Frag) (CF:Addr):Prop where
 cl:Cls K CF
 n1:NoAttr K CF "row"
 n2:NoAttr K CF "bar_names"
 n3:NoAttr K CF "place_count"
 n4:NoAttr K CF "tail_number"
 n5:NoAttr K CF "bag_number"
 n6:NoAttr K CF "doors"
def spKeep (c:C5) (CF:Addr):Sp:=fun vs H Q _=>∃ (f a b dx:Addr) (fs:List (Str × V)) (ps:List Addr) (rows:List Rw) (bars:List Str),vs = [.ref f,.ref a,.ref b]/\H f = some (.ins CF dx fs)/\Pre fs/\H a = some (.lst (ps.map V.ref))/\Paired (PAt c H) ps rows/\(∀ r ∈ rows,r.ok)/\rows.length<=500/\H b = some (.lst (bars.map V.str))/\
 ∀ H',SX f H H'->FormN c CF H H' f rows bars->(∃ dx' fs',H' f = some (.ins CF dx' fs')/\fs'.length<=fs.length + 6)->Q .non H'
theorem pl_take {rows:List Rw} {i:Nat} {r:Rw} (h:rows[i]? = some r):plN (rows.take (i + 1)) = plN (rows.take i) + (if byPl r.k = true then 1 else 0):=by
 have hi:i < rows.length:=(List.getElem?_eq_some_iff.mp h).1
 have e:rows[i] = r:=by rw [List.getElem?_eq_getElem hi] at h; exact Option.some.inj h
 unfold plN
 rw [List.take_succ_eq_append_getElem hi,List.filter_append,List.length_append,e]
 cases hb:byPl r.k <;> simp [hb]
theorem doors_len:∀ (rows:List Rw) (i:Nat) (acc:List (Key × V)),(doorsF i acc rows).length<=acc.length + rows.length
 | [],_,_=>Nat.le_refl _
 | r :: rs,i,acc=>by
  have h:=doors_len rs (i + 1) (if byNm r.k = true then putK acc (.inr r.z) (.int i) else acc)
  have h2:(if byNm r.k = true then putK acc (.inr r.z) (.int i) else acc).length<=acc.length + 1:=by
   split
   ·exact length_putK acc _ _
   ·omega
  show (doorsF (i + 1) _ rs).length<=acc.length + (rs.length + 1)
  omega
theorem doorsF_take {r:Rw}:∀ (rows:List Rw) (j i:Nat) (acc:List (Key × V)),rows[i]? = some r->doorsF j acc (rows.take (i + 1)) = (if byNm r.k = true then putK (doorsF j acc (rows.take i)) (.inr r.z) (.int (j + i:Nat)) else doorsF j acc (rows.take i))
 | [],_,_,_,h=>by simp at h
 | r0 :: rs,j,0,acc,h=>by
  have e:r0 = r:=by simpa using h
  subst e
  show (if byNm r0.k = true then putK acc (.inr r0.z) (.int j) else acc) = _
  rfl
 | r0 :: rs,j,i + 1,acc,h=>by
  have:=doorsF_take rs (j + 1) i (if byNm r0.k = true then putK acc (.inr r0.z) (.int j) else acc) (by simpa using h)
  show doorsF (j + 1) _ (rs.take (i + 1)) = _
  rw [this,show j + 1 + i = j + (i + 1) by omega]
  rfl
section
variable {P:Program} {w:World} {K:PySem.W.Frag} {mg:Str->Option Value} {base:Heap} {f G sg CF:Addr} {fd:FuncData} {c:C5} {m:MA}
theorem PAt.ne {H:Hp} {p f CF dx:Addr} {r:Rw} {fs:List (Str × V)} (h:PAt c H p r) (e:H f = some (.ins CF dx fs)) (n:fs.lookup ("word" : Str) = none):p ≠ f:=fun z=>by
 obtain ⟨d,h⟩:=h
 rw [z,e] at h
 injection h with h
 injection h with h1 h2 h3
 rw [h3,pf_word] at n
 cases n
theorem pats_sx {H H':Hp} {f CF dx:Addr} {fs:List (Str × V)} (e:H f = some (.ins CF dx fs)) (n:fs.lookup ("word" : Str) = none) (x:SX f H H') {ps:List Addr} {rows:List Rw} (h:Paired (PAt c H) ps rows):Paired (PAt c H') ps rows:=
 Paired.imp' (fun _ _ z=>by
  have ne:=z.ne e n
  obtain ⟨d,q⟩:=z
  exact ⟨d,x _ _ q ne⟩) h
theorem ndAP:([Str.ofString "at",Str.ofString "parameter"]:List Str).Nodup:=by decide +kernel
theorem scKeep:FnScope ["self","parameters","bars"] ["self","parameters","bars"] (defScope sKeep):=⟨rfl,rfl,rfl,by decide +kernel,rfl,by decide +kernel,by decide +kernel⟩
theorem ok_keep {g:Addr} {gd gp gb:FuncData} (F:Fun K "keep" "Form.keep" sKeep f fd) (T:TxtF w K mg G sg) (PP:Pcs K m c) (FK:FC K CF) (cW:Callee P w K mg base 1 "number_of_word" g gd ["parameters","word"] (spNW c))
  (GP:FnOk P w K mg base CX0 1 m.fP gp ["self"] (spIn K m bpL)) (bP:Binds K gp ["self"] []) (GB:FnOk P w K mg base CX0 1 m.fB gb ["self"] (spIn K m bnL)) (bB:Binds K gb ["self"] []):FnOk P w K mg base CX0 2 f fd ["self","parameters","bars"] (spKeep c CF):=by
 refine F.ok scKeep (fun vs H Q E h=>?_) (fun cdv A outer s H vs Q E hr h=>?_)
 ·obtain ⟨f,a,b,dx,fs,ps,rows,bars,rfl,_⟩:=h
  rfl
 obtain ⟨f,a,b,dx,fs,ps,rows,bars,rfl,hf,⟨pl,pn⟩,ha,hp,hok,l5,hb,q⟩:=h
 have hP:∀ C,Cs5 c C->Cls K C/\Meth K C "by_place" m.fP:=fun C ⟨k,hk,e⟩=>by rw [e]; exact ⟨(PP k hk).cl,(PP k hk).mP⟩
 have hB:∀ C,Cs5 c C->Cls K C/\Meth K C "by_name" m.fB:=fun C ⟨k,hk,e⟩=>by rw [e]; exact ⟨(PP k hk).cl,(PP k hk).mB⟩
 have nw:fs.lookup ("word" : Str) = none:=pn _ (by decide +kernel)
 refine ⟨_,pss_cons (ps_fld (pv 0) (cTy call_list_of T.lst PyProof.Rows.boot_list (ac (pv 1) pa_nil)) rfl)
  (pss_cons (ps_fld (pv 0) (cTy call_list_of T.lst PyProof.Rows.boot_list (ac (pv 2) pa_nil)) rfl)
  (pss_cons (ps_fld (pv 0) (cB call_len_seq T.len PySem.boot_len (ac (pe_lc [] ["parameter"] [none] rfl ⟨rfl,rfl,rfl,rfl⟩ (pi_list (pe_fld (pv 0) rfl)) (gown_name 0) rfl rfl rfl
    (fun pins fp s H C=>⟨pg_name (i:=0) ndPm rfl (Or.inl rfl) (.inr rfl),pif_one (pt_val (pe_methP (pv 0) hP GP hr bP pass0)),pv 0⟩)) pa_nil)) rfl)
  (pss_cons (ps_fld (pv 0) (cF cW hr (ac (pe_fld (pv 0) rfl) (ac pe_str pa_nil))) rfl)
  (pss_cons (ps_fld (pv 0) (cF cW hr (ac (pe_fld (pv 0) rfl) (ac pe_str pa_nil))) rfl)
  (pss_one (ps_fld (pv 0) (pe_dc [] ["at","parameter"] [none,none] rfl ⟨rfl,rfl,rfl,rfl⟩ (pi_enum rfl T.en (ac (pe_fld (pv 0) rfl) pa_nil)) (gown_tup2 (K:=K) (n:=2) 0 1) rfl rfl rfl
    (fun pins fp s H C=>⟨pg_tup rfl (pgs_cons (pg_name (i:=0) ndAP rfl (Or.inl rfl) (.inr rfl)) (pgs_cons (pg_name (i:=1) ndAP rfl (Or.inl rfl) (.inr rfl)) pgs_nil)),pif_one (pt_val (pe_methP (pv 1) hB GB hr bB pass0)),pe_fldK (K:=K) rfl (pv 1) rfl,pv 0⟩)) rfl)))))),?_⟩
 refine ⟨_,rfl,a,_,rfl,.inl (SqL.of ha),fun l1 hl1=>?_⟩
 have s1:=same_new hl1 (.lst (ps.map V.ref))
 refine ⟨_,rfl,f,CF,dx,fs,rfl,s1 _ _ hf,FK.cl,FK.n1,(by omega),?_⟩
 have x1:SX f H (upd (upd H l1 (.lst (ps.map V.ref))) f (.ins CF dx (putF "row" (.ref l1) fs))):=(SX.refl.same s1).upd
 have f1:upd (upd H l1 (.lst (ps.map V.ref))) f (.ins CF dx (putF "row" (.ref l1) fs)) f = some (.ins CF dx (putF "row" (.ref l1) fs)):=upd_same
 have e1:upd (upd H l1 (.lst (ps.map V.ref))) f (.ins CF dx (putF "row" (.ref l1) fs)) l1 = some (.lst (ps.map V.ref)):=by
  rw [upd_ne (fun z=>by rw [z,hf] at hl1; cases hl1),upd_same]
 have p1:=putF_le "row" (.ref l1) fs
 have r1:(putF "row" (.ref l1) fs).lookup ("row" : Str) = some (.ref l1):=by rw [lookup_putF,if_pos rfl]
 show tSeq _ _ _ _ (upd (upd H l1 (.lst (ps.map V.ref))) f (.ins CF dx (putF "row" (.ref l1) fs)))
 generalize upd (upd H l1 (.lst (ps.map V.ref))) f (.ins CF dx (putF "row" (.ref l1) fs)) = H1 at x1 f1 e1 |-
 have nbf:b ≠ f:=ne_of hb hf (by intro z; cases z)
 refine ⟨_,rfl,b,_,rfl,.inl (SqL.of (x1 _ _ hb nbf)),fun l2 hl2=>?_⟩
 have s2:=same_new hl2 (.lst (bars.map V.str))
 have hlb:H l2 = none:=by
  cases e:H l2 with
  | none=>rfl
  | some u=>exact absurd (x1 _ _ e (fun z=>by rw [z,f1] at hl2; cases hl2)) (by rw [hl2]; intro z; cases z)
 refine ⟨_,rfl,f,CF,dx,_,rfl,s2 _ _ f1,FK.cl,FK.n2,(by omega),?_⟩
 have x2:SX f H (upd (upd H1 l2 (.lst (bars.map V.str))) f (.ins CF dx (putF "bar_names" (.ref l2) (putF "row" (.ref l1) fs)))):=(x1.same s2).upd
 have f2:upd (upd H1 l2 (.lst (bars.map V.str))) f (.ins CF dx (putF "bar_names" (.ref l2) (putF "row" (.ref l1) fs))) f = some (.ins CF dx (putF "bar_names" (.ref l2) (putF "row" (.ref l1) fs))):=upd_same
 have g2:upd (upd H1 l2 (.lst (bars.map V.str))) f (.ins CF dx (putF "bar_names" (.ref l2) (putF "row" (.ref l1) fs))) l2 = some (.lst (bars.map V.str)):=by
  rw [upd_ne (fun z=>by rw [z,f1] at hl2; cases hl2),upd_same]
 have e2:upd (upd H1 l2 (.lst (bars.map V.str))) f (.ins CF dx (putF "bar_names" (.ref l2) (putF "row" (.ref l1) fs))) l1 = some (.lst (ps.map V.ref)):=by
  rw [upd_ne (ne_of e1 f1 (by intro z; cases z)),s2 _ _ e1]
 have p2:=putF_le "bar_names" (.ref l2) (putF "row" (.ref l1) fs)
 have r2:(putF "bar_names" (.ref l2) (putF "row" (.ref l1) fs)).lookup ("row" : Str) = some (.ref l1):=by rw [lookup_putF,if_neg (by decide +kernel)]; exact r1
 show tSeq _ _ _ _ (upd (upd H1 l2 (.lst (bars.map V.str))) f (.ins CF dx (putF "bar_names" (.ref l2) (putF "row" (.ref l1) fs))))
 generalize hfs2:putF "bar_names" (.ref l2) (putF "row" (.ref l1) fs) = fs2 at f2 e2 g2 p2 r2 x2 |-
 generalize upd (upd H1 l2 (.lst (bars.map V.str))) f (.ins CF dx fs2) = H2 at x2 f2 e2 g2 |-
 have hp2:=pats_sx hf nw x2 hp
 refine ⟨_,rfl,f,CF,dx,_,_,rfl,f2,FK.cl,FK.n1,r2,l1,rfl,⟨_,SqL.of e2⟩,fun D hD=>?_⟩
 refine lc_list (K:=K) (xs:=ps.map V.ref) (fun i ys H'=>Same H2 H'/\H' D = some (.lst ys)/\ys.length = plN (rows.take i)) ⟨same_new hD _,upd_same,rfl⟩ (fun i ys H' h=>SqL.of (h.1 _ _ e2)) ?_ ?_
 ·rintro i x ys H' hlt hx ⟨sH,hDy,ey⟩
  obtain ⟨pa,hpa,rfl⟩:=refs_at hx
  obtain ⟨r,hr',dx',hdx⟩:=paired_at hp2 hpa
  have rok:=hok r (List.mem_of_getElem? hr')
  have C:=PP r.k rok.1
  have nl:ys.length<=i:=by
   rw [ey]
   unfold plN
   refine Nat.le_trans (List.length_filter_le _ _) ?_
   rw [List.length_take]
   omega
  have hd2:=sH _ _ hdx
  refine ⟨_,rfl,pa,_,dx',_,rfl,⟨r.k,rok.1,rfl⟩,hd2,pf_no (by decide +kernel) (by decide +kernel) (by decide +kernel),pa,dx',_,_,_,_,rfl,C,hd2,_,rfl,?_⟩
  rw [in_pl r.k rok.1]
  have tk:=pl_take hr'
  refine ⟨fun e=>?_,fun e=>?_⟩
  ·rw [e,if_pos rfl] at tk
   refine ⟨_,rfl,lcN.mk hlt (le1000 (by rw [List.length_map,hp.length]; omega)) hDy nl ⟨fun b u e=>?_,upd_same,?_⟩⟩
   ·rw [upd_ne (ne_of_none e hD)]
    exact sH b u e
   ·rw [List.length_append,ey,tk]
    rfl
  ·rw [e,if_neg Bool.false_ne_true] at tk
   exact lcS.mk hlt ⟨sH,hDy,by rw [ey,tk]; rfl⟩
 rintro ys H3 ⟨s3,hDy,ey⟩
 rw [List.length_map,hp.length,List.take_length] at ey
 refine ⟨D,_,rfl,.inl (SqL.of hDy),?_⟩
 rw [ey]
 have x3:=x2.same s3
 refine ⟨_,rfl,f,CF,dx,_,rfl,s3 _ _ f2,FK.cl,FK.n3,(by omega),?_⟩
 have f3:upd H3 f (.ins CF dx (putF "place_count" (.int (plN rows:Nat)) fs2)) f = some (.ins CF dx (putF "place_count" (.int (plN rows:Nat)) fs2)):=upd_same
 have x4:SX f H (upd H3 f (.ins CF dx (putF "place_count" (.int (plN rows:Nat)) fs2))):=x3.upd
 have e4:upd H3 f (.ins CF dx (putF "place_count" (.int (plN rows:Nat)) fs2)) l1 = some (.lst (ps.map V.ref)):=by rw [upd_ne (ne_of e2 f2 (by intro z; cases z))]; exact s3 _ _ e2
 have g4:upd H3 f (.ins CF dx (putF "place_count" (.int (plN rows:Nat)) fs2)) l2 = some (.lst (bars.map V.str)):=by rw [upd_ne (ne_of g2 f2 (by intro z; cases z))]; exact s3 _ _ g2
 have p3:=putF_le "place_count" (.int (plN rows:Nat)) fs2
 have r3:(putF "place_count" (.int (plN rows:Nat)) fs2).lookup ("row" : Str) = some (.ref l1):=by rw [lookup_putF,if_neg (by decide +kernel)]; exact r2
 show tSeq _ _ _ _ (upd H3 f (.ins CF dx (putF "place_count" (.int (plN rows:Nat)) fs2)))
 generalize hfs3:putF "place_count" (.int (plN rows:Nat)) fs2 = fs3 at f3 x4 e4 g4 p3 r3 |-
 generalize upd H3 f (.ins CF dx fs3) = H4 at x4 f3 e4 g4 |-
 refine ⟨_,rfl,f,CF,dx,_,_,rfl,f3,FK.cl,FK.n1,r3,l1,ps,rows,2,rfl,by decide,e4,pats_sx hf nw x4 hp,hok,fun H5 s5=>?_⟩
 refine ⟨_,rfl,f,CF,dx,_,rfl,s5 _ _ f3,FK.cl,FK.n4,(by omega),?_⟩
 have f5:upd H5 f (.ins CF dx (putF "tail_number" (numV (firstK 2 0 rows)) fs3)) f = some (.ins CF dx (putF "tail_number" (numV (firstK 2 0 rows)) fs3)):=upd_same
 have x5:SX f H (upd H5 f (.ins CF dx (putF "tail_number" (numV (firstK 2 0 rows)) fs3))):=(x4.same s5).upd
 have e5:upd H5 f (.ins CF dx (putF "tail_number" (numV (firstK 2 0 rows)) fs3)) l1 = some (.lst (ps.map V.ref)):=by rw [upd_ne (ne_of e4 f3 (by intro z; cases z))]; exact s5 _ _ e4
 have g5:upd H5 f (.ins CF dx (putF "tail_number" (numV (firstK 2 0 rows)) fs3)) l2 = some (.lst (bars.map V.str)):=by rw [upd_ne (ne_of g4 f3 (by intro z; cases z))]; exact s5 _ _ g4
 have p4:=putF_le "tail_number" (numV (firstK 2 0 rows)) fs3
 have r4:(putF "tail_number" (numV (firstK 2 0 rows)) fs3).lookup ("row" : Str) = some (.ref l1):=by rw [lookup_putF,if_neg (by decide +kernel)]; exact r3
 show tSeq _ _ _ _ (upd H5 f (.ins CF dx (putF "tail_number" (numV (firstK 2 0 rows)) fs3)))
 generalize hfs4:putF "tail_number" (numV (firstK 2 0 rows)) fs3 = fs4 at f5 x5 e5 g5 p4 r4 |-
 generalize upd H5 f (.ins CF dx fs4) = H6 at x5 f5 e5 g5 |-
 refine ⟨_,rfl,f,CF,dx,_,_,rfl,f5,FK.cl,FK.n1,r4,l1,ps,rows,4,rfl,by decide,e5,pats_sx hf nw x5 hp,hok,fun H7 s7=>?_⟩
 refine ⟨_,rfl,f,CF,dx,_,rfl,s7 _ _ f5,FK.cl,FK.n5,(by omega),?_⟩
 have f7:upd H7 f (.ins CF dx (putF "bag_number" (numV (firstK 4 0 rows)) fs4)) f = some (.ins CF dx (putF "bag_number" (numV (firstK 4 0 rows)) fs4)):=upd_same
 have x7:SX f H (upd H7 f (.ins CF dx (putF "bag_number" (numV (firstK 4 0 rows)) fs4))):=(x5.same s7).upd
 have e7:upd H7 f (.ins CF dx (putF "bag_number" (numV (firstK 4 0 rows)) fs4)) l1 = some (.lst (ps.map V.ref)):=by rw [upd_ne (ne_of e5 f5 (by intro z; cases z))]; exact s7 _ _ e5
 have g7:upd H7 f (.ins CF dx (putF "bag_number" (numV (firstK 4 0 rows)) fs4)) l2 = some (.lst (bars.map V.str)):=by rw [upd_ne (ne_of g5 f5 (by intro z; cases z))]; exact s7 _ _ g5
 have p5:=putF_le "bag_number" (numV (firstK 4 0 rows)) fs4
 have r5:(putF "bag_number" (numV (firstK 4 0 rows)) fs4).lookup ("row" : Str) = some (.ref l1):=by rw [lookup_putF,if_neg (by decide +kernel)]; exact r4
 generalize hfs5:putF "bag_number" (numV (firstK 4 0 rows)) fs4 = fs5 at f7 x7 e7 g7 p5 r5 |-
 generalize upd H7 f (.ins CF dx fs5) = H8 at x7 f7 e7 g7 |-
 have hp8:=pats_sx hf nw x7 hp
 refine ⟨_,rfl,f,CF,dx,_,_,rfl,f7,FK.cl,FK.n1,r5,l1,rfl,⟨_,SqL.of e7⟩,fun D2 hD2=>?_⟩
 refine dc_enum (K:=K) (xs:=ps.map V.ref) (fun i ys H'=>Same H8 H'/\H' D2 = some (.dK ys)/\ys = doorsF 0 [] (rows.take i)) ⟨same_new hD2 _,upd_same,rfl⟩ (fun i ys H' h=>SqL.of (h.1 _ _ e7)) ?_ ?_
 ·rintro i x p ys H' hlt hx ⟨sH,hDy,ey⟩ hpn
  obtain ⟨pa,hpa,rfl⟩:=refs_at hx
  obtain ⟨r,hr',dx',hdx⟩:=paired_at hp8 hpa
  have rok:=hok r (List.mem_of_getElem? hr')
  have C:=PP r.k rok.1
  have sp:=same_new hpn (.tup [.int (i:Nat),.ref pa])
  have hd2:=sp _ _ (sH _ _ hdx)
  have hDp:upd H' p (.tup [.int (i:Nat),.ref pa]) D2 = some (.dK ys):=by rw [upd_ne (ne_of_none hDy hpn)]; exact hDy
  have nl:ys.length<=i:=by
   rw [ey]
   refine Nat.le_trans (doors_len _ _ _) ?_
   rw [List.length_take]
   show 0 + _<=i
   omega
  refine ⟨p,_,rfl,SqT.of upd_same,rfl,_,_,rfl,_,_,rfl,rfl,?_⟩
  refine ⟨_,rfl,pa,_,dx',_,rfl,⟨r.k,rok.1,rfl⟩,hd2,pf_no (by decide +kernel) (by decide +kernel) (by decide +kernel),pa,dx',_,_,_,_,rfl,C,hd2,_,rfl,?_⟩
  rw [in_nm r.k rok.1]
  have tk:=doorsF_take rows 0 i [] hr'
  refine ⟨fun e=>?_,fun e=>?_⟩
  ·rw [e,if_pos rfl] at tk
   refine ⟨_,rfl,pa,_,dx',_,_,rfl,hd2,C.cl,C.nN,pf_name,_,rfl,dcN.mk (.inr r.z) hlt rfl (le1000 (by rw [List.length_map,hp.length]; omega)) hDp nl ⟨fun b u e=>?_,upd_same,?_⟩⟩
   ·rw [upd_ne (ne_of_none e hD2)]
    exact sp _ _ (sH b u e)
   ·rw [tk,<- ey,Nat.zero_add]
  ·rw [e,if_neg Bool.false_ne_true] at tk
   exact dcS.mk hlt ⟨sH.trans sp,hDp,by rw [ey,tk]⟩
 rintro ys H9 ⟨s9,hDy,ey⟩
 rw [List.length_map,hp.length,List.take_length] at ey
 refine ⟨_,rfl,f,CF,dx,_,rfl,s9 _ _ f7,FK.cl,FK.n6,(by omega),?_⟩
 have nf:∀ {x:Addr} {o:HO},H9 x = some o->(∀ C d g,o ≠ .ins C d g)->upd H9 f (.ins CF dx (putF "doors" (.ref D2) fs5)) x = some o:=fun {x o} e n=>by
  rw [upd_ne (ne_of e (s9 _ _ f7) (by intro z; exact n _ _ _ z))]
  exact e
 refine q _ (x7.same s9).upd ⟨dx,_,l1,l2,D2,ps,upd_same,?_,nf (s9 _ _ e7) (by intro _ _ _ z; cases z),pats_sx hf nw (x7.same s9).upd hp,nf (s9 _ _ g7) (by intro _ _ _ z; cases z),nf (by rw [hDy,ey]) (by intro _ _ _ z; cases z),hl1,hlb⟩ ⟨dx,_,upd_same,Nat.le_trans (putF_le _ _ _) (by omega)⟩
 rw [<- hfs5,<- hfs4,<- hfs3,<- hfs2]
 refine ⟨?_,?_,?_,?_,?_,?_,fun mm hm=>?_⟩
 ·rw [lookup_putF,if_neg (by decide +kernel),lookup_putF,if_neg (by decide +kernel),lookup_putF,if_neg (by decide +kernel),lookup_putF,if_neg (by decide +kernel),lookup_putF,if_neg (by decide +kernel),lookup_putF,if_pos rfl]
 ·rw [lookup_putF,if_neg (by decide +kernel),lookup_putF,if_neg (by decide +kernel),lookup_putF,if_neg (by decide +kernel),lookup_putF,if_neg (by decide +kernel),lookup_putF,if_pos rfl]
 ·rw [lookup_putF,if_neg (by decide +kernel),lookup_putF,if_neg (by decide +kernel),lookup_putF,if_neg (by decide +kernel),lookup_putF,if_pos rfl]
 ·rw [lookup_putF,if_neg (by decide +kernel),lookup_putF,if_neg (by decide +kernel),lookup_putF,if_pos rfl]
 ·rw [lookup_putF,if_neg (by decide +kernel),lookup_putF,if_pos rfl]
 ·rw [lookup_putF,if_pos rfl]
 ·have h':∀ a ∈ attrs,¬ mm = a:=fun a ha e=>hm (e ▸ ha)
  rw [lookup_putF,if_neg (h' _ (by decide +kernel)),lookup_putF,if_neg (h' _ (by decide +kernel)),lookup_putF,if_neg (h' _ (by decide +kernel)),lookup_putF,if_neg (h' _ (by decide +kernel)),lookup_putF,if_neg (h' _ (by decide +kernel)),lookup_putF,if_neg (h' _ (by decide +kernel))]
  exact pn mm hm
end
def spFI (c:C5) (CF:Addr):Sp:=fun vs H Q _=>∃ (f a dx:Addr) (bv:V) (ps:List Addr) (rows:List Rw) (bars:List Str),vs = [.ref f,.ref a,bv]/\H f = some (.ins CF dx [])/\H a = some (.lst (ps.map V.ref))/\Paired (PAt c H) ps rows/\((bv = .non/\bars = [])\/∃ b,bv = .ref b/\H b = some (.lst (bars.map V.str)))/\Valid rows bars/\
 ∀ H',SX f H H'->FormN c CF H H' f rows bars->(∃ dx' fs',H' f = some (.ins CF dx' fs')/\fs'.length<=6)->Q .non H'
def spPars (c:C5) (CF:Addr):Sp:=fun vs H Q _=>∃ (f:Addr) (rows:List Rw) (bars:List Str),vs = [.ref f]/\FormAt c CF H f rows bars/\∀ (l:Addr) (ps:List Addr) (H':Hp),Same H H'->H l = none->H' l = some (.lst (ps.map V.ref))->Paired (PAt c H') ps rows->Q (.ref l) H'
def spBars (c:C5) (CF:Addr):Sp:=fun vs H Q _=>∃ (f:Addr) (rows:List Rw) (bars:List Str),vs = [.ref f]/\FormAt c CF H f rows bars/\∀ (l:Addr) (H':Hp),Same H H'->H l = none->H' l = some (.lst (bars.map V.str))->Q (.ref l) H'
def spPlaces (c:C5) (CF:Addr):Sp:=fun vs H Q _=>∃ (f:Addr) (rows:List Rw) (bars:List Str),vs = [.ref f]/\FormAt c CF H f rows bars/\Q (.int (plN rows:Nat)) H
def spWord (c:C5) (CF:Addr) (kk:Nat):Sp:=fun vs H Q _=>∃ (f:Addr) (rows:List Rw) (bars:List Str),vs = [.ref f]/\FormAt c CF H f rows bars/\Q (numV (firstK kk 0 rows)) H
def spNum (c:C5) (CF:Addr):Sp:=fun vs H Q _=>∃ (f:Addr) (z:Str) (rows:List Rw) (bars:List Str),vs = [.ref f,.str z]/\FormAt c CF H f rows bars/\Q ((valV (doorsF 0 [] rows) (.inr z)).getD .non) H
def TAt (H:Hp) (u:Addr) (r:Rw):Prop:=H u = some (.tup (rv r))
theorem tats_same {H H':Hp} {us:List Addr} {rows:List Rw} (s:Same H H') (h:Paired (TAt H) us rows):Paired (TAt H') us rows:=Paired.imp' (fun _ _ z=>s _ _ z) h
section
variable {P:Program} {w:World} {K:PySem.W.Frag} {mg:Str->Option Value} {base:Heap} {f G sg CF:Addr} {fd:FuncData} {c:C5} {m:MA}
theorem scFInit:FnScope ["self","parameters","bars","names"] ["self","parameters","bars"] (defScope sFInit):=⟨rfl,rfl,rfl,by decide +kernel,rfl,by decide +kernel,by decide +kernel⟩
theorem ok_finit {ds:List Value} {g1 g2 g3 g4 g5:Addr} {e1 e2 e3 e4 e5:FuncData} (F:FunD K "__init__" "Form.__init__" sFInit f fd ds) (FK:FC K CF) (mK:Meth K CF "keep" g5)
  (cM:Callee P w K mg base 1 "refuse_too_many" g1 e1 ["parameters","bars"] (spMany K)) (cO:Callee P w K mg base 1 "refuse_bad_order" g2 e2 ["parameters"] (spOrd c)) (cB':Callee P w K mg base 2 "refuse_bars_without_name" g3 e3 ["bars"] spRB) (cT:Callee P w K mg base 2 "refuse_twice" g4 e4 ["parameters","bars"] (spTw c))
  (GK:FnOk P w K mg base CX0 2 g5 e5 ["self","parameters","bars"] (spKeep c CF)) (bK:Binds K e5 ["self","parameters","bars"] []):FnOk P w K mg base CX0 3 f fd ["self","parameters","bars"] (spFI c CF):=by
 refine F.ok scFInit (fun vs H Q E h=>?_) (fun cdv A outer s H vs Q E hr h=>?_)
 ·obtain ⟨f,a,dx,bv,ps,rows,bars,rfl,_⟩:=h
  rfl
 obtain ⟨f,a,dx,bv,ps,rows,bars,rfl,hf,ha,hp,hb,V',q⟩:=h
 have hr1:Room 1 _:=hr.mono (by decide)
 refine ⟨_,pss_cons (ps_set (i:=3) scFInit.nd rfl (Or.inl rfl) (pe_ifExp (pt_cmp (pc_isN (pv 2))) (pe_lst pa_nil) (pv 2)))
  (pss_cons (ps_expr (cF cM hr1 (ac (pv 1) (ac (pv 3) pa_nil))))
  (pss_cons (ps_expr (cF cO hr1 (ac (pv 1) pa_nil)))
  (pss_cons (ps_expr (cF cB' hr (ac (pv 3) pa_nil)))
  (pss_cons (ps_expr (cF cT hr (ac (pv 1) (ac (pv 3) pa_nil))))
  (pss_one (ps_expr (pe_meth (pv 0) FK.cl mK GK hr bK .nil pass0 (ac (pv 1) (ac (pv 3) pa_nil))))))))),?_⟩
 try dsimp only
 refine seq_via (fun σ' H'=>∃ b,σ' = [some (.ref f),some (.ref a),some bv,some (.ref b)]/\Same H H'/\H' b = some (.lst (bars.map V.str))) ?_ (fun key=>?_)
 rotate_left
 ·rcases hb with ⟨rfl,rfl⟩ | ⟨b,rfl,hb⟩
  ·refine ⟨_,rfl,_,rfl,?_⟩
   refine dT rfl ?_
   refine ⟨(by show 0<=sizeLine; decide),fun l hl=>?_⟩
   exact key _ _ ⟨l,rfl,same_new hl _,upd_same⟩
  ·refine ⟨_,rfl,_,rfl,?_⟩
   refine dF (by intro z; cases z) ?_
   exact ⟨_,rfl,key _ _ ⟨b,rfl,Same.refl _,hb⟩⟩
 rintro σ1 H1 ⟨b,rfl,s1,hb1⟩
 have ha1:=s1 _ _ ha
 refine ⟨_,rfl,_,rfl,a,b,_,_,rfl,SqL.of ha1,SqL.of hb1,(by rw [List.length_map,hp.length]; exact V'.l24),(by rw [List.length_map]; exact V'.l60),?_⟩
 refine ⟨_,rfl,a,ps,rows,rfl,ha1,pats_same s1 hp,V'.ok,V'.ord,fun H2 s2=>?_⟩
 refine ⟨_,rfl,b,bars,rfl,s2 _ _ hb1,V'.bn,fun H3 s3=>?_⟩
 have s13:=s1.trans (s2.trans s3)
 refine ⟨_,rfl,_,rfl,a,b,ps,rows,bars,rfl,s13 _ _ ha,pats_same s13 hp,V'.ok,Nat.le_trans V'.l24 (by decide),s3 _ _ (s2 _ _ hb1),Nat.le_trans V'.l60 (by decide),V'.nd,fun H4 s4=>?_⟩
 have s14:=s13.trans s4
 refine ⟨_,rfl,f,dx,_,rfl,s14 _ _ hf,rfl,_,rfl,_,rfl,f,a,b,dx,[],ps,rows,bars,rfl,s14 _ _ hf,⟨by decide,fun _ _=>rfl⟩,s14 _ _ ha,pats_same s14 hp,V'.ok,Nat.le_trans V'.l24 (by decide),s4 _ _ (s3 _ _ (s2 _ _ hb1)),fun H5 x5 F5 L5=>?_⟩
 exact q _ (fun b' u e n=>x5 b' u (s14 _ _ e) n) (F5.of s14) L5
theorem scFPars:FnScope ["self"] ["self"] (defScope sFPars):=⟨rfl,rfl,rfl,by decide +kernel,rfl,by decide +kernel,by decide +kernel⟩
theorem ok_fpars (F:Fun K "parameters" "Form.parameters" sFPars f fd) (T:TxtF w K mg G sg) (FK:FC K CF):FnOk P w K mg base CX0 1 f fd ["self"] (spPars c CF):=by
 refine F.ok scFPars (fun vs H Q E h=>?_) (fun cdv A outer s H vs Q E hr h=>?_)
 ·obtain ⟨f,rows,bars,rfl,_⟩:=h
  rfl
 obtain ⟨f,rows,bars,rfl,⟨dx,fs,lr,lb,ld,ps,h1,h2,h3,h4,h5,h6⟩,q⟩:=h
 refine ⟨_,pss_one (ps_ret (cTy call_list_of T.lst PyProof.Rows.boot_list (ac (pe_fld (pv 0) rfl) pa_nil))),?_⟩
 refine ⟨_,rfl,f,CF,dx,_,_,rfl,h1,FK.cl,FK.n1,h2.row,lr,_,rfl,.inl (SqL.of h3),fun l hl=>?_⟩
 have s1:=same_new hl (.lst (ps.map V.ref))
 exact q l ps _ s1 hl upd_same (pats_same s1 h4)
theorem scFBars:FnScope ["self"] ["self"] (defScope sFBars):=⟨rfl,rfl,rfl,by decide +kernel,rfl,by decide +kernel,by decide +kernel⟩
theorem ok_fbars (F:Fun K "bars" "Form.bars" sFBars f fd) (T:TxtF w K mg G sg) (FK:FC K CF):FnOk P w K mg base CX0 1 f fd ["self"] (spBars c CF):=by
 refine F.ok scFBars (fun vs H Q E h=>?_) (fun cdv A outer s H vs Q E hr h=>?_)
 ·obtain ⟨f,rows,bars,rfl,_⟩:=h
  rfl
 obtain ⟨f,rows,bars,rfl,⟨dx,fs,lr,lb,ld,ps,h1,h2,h3,h4,h5,h6⟩,q⟩:=h
 refine ⟨_,pss_one (ps_ret (cTy call_list_of T.lst PyProof.Rows.boot_list (ac (pe_fld (pv 0) rfl) pa_nil))),?_⟩
 refine ⟨_,rfl,f,CF,dx,_,_,rfl,h1,FK.cl,FK.n2,h2.bn,lb,_,rfl,.inl (SqL.of h5),fun l hl=>?_⟩
 exact q l _ (same_new hl _) hl upd_same
theorem scFPlaces:FnScope ["self"] ["self"] (defScope sFPlaces):=⟨rfl,rfl,rfl,by decide +kernel,rfl,by decide +kernel,by decide +kernel⟩
theorem ok_fplaces (F:Fun K "places" "Form.places" sFPlaces f fd) (FK:FC K CF):FnOk P w K mg base CX0 1 f fd ["self"] (spPlaces c CF):=by
 refine F.ok scFPlaces (fun vs H Q E h=>?_) (fun cdv A outer s H vs Q E hr h=>?_)
 ·obtain ⟨f,rows,bars,rfl,_⟩:=h
  rfl
 obtain ⟨f,rows,bars,rfl,⟨dx,fs,lr,lb,ld,ps,h1,h2,h3,h4,h5,h6⟩,q⟩:=h
 exact ⟨_,pss_one (ps_ret (pe_fld (pv 0) rfl)),_,rfl,f,CF,dx,_,_,rfl,h1,FK.cl,FK.n3,h2.pc,q⟩
theorem scFTail:FnScope ["self"] ["self"] (defScope sFTail):=⟨rfl,rfl,rfl,by decide +kernel,rfl,by decide +kernel,by decide +kernel⟩
theorem ok_ftail (F:Fun K "tail" "Form.tail" sFTail f fd) (FK:FC K CF):FnOk P w K mg base CX0 1 f fd ["self"] (spWord c CF 2):=by
 refine F.ok scFTail (fun vs H Q E h=>?_) (fun cdv A outer s H vs Q E hr h=>?_)
 ·obtain ⟨f,rows,bars,rfl,_⟩:=h
  rfl
 obtain ⟨f,rows,bars,rfl,⟨dx,fs,lr,lb,ld,ps,h1,h2,h3,h4,h5,h6⟩,q⟩:=h
 exact ⟨_,pss_one (ps_ret (pe_fld (pv 0) rfl)),_,rfl,f,CF,dx,_,_,rfl,h1,FK.cl,FK.n4,h2.tn,q⟩
theorem scFBag:FnScope ["self"] ["self"] (defScope sFBag):=⟨rfl,rfl,rfl,by decide +kernel,rfl,by decide +kernel,by decide +kernel⟩
theorem ok_fbag (F:Fun K "bag" "Form.bag" sFBag f fd) (FK:FC K CF):FnOk P w K mg base CX0 1 f fd ["self"] (spWord c CF 4):=by
 refine F.ok scFBag (fun vs H Q E h=>?_) (fun cdv A outer s H vs Q E hr h=>?_)
 ·obtain ⟨f,rows,bars,rfl,_⟩:=h
  rfl
 obtain ⟨f,rows,bars,rfl,⟨dx,fs,lr,lb,ld,ps,h1,h2,h3,h4,h5,h6⟩,q⟩:=h
 exact ⟨_,pss_one (ps_ret (pe_fld (pv 0) rfl)),_,rfl,f,CF,dx,_,_,rfl,h1,FK.cl,FK.n5,h2.bg,q⟩
theorem scFNum:FnScope ["self","name"] ["self","name"] (defScope sFNum):=⟨rfl,rfl,rfl,by decide +kernel,rfl,by decide +kernel,by decide +kernel⟩
theorem ok_fnum (F:Fun K "number_of" "Form.number_of" sFNum f fd) (FK:FC K CF):FnOk P w K mg base CX0 1 f fd ["self","name"] (spNum c CF):=by
 refine F.ok scFNum (fun vs H Q E h=>?_) (fun cdv A outer s H vs Q E hr h=>?_)
 ·obtain ⟨f,z,rows,bars,rfl,_⟩:=h
  rfl
 obtain ⟨f,z,rows,bars,rfl,⟨dx,fs,lr,lb,ld,ps,h1,h2,h3,h4,h5,h6⟩,q⟩:=h
 refine ⟨_,pss_one (ps_ret (pe_dget1 (hu_of hr) (pe_fld (pv 0) rfl) (pv 1) ⟨rfl,rfl,rfl,rfl⟩)),?_⟩
 refine ⟨_,rfl,f,CF,dx,_,_,rfl,h1,FK.cl,FK.n6,h2.dr,ld,rfl,?_,_,rfl,_,.inl ⟨_,.inr z,.inl h6,rfl,rfl⟩,q⟩
 exact .inl ⟨_,.inl h6⟩
end
end K32
namespace L2
open PySem PySem.Spec PyProof.Rows
section
variable {X:Cx} {pins:List (Addr × Obj)} {σ : St} {H:Hp} {s:Shared}
theorem Inv.freeze (I:Inv X pins σ H s) {l:Addr} {kvs:List (Key × V)} (hl:H l = some (.dK kvs)):∃ o,s.heap.get? l = some o/\Inv X pins σ (upd H l (.frz o (.dK kvs))) s:=by
 obtain ⟨hz,hy,vs,r,o,es,ep,ho,c⟩:=id (I.hok l _ hl)
 refine ⟨o,ho,⟨I.ok,I.os,I.bare,⟨I.base.keep,I.base.slot,fun b u e n x=>?_,I.base.there,fun b xs e=>?_,fun b u v e=>?_,fun b ps e=>?_⟩,I.loc,I.cell,?_,fun x c e=>?_,fun p hp'=>?_,fun b u e=>?_,I.len⟩⟩
 ·have e1:=I.base.free b u e n x
  rw [upd_ne (ne_of_none hl e1).symm]; exact e1
 ·have e1:=I.base.tups b xs e
  rw [upd_ne (ne_of e1 hl (by intro z; cases z))]; exact e1
 ·have e1:=I.base.frzs b u v e
  rw [upd_ne (ne_of e1 hl (by intro z; cases z))]; exact e1
 ·obtain ⟨more,e1⟩:=I.base.tbls b ps e
  exact ⟨more,by rw [upd_ne (ne_of e1 hl (by intro z; cases z))]; exact e1⟩
 ·rw [upd_ne (ne_of_none hl I.free).symm]; exact I.free
 ·rw [upd_ne (ne_of_none hl (I.freeC x c e)).symm]; exact I.freeC x c e
 ·obtain ⟨q1,q2,q3⟩:=I.pin p hp'
  exact ⟨q1,by rw [upd_ne (ne_of_none hl q2).symm]; exact q2,q3⟩
 ·have ho':∀ c,∀ b,H b = some (.own c)->upd H l (.frz o (.dK kvs)) b = some (.own c):=fun c b q=>by rw [upd_ne (ne_of q hl (by intro z; cases z))]; exact q
  have ht':∀ b xs,H b = some (.tup xs)->upd H l (.frz o (.dK kvs)) b = some (.tup xs):=fun b xs q=>by rw [upd_ne (ne_of q hl (by intro z; cases z))]; exact q
  by_cases hb:b = l
  ·subst hb; rw [upd_same] at e; cases e
   exact ⟨ho,(I.hok b _ hl).stay (fun _ _ _ q=>q) (ho' b) ht'⟩
  ·rw [upd_ne hb] at e
   exact (I.hok b u e).stay (fun _ _ _ q=>q) (ho' b) ht'
def tFrz (te:TE):TE:=fun σ H Q=>te σ H fun x H1=>∃ l kvs,x = .ref l/\H1 l = some (.dK kvs)/\∀ o,Q x (upd H1 l (.frz o (.dK kvs)))
theorem pe_frz {e:Expr} {te:TE} (h:PE X e te):PE X e (tFrz te):=by
 refine ⟨?_⟩
 intro pins s σ H Q I hw
 refine thn (h pins s σ H _ I hw) fun v s1 ⟨x,H1,I1,r1,l,kvs,ex,hl,q⟩=>?_
 obtain ⟨o,_,I2⟩:=I1.freeze hl
 exact ⟨x,_,I2,r1,q o⟩
end
theorem rel_key {k:Key} {u:Value} (h:keyIs k u = true):RelV (kV k) u:=by
 rcases keyIs_shape h with ⟨i,t,rfl,rfl⟩ | ⟨x,t,rfl,rfl⟩
 ·exact ⟨t,rfl⟩
 ·exact ⟨t,rfl⟩
def Itd (d:Addr) (o:Obj) (kvs:List (Key × V)):It:=
 ⟨fun i H=>H d = some (.frz o (.dK kvs))/\i < kvs.length,fun i H x H'=>∃ (p:Addr) (k:Key) (v:V),x = .ref p/\H p = none/\kvs[i]? = some (k,v)/\H' = upd H p (.tup [kV k,v]),fun i H=>H d = some (.frz o (.dK kvs))/\kvs.length<=i⟩
theorem frz_at {X:Cx} {pins:List (Addr × Obj)} {σ : St} {H:Hp} {s:Shared} {d:Addr} {o:Obj} {kvs:List (Key × V)} {es:Array DictEntry} {ep:Nat} (I:Inv X pins σ H s) (hd:H d = some (.frz o (.dK kvs))) (ho:o.data = .dict es ep) :
  (d == sysModules) = false/\∃ vs,KV kvs vs/\s.heap.DictAt (mixKind X.prog X.w) d vs ep:=by
 obtain ⟨e,hz,hy,vs,r,o',es',ep',ho',c1,c2,c3⟩:=id (I.hok d _ hd)
 rw [e] at ho'
 cases ho'
 rw [ho] at c2
 cases c2
 exact ⟨hy,vs,r,o,es,e,c1,ho,c3⟩
theorem entry_itemiter_iter:entryFor table "dict_itemiterator.__iter__" = some Builtin.«dict_keyiterator.__iter__»:=entryFor_alias (id':="dict_keyiterator.__iter__") (by kernel_rfl) (by first | rfl | decide +kernel | (unfold String.splitOn; simp +decide [String.splitOnAux])) (by decide +kernel) (by kernel_rfl)
theorem wpAny_pyIter_itemiter {P:Program} {w:World} {A:Around} {E:Value->Shared->Prop} {s:Shared} {it d:Addr} {i n ep:Nat} {ok ov:Value} {Q:Value->Shared->Prop} (he:IsItemIter s.heap it d i n ep ok ov) (h:Q (.ref it) s):wpAny (model P w) A (pyIter (.ref it)) Q E s:=by
 have hT:s.TypeIs (.ref it) "dict_itemiterator":=⟨_,he,rfl⟩
 refine wpAny_pyIter_slot hT F.slot_dict_itemiterator_iter (wpAny_call_entry F.slot_dict_itemiterator_iter hT entry_itemiter_iter ?_ (F.args_dict_itemiterator_iter_1 _))
 show wpAny _ _ (ret (.ref it)) _ _ s
 exact wpAny_pure ⟨_,rfl,"dict_itemiterator",_,hT,F.slot_dict_itemiterator_next.lookup,h⟩
theorem turn_items {P:Program} {w:World} {K:PySem.W.Frag} {elts:List Expr} {x1:Nat} {tpos:Pos} (d it:Addr) (o:Obj) (kvs:List (Key × V)) (es:Array DictEntry) (ep:Nat) (ho:o.data = .dict es ep) :
  Turn P w K (.Tuple elts x1 tpos) (Itd d o kvs) [it] it (fun i h=>∃ ok ov,IsItemIter h it d i kvs.length ep ok ov) where
 mem:=by simp
 obj:=fun i h st b hb=>by
  have e':b = it:=by simpa using hb
  subst e'
  obtain ⟨ok,ov,hi⟩:=st
  exact ⟨_,hi,fun v q=>by cases q⟩
 keep:=fun i h h' st k=>by
  obtain ⟨ok,ov,hi⟩:=st
  exact ⟨ok,ov,k it (by simp) _ hi⟩
 item:=by
  intro X hP hw hK hc i pins s σ H E I hf st hg
  subst hP hw hK
  obtain ⟨f0,f1,f2,f3,f4,f5⟩:=hf it (by simp)
  obtain ⟨ok,ov,hit⟩:=st
  obtain ⟨hd,hlt⟩:=hg
  obtain ⟨hy,vs,r,hm⟩:=frz_at I hd ho
  have hl:kvs.length = vs.length:=r.length
  obtain ⟨⟨k2,u⟩,hu,ek,ru⟩:=Paired.get r (List.getElem?_eq_getElem hlt)
  rw [hl] at hit
  obtain ⟨k,v,hkv⟩:∃ k v,kvs[i] = (k,v):=⟨_,_,rfl⟩
  have ek:k = k2:=by rw [hkv] at ek; exact ek
  have ru2:RelV v u:=by rw [hkv] at ru; exact ru
  subst ek
  refine wpAny_pyNext_items_item hit hm hu fun key h' hk2 he' htup hsz hkp=>?_
  have rk:RelV (kV k) key:=rel_key hk2
  have I0:Inv X pins σ H { s with heap:=h' }:=I.turned (t':=s.toks) (it:=it) hkp f0 f1 f3 f4 f5
  have hfr:H s.heap.objs.size = none:=I.hok.fresh (Nat.le_refl _)
  have I1:Inv X pins σ (upd H s.heap.objs.size (.tup [kV k,v])) { s with heap:=h' }:=by
   have hok:HOk X.prog X.w (upd H s.heap.objs.size (.tup [kV k,v])) h':=fun b o q=>by
    by_cases hb:b = s.heap.objs.size
    ·subst hb
     rw [upd_same] at q; cases q
     exact ⟨by show 2<=sizeLine; decide,[key,u],.cons rk (.cons ru2 .nil),⟨_,htup,rfl,_,rfl⟩⟩
    ·rw [upd_ne hb] at q
     exact (I0.hok b o q).stay (fun _ _ _ z=>z) (fun c z=>by rw [upd_ne (ne_of_none z hfr)]; exact z) fun c xs' z=>by rw [upd_ne (ne_of_none z hfr)]; exact z
   refine I0.step (s:={ s with heap:=h' }) (g':=s.gens) (d':=s.drawn) (h':=h') (t':=s.toks) (ch:=[s.heap.objs.size]) (fun b hb=>?_) (fun b o _ _ _ e1 _=>e1) (fun b o _ _ _ e1 _=>⟨o.slots,e1⟩) (fun b o hb e1 n=>by rw [upd_ne (fun z=>hb (by simp [z]))]; exact n)
    (fun b o _ e1=>⟨o,e1⟩) (fun b xs' e1=>by rw [upd_ne (ne_of_none e1 hfr)]; exact e1) (fun b o' u' e1=>by rw [upd_ne (ne_of_none e1 hfr)]; exact e1) (fun b ps e1=>⟨#[],by rw [upd_ne (ne_of_none e1 hfr),e1]; simp⟩) (fun m hm=>hm) hok I0.bare
   have e':b = s.heap.objs.size:=by simpa using hb
   subst e'
   refine ⟨.inr I.sz,fun z=>?_,fun y c h z=>?_,fun p hp' z=>?_⟩
   ·have:=I.lt; rw [<- z] at this; exact absurd this (Nat.lt_irrefl _)
   ·obtain ⟨v',hv⟩:=I.cell y c h
    have:=hv.lt; rw [z] at this; exact absurd this (Nat.lt_irrefl _)
   ·have:=I.pin_lt hp'; rw [z] at this; exact absurd this (Nat.lt_irrefl _)
  refine ⟨_,rfl,wpAny_letOwnedTupleGo_items he' fun h2 he2 hs2=>?_⟩
  have nis:s.heap.objs.size ≠ it:=fun z=>by
   have:=Heap.lt_size (show s.heap.get? it = some _ from hit)
   rw [<- z] at this; exact absurd this (Nat.lt_irrefl _)
  have I2:Inv X pins σ (upd H s.heap.objs.size (.tup [kV k,v])) { s with heap:=h2 }:=
   I1.turned (s:={ s with heap:=h' }) (t':=s.toks) (it:=it) (fun b o hb q=>(hs2.2 b hb).trans q) (by rw [upd_ne nis.symm]; exact f0) f1 f3 f4 f5
  refine ⟨.ref s.heap.objs.size,_,I2,rfl,⟨_,k,v,rfl,hfr,by rw [List.getElem?_eq_getElem hlt,hkv],rfl⟩,⟨_,_,by rw [hl]; exact he2⟩,fun b hb=>?_⟩
  have e':b = it:=by simpa using hb
  subst e'
  rw [upd_ne nis.symm]; exact f0
 done:=by
  intro X hP hw hK hc i pins s σ H E I hf st hg
  subst hP hw hK
  obtain ⟨ok,ov,hit⟩:=st
  obtain ⟨f0,f1,f2,f3,f4,f5⟩:=hf it (by simp)
  obtain ⟨hd,hle⟩:=hg
  obtain ⟨hy,vs,r,hm⟩:=frz_at I hd ho
  have hl:kvs.length = vs.length:=r.length
  rw [hl] at hit
  exact wpAny_pyNext_items_end (I.ok.hd hc) hit hm (List.getElem?_eq_none (by omega)) fun h' eb=>⟨rfl,I.turned (t':=s.toks) (fun b o hb e1=>eb b o hb e1) f0 f1 f3 f4 f5⟩
 self:=fun A i s Q E st h=>by
  obtain ⟨ok,ov,hit⟩:=st
  exact wpAny_pyIter_itemiter hit h
section
variable {X:Cx} {elts:List Expr} {x1:Nat} {tpos:Pos}
def iItems (te:TE):TI:=fun σ H R=>te σ H fun x H1=>∃ d o kvs,x = .ref d/\H1 d = some (.frz o (.dK kvs))/\R (Itd d o kvs) H1
theorem pi_items {l:Expr} {te:TE} {apos cpos:Pos} (hl:PE X l te) (hbase:attributeBase l "items" X.env (eval l X.env) = eval l X.env:=by rfl) (hline:(apos.endLine == cpos.line) = true:=by rfl) :
  PI X (.Tuple elts x1 tpos) (.Call (.Attribute l "items" apos) [] [] cpos) (iItems te):=by
 refine ⟨?_⟩
 intro pins s σ H R I h
 refine wpAny_Call_method0_late hbase hline (thn (hl pins s σ H _ I h) fun v s1 ⟨x,H1,I1,r1,d,o,kvs,ex,hd,q⟩=>?_)
 subst ex
 cases r1
 obtain ⟨e,hz,hy,vs,r,o',es,ep,ho',c1,c2,c3⟩:=id (I1.hok d _ hd)
 rw [e] at ho'
 cases ho'
 have hm:s1.heap.DictAt (mixKind X.prog X.w) d vs ep:=⟨o,es,e,c1,c2,c3⟩
 refine ⟨"dict","dict.items",F.plainAttrs_dict,F.slot_dict_items,F.type_dict_items,⟨o,e,c1.1⟩,fun a ea=>by cases ea; exact ⟨o,e,c1.2.1⟩,Calls.callWith_builtin rfl (PySem.evalArgs_none ?_)⟩
 refine call_meetsIn F.slot_dict_items ⟨o,e,c1.1⟩ F.entry_dict_items (F.args_dict_items_1 _) (meets_dict_items (mixKind X.prog X.w) d hy) ⟨⟨vs,hm.dictOf⟩,?_⟩
 show wpAny _ _ (pyIter (.ref s1.heap.objs.size)) _ _ _
 have hl:kvs.length = vs.length:=r.length
 refine wpAny_pyIter_items (knd:=mixKind X.prog X.w) (d:=d) (kvs:=vs) (ep:=ep) ⟨_,Heap.get?_push_size _ rfl,rfl,rfl⟩ (hm.push _) ?_
 have hk:∀ b ob,s1.heap.get? b = some ob->((s1.heap.push { cls:=.type "dict_items",data:=.fields #[.ref d] }).push { cls:=.type "dict_itemiterator",data:=.fields #[.none,.bool false,.ref d,.int 0 0,.int vs.length 0,.int ep 0,.none,.none] }).get? b = some ob:=fun b ob q=>Heap.get?_push_of_some _ (Heap.get?_push_of_some _ q)
 have I2:=I1.kept (t':=s1.toks) hk
 have hsz:(s1.heap.push { cls:=.type "dict_items",data:=.fields #[.ref d] }).objs.size = s1.heap.objs.size + 1:=Heap.size_push ..
 refine ⟨(s1.heap.push { cls:=.type "dict_items",data:=.fields #[.ref d] }).objs.size,[(s1.heap.push { cls:=.type "dict_items",data:=.fields #[.ref d] }).objs.size],_,Itd d o kvs,H1,rfl,I2,turn_items d _ o kvs es ep c2,⟨.none,.none,?_⟩,fun b hb=>?_,q⟩
 ·rw [hl]
  exact Heap.get?_push_size (s1.heap.push { cls:=.type "dict_items",data:=.fields #[.ref d] }) (o:={ cls:=.type "dict_itemiterator",data:=.fields #[.none,.bool false,.ref d,.int 0 0,.int vs.length 0,.int ep 0,.none,.none] }) rfl
 ·have e':b = (s1.heap.push { cls:=.type "dict_items",data:=.fields #[.ref d] }).objs.size:=by simpa using hb
  subst e'
  rw [hsz]
  exact I1.fpOk (Nat.le_succ _) (I1.hok.fresh (Nat.le_succ _))
theorem for_items {d:Addr} {o:Obj} {kvs:List (Key × V)} {g:TG} {tb:TS} {D:Ends} {σ : St} {H:Hp} (Pv:Nat->St->Hp->Prop) (h0:Pv 0 σ H) (hl:∀ i σ H,i<=kvs.length->Pv i σ H->H d = some (.frz o (.dK kvs)))
  (hs:∀ i k v p σ H,kvs[i]? = some (k,v)->Pv i σ H->H p = none->g (.ref p) σ (upd H p (.tup [kV k,v])) fun σ2 H2=>tb { D with nx:=Pv (i + 1),ct:=Pv (i + 1),bk:=D.nx } σ2 H2) (hd:∀ σ H,Pv kvs.length σ H->D.nx σ H) :
  ∃ W:Nat->Nat->St->Hp->Prop,(∃ m,W 0 m σ H)/\∀ i m σ H,W i m σ H->
   ((Itd d o kvs).stop i H/\D.nx σ H)\/((Itd d o kvs).go i H/\∃ N:St->Hp->Prop,(∀ σ' H',N σ' H'->∃ m',m' < m/\W (i + 1) m' σ' H')/\∀ x H',(Itd d o kvs).yld i H x H'->g x σ H' fun σ2 H2=>tb { D with nx:=N,ct:=N,bk:=D.nx } σ2 H2):=by
 refine ⟨fun i m σ H=>m = kvs.length - i/\i<=kvs.length/\Pv i σ H,⟨kvs.length,by simp,Nat.zero_le _,h0⟩,?_⟩
 rintro i m σ H ⟨rfl,hi,p⟩
 have q:=hl i σ H hi p
 by_cases hlt:i < kvs.length
 ·refine .inr ⟨⟨q,hlt⟩,Pv (i + 1),fun σ' H' p'=>⟨kvs.length - (i + 1),by omega,rfl,hlt,p'⟩,fun x H' y=>?_⟩
  obtain ⟨pp,k,v,rfl,hp,y2,rfl⟩:=y
  exact hs i k v pp σ H y2 p hp
 ·have e:i = kvs.length:=by omega
  subst e
  exact .inl ⟨⟨q,Nat.le_refl _⟩,hd σ H p⟩
end
theorem rc_T {X:Cx} {pins:List (Addr × Obj)} {σ : St} {H:Hp} {s:Shared} {A:Around} {a b:Addr} {xs ys:List V} (I:Inv X pins σ H s) (ha:SqT X.K H a xs) (hb:SqT X.K H b ys) (fx:xs.all flatV = true) (fy:ys.all flatV = true) (hu:A.units + 8 < cLine) :
  SeqAt.RcAt A s (.ref a) (.ref b) (eqT xs ys):=by
 obtain ⟨ia,va,pa,_⟩:=I.tuple ha
 obtain ⟨ib,vb,pb,_⟩:=I.tuple hb
 have la:ia.toArray.size = xs.length:=by rw [List.size_toArray]; exact va.length.symm
 have lb:ib.toArray.size = ys.length:=by rw [List.size_toArray]; exact vb.length.symm
 have:=SeqAt.RcAt.tuples (A:=A) (s:=s) (e:=fun j=>eqV (xs[j]?.getD .non) (ys[j]?.getD .non)) (show s.heap.IsTuple a ia.toArray from pa) (show s.heap.IsTuple b ib.toArray from pb) (by omega) (fun j h1 h2=>by
  have j1:j < ia.length:=by simpa using h1
  have j2:j < ib.length:=by simpa using h2
  have hxl:j < xs.length:=by rw [va.length]; exact j1
  have hyl:j < ys.length:=by rw [vb.length]; exact j2
  obtain ⟨u',e1,e2⟩:=va.get (i:=j) (List.getElem?_eq_getElem hxl)
  obtain ⟨v',e3,e4⟩:=vb.get (i:=j) (List.getElem?_eq_getElem hyl)
  rw [List.getElem?_eq_getElem j1] at e1
  rw [List.getElem?_eq_getElem j2] at e3
  cases e1; cases e3
  have q:=eqAt_V (A:=A.in1) (s:=s) e2 e4 (List.all_eq_true.mp fx _ (List.getElem_mem hxl)) (List.all_eq_true.mp fy _ (List.getElem_mem hyl))
  simpa [hxl,hyl] using q)
 rw [la,lb] at this
 exact this
def rEqTup (K:PySem.W.Frag):R2:=fun x y H Q=>∃ (a c:Addr) (xs ys:List V),x = .ref a/\y = .ref c/\SqT K H a xs/\SqT K H c ys/\xs.all flatV = true/\ys.all flatV = true/\Q (.bl (eqT xs ys)) H
theorem op_eqTup {X:Cx} (hu:X.A.units + 64 < cLine):OpR X (compareOp .Eq) (rEqTup X.K):=by
 intro pins s σ H x y v u Q I rx ry h
 obtain ⟨a,c,xs,ys,rfl,rfl,ha,hc,fx,fy,q⟩:=h
 cases rx; cases ry
 exact rc_T (A:=X.A) I ha hc fx fy (by omega) X.prog X.w X.xe _ ⟨.bl _,H,I,rfl,q⟩
end L2
namespace K32
open PySem L2 PyProof.Rows
inductive Item where
 | one (t:Int) | row (ts:List Int) | named (n:Str) (t:Int) | book (ps:List (Str × Int))
def pairD (p:Str × Int):Dt:=.tup [.str p.1,.int p.2]
def itemD:Item->Dt
 | .one t=>.tup [.str "one",.int t]
 | .row ts=>.tup [.str "row",.lst (ts.map .int)]
 | .named n t=>.tup [.str "named",.str n,.int t]
 | .book ps=>.tup [.str "book",.lst (ps.map pairD)]
def itT:Item->List Int
 | .one t=>[t]
 | .row ts=>ts
 | _=>[]
def itP:Item->List (Str × Int)
 | .named n t=>[(n,t)]
 | .book ps=>ps
 | _=>[]
def laidT (c:List Item):List Int:=(c.map itT).flatten
def laidP (c:List Item):List (Str × Int):=(c.map itP).flatten
abbrev T':Addr->Prop:=fun _=>True
def Two (K:PySem.W.Frag) (H H':Hp) (p:Addr) (ts:List Int) (ps:List (Str × Int)):Prop:=
 ∃ l1 l2 xs,H l1 = none/\H l2 = none/\l1 ≠ l2/\H p = none/\H' p = some (.tup [.ref l1,.ref l2])/\H' l1 = some (.lst (ts.map V.int))/\H' l2 = some (.lst xs)/\Paired (Says K T' H' 1) xs (ps.map pairD)
def spLaid (K:PySem.W.Frag):Sp:=fun vs H Q _=>∃ (a:Addr) (c:List Item) (xs:List V),vs = [.ref a]/\SqL K H a xs/\Paired (Says K T' H 3) xs (c.map itemD)/\(laidT c).length<=900/\(laidP c).length<=900/\
 ∀ (p:Addr) (H':Hp),Same H H'->Two K H H' p (laidT c) (laidP c)->Q (.ref p) H'
section
variable {P:Program} {w:World} {K:PySem.W.Frag} {mg:Str->Option Value} {base:Heap} {f:Addr} {fd:FuncData}
end
section
variable {K:PySem.W.Frag} {ok:Addr->Prop} {H H':Hp} {n:Nat} {x:V}
theorem says_int {i:Int} (h:Says K ok H n x (.int i)):x = .int i:=by
 have fl:FlatD x (.int i)->x = .int i:=fun h=>by
  cases x <;> first | exact h.elim | (have e:=(show _ = _ from h); rw [e])
 cases n with
 | zero=>exact fl h
 | succ n=>
  rcases h with h | ⟨_,_,_,_,e,_⟩ | ⟨_,_,_,_,e,_⟩
  ·exact fl h
  ·cases e
  ·cases e
theorem says_str {z:Str} (h:Says K ok H n x (.str z)):x = .str z:=by
 have fl:FlatD x (.str z)->x = .str z:=fun h=>by
  cases x <;> first | exact h.elim | (have e:=(show _ = _ from h); rw [e])
 cases n with
 | zero=>exact fl h
 | succ n=>
  rcases h with h | ⟨_,_,_,_,e,_⟩ | ⟨_,_,_,_,e,_⟩
  ·exact fl h
  ·cases e
  ·cases e
theorem says_tup {ds:List Dt} (h:Says K ok H (n + 1) x (.tup ds)):∃ a xs,x = .ref a/\SqT K H a xs/\Paired (Says K ok H n) xs ds:=by
 rcases h with h | ⟨a,xs,ds',e1,e2,e3,r⟩ | ⟨_,_,_,_,e,_⟩
 ·cases x <;> exact h.elim
 ·cases e2; exact ⟨a,xs,e1,e3,r⟩
 ·cases e
theorem says_lst {ds:List Dt} (h:Says K ok H (n + 1) x (.lst ds)):∃ a xs,x = .ref a/\ok a/\H a = some (.lst xs)/\Paired (Says K ok H n) xs ds:=by
 rcases h with h | ⟨_,_,_,_,e,_⟩ | ⟨a,xs,ds',e1,e2,o,e3,r⟩
 ·cases x <;> exact h.elim
 ·cases e
 ·cases e2; exact ⟨a,xs,e1,o,e3,r⟩
theorem says_ints:∀ {ts:List Int} {xs:List V},Paired (Says K ok H n) xs (ts.map .int)->xs = ts.map V.int
 | [],_,r=>by cases r; rfl
 | t :: ts,_,r=>by
  cases r with
  | cons h r=>rw [says_int h,says_ints r]; rfl
theorem paired_app {α β : Type} {F : α->β->Prop}:∀ {a c:List α} {b d:List β},Paired F a b->Paired F c d->Paired F (a ++ c) (b ++ d)
 | _,_,_,_,.nil,s=>s
 | _,_,_,_,.cons r t,s=>.cons r (paired_app t s)
theorem item_one {t:Int} (h:Says K ok H 3 x (itemD (.one t))):∃ a,x = .ref a/\SqT K H a [.str "one",.int t]:=by
 obtain ⟨a,xs,rfl,hS,r⟩:=says_tup h
 cases r with
 | cons h1 r=>cases r with
  | cons h2 r=>cases r; rw [says_str h1,says_int h2] at hS; exact ⟨a,rfl,hS⟩
theorem item_row {ts:List Int} (h:Says K ok H 3 x (itemD (.row ts))):∃ a b,x = .ref a/\SqT K H a [.str "row",.ref b]/\ok b/\H b = some (.lst (ts.map V.int)):=by
 obtain ⟨a,xs,rfl,hS,r⟩:=says_tup h
 cases r with
 | cons h1 r=>cases r with
  | cons h2 r=>
   cases r
   obtain ⟨b,ys,rfl,o,hb,q⟩:=says_lst h2
   rw [says_str h1] at hS
   rw [says_ints q] at hb
   exact ⟨a,b,rfl,hS,o,hb⟩
theorem item_named {z:Str} {t:Int} (h:Says K ok H 3 x (itemD (.named z t))):∃ a,x = .ref a/\SqT K H a [.str "named",.str z,.int t]:=by
 obtain ⟨a,xs,rfl,hS,r⟩:=says_tup h
 cases r with
 | cons h1 r=>cases r with
  | cons h2 r=>cases r with
   | cons h3 r=>cases r; rw [says_str h1,says_str h2,says_int h3] at hS; exact ⟨a,rfl,hS⟩
theorem item_book {ps:List (Str × Int)} (h:Says K ok H 3 x (itemD (.book ps))):∃ a b ys,x = .ref a/\SqT K H a [.str "book",.ref b]/\ok b/\H b = some (.lst ys)/\Paired (Says K ok H 1) ys (ps.map pairD):=by
 obtain ⟨a,xs,rfl,hS,r⟩:=says_tup h
 cases r with
 | cons h1 r=>cases r with
  | cons h2 r=>
   cases r
   obtain ⟨b,ys,rfl,o,hb,q⟩:=says_lst h2
   rw [says_str h1] at hS
   exact ⟨a,b,ys,rfl,hS,o,hb,q⟩
end
theorem laidT_snoc (c:List Item) (i:Nat) (it:Item) (h:c[i]? = some it):laidT (c.take (i + 1)) = laidT (c.take i) ++ itT it:=by
 unfold laidT
 rw [List.take_add_one,h,List.map_append,List.flatten_append]
 simp
theorem laidP_snoc (c:List Item) (i:Nat) (it:Item) (h:c[i]? = some it):laidP (c.take (i + 1)) = laidP (c.take i) ++ itP it:=by
 unfold laidP
 rw [List.take_add_one,h,List.map_append,List.flatten_append]
 simp
theorem laidT_le (c:List Item) (i:Nat):(laidT (c.take i)).length<=(laidT c).length:=by
 unfold laidT
 conv=>rhs; rw [<- List.take_append_drop i c]
 rw [List.map_append,List.flatten_append,List.length_append]
 omega
theorem laidP_le (c:List Item) (i:Nat):(laidP (c.take i)).length<=(laidP c).length:=by
 unfold laidP
 conv=>rhs; rw [<- List.take_append_drop i c]
 rw [List.map_append,List.flatten_append,List.length_append]
 omega
theorem ne1:¬ (V.str "row" = V.str "one"):=by decide +kernel
theorem ne2:¬ (V.str "named" = V.str "one"):=by decide +kernel
theorem ne3:¬ (V.str "book" = V.str "one"):=by decide +kernel
theorem ne4:¬ (V.str "named" = V.str "row"):=by decide +kernel
theorem ne5:¬ (V.str "book" = V.str "row"):=by decide +kernel
theorem ne6:¬ (V.str "book" = V.str "named"):=by decide +kernel
section
variable {P:Program} {w:World} {K:PySem.W.Frag} {mg:Str->Option Value} {base:Heap} {f:Addr} {fd:FuncData}
theorem scLaid:FnScope ["call","things","pairs","item","word"] ["call"] (defScope sLaid):=⟨rfl,rfl,rfl,by decide +kernel,rfl,by decide +kernel,by decide +kernel⟩
theorem same_upd {H H2:Hp} {l:Addr} (s:Same H H2) (h:H l = none) (o:HO):Same H (upd H2 l o):=fun b u q=>by rw [upd_ne (ne_of_none q h)]; exact s b u q
theorem ok_laid (F:Fun K "laid" "laid" sLaid f fd):FnOk P w K mg base CX0 1 f fd ["call"] (spLaid K):=by
 refine F.ok scLaid (fun vs H Q E h=>?_) (fun cdv A outer s H vs Q E hr h=>?_)
 ·obtain ⟨a,c,xs,rfl,_⟩:=h
  rfl
 obtain ⟨a,c,xs,rfl,hS,hc,hT,hP,q⟩:=h
 refine ⟨_,pss_cons (ps_set (i:=1) scLaid.nd rfl (Or.inl rfl) (pe_lst pa_nil)) (pss_cons (ps_set (i:=2) scLaid.nd rfl (Or.inl rfl) (pe_lst pa_nil))
  (pss_cons (ps_for PassesOwn.never rfl (pi_list (pv 0)) (pg_name (i:=3) scLaid.nd rfl (Or.inl rfl))
   (pss_cons (ps_set (i:=4) scLaid.nd rfl (Or.inl rfl) (pe_ix ix_tup (pv 3) pe_int (fun _ _=>rfl)))
   (pss_one (ps_if (pt_cmpR op_eq (pv 4) pe_str (nomark _)) (pss_one (ps_expr (pe_bm PySem.F.plainAttrs_list PySem.F.slot_list_append PySem.F.type_list_append mt_append (pv 1) (ac (pe_ix ix_tup (pv 3) pe_int (fun _ _=>rfl)) pa_nil))))
    (pss_one (ps_if (pt_cmpR op_eq (pv 4) pe_str (nomark _)) (pss_one (ps_expr (pe_bm PySem.F.plainAttrs_list PySem.F.slot_list_extend PySem.F.type_list_extend mt_extend (pv 1) (ac (pe_ix ix_tup (pv 3) pe_int (fun _ _=>rfl)) pa_nil))))
     (pss_one (ps_if (pt_cmpR op_eq (pv 4) pe_str (nomark _)) (pss_one (ps_expr (pe_bm PySem.F.plainAttrs_list PySem.F.slot_list_append PySem.F.type_list_append mt_append (pv 2) (ac (pe_tup (ac (pe_ix ix_tup (pv 3) pe_int (fun _ _=>rfl)) (ac (pe_ix ix_tup (pv 3) pe_int (fun _ _=>rfl)) pa_nil))) pa_nil))))
      (pss_one (ps_expr (pe_bm PySem.F.plainAttrs_list PySem.F.slot_list_extend PySem.F.type_list_extend mt_extend (pv 2) (ac (pe_ix ix_tup (pv 3) pe_int (fun _ _=>rfl)) pa_nil))))))))))))
  (pss_one (ps_ret (pe_tup (ac (pv 1) (ac (pv 2) pa_nil))))))),?_⟩
 refine ⟨(by show 0<=sizeLine; decide),fun l1 h1=>?_⟩
 refine ⟨(by show 0<=sizeLine; decide),fun l2 h2=>?_⟩
 have n12:l1 ≠ l2:=ne_of_none upd_same h2
 have f2:H l2 = none:=(same_new h1 _).free h2
 have s0:Same H (upd (upd H l1 (.lst [])) l2 (.lst [])):=(same_new h1 _).trans (same_new h2 _)
 refine ⟨_,rfl,a,rfl,⟨_,s0.seq hS⟩,for_list (K:=K) (a:=a) (xs:=xs) (fun i σ H2=>∃ v3 v4 ys,σ = [some (.ref a),some (.ref l1),some (.ref l2),v3,v4]/\Same H H2/\H2 l1 = some (.lst ((laidT (c.take i)).map V.int))/\H2 l2 = some (.lst ys)/\Paired (Says K T' H2 1) ys ((laidP (c.take i)).map pairD))
  ⟨_,_,[],rfl,s0,by rw [upd_ne n12,upd_same]; rfl,upd_same,.nil⟩ (fun i σ H2 _ ⟨_,_,_,_,s2,_⟩=>s2.seq hS) ?_ ?_⟩
 ·rintro i y σ H2 hi ⟨v3,v4,ys,rfl,s2,g1,g2,gp⟩
  obtain ⟨d,hd,hy⟩:=Paired.get hc hi
  obtain ⟨it,hit,rfl⟩:∃ it,c[i]? = some it/\itemD it = d:=by
   rw [List.getElem?_map] at hd
   cases e:c[i]? with
   | none=>rw [e] at hd; cases hd
   | some it=>rw [e] at hd; exact ⟨it,rfl,Option.some.inj hd⟩
  have hy2:=hy.same s2
  have eT:=laidT_snoc c i it hit
  have eP:=laidP_snoc c i it hit
  have lT:=laidT_le c i
  have lP:=laidP_le c i
  have lT1:=laidT_le c (i + 1)
  have lP1:=laidP_le c (i + 1)
  have lys:ys.length = (laidP (c.take i)).length:=by rw [gp.length,List.length_map]
  have sT:∀ {H3:Hp} {o:HO} {l:Addr},H3 l = none\/(∃ zs,H3 l = some (.lst zs))->∀ {b zs},SqT K H3 b zs->SqT K (upd H3 l o) b zs:=fun {H3 o l} hl {b zs} hz=>by
   rcases hz with (z | ⟨u,z⟩) | z
   ·refine .inl (.inl ?_)
    have:b ≠ l:=fun e=>by
     subst e
     rcases hl with e | ⟨_,e⟩
     ·rw [e] at z; cases z
     ·rw [e] at z; cases z
    rw [upd_ne this]; exact z
   ·refine .inl (.inr ⟨u,?_⟩)
    have:b ≠ l:=fun e=>by
     subst e
     rcases hl with e | ⟨_,e⟩
     ·rw [e] at z; cases z
     ·rw [e] at z; cases z
    rw [upd_ne this]; exact z
   ·exact .inr z
  have keepP:∀ {H3:Hp} {o:HO} {l:Addr} {zs:List V} {ps:List (Str × Int)},H3 l = none\/(∃ zs,H3 l = some (.lst zs))->Paired (Says K T' H3 1) zs (ps.map pairD)->Paired (Says K T' (upd H3 l o) 1) zs (ps.map pairD):=by
   intro H3 o l zs ps hl r
   induction ps generalizing zs with
   | nil=>cases r; exact .nil
   | cons p ps ih=>
    cases r with
    | cons h r=>
     refine .cons ?_ (ih r)
     obtain ⟨b,ws,rfl,hS',r'⟩:=says_tup h
     exact .tup (sT hl hS') (Paired.imp' (fun _ _ z=>z) r')
  cases it with
  | one t=>
   obtain ⟨b,rfl,hb⟩:=item_one hy2
   refine ⟨_,rfl,b,_,_,.str "one",rfl,rfl,hb,rfl,?_⟩
   refine ⟨_,rfl,rfl,_,rfl,?_⟩
   refine dT rfl ?_
   refine ⟨_,rfl,.inl ⟨rfl,_,SqL.of g1⟩,_,rfl,b,_,_,.int t,rfl,rfl,hb,rfl,l1,_,_,rfl,rfl,g1,?_,?_⟩
   ·rw [List.length_map]; exact small1000 (by omega)
   ·refine ⟨_,_,ys,rfl,same_upd s2 h1 _,?_,?_,?_⟩
    ·rw [upd_same,eT,List.map_append]; rfl
    ·rw [upd_ne n12.symm]; exact g2
    ·rw [eP]; show Paired _ _ ((laidP (c.take i) ++ []).map pairD); rw [List.append_nil]; exact keepP (.inr ⟨_,g1⟩) gp
  | row ts=>
   obtain ⟨b,bl,rfl,hb,_,hbl⟩:=item_row hy2
   refine ⟨_,rfl,b,_,_,.str "row",rfl,rfl,hb,rfl,?_⟩
   refine ⟨_,rfl,rfl,_,rfl,?_⟩
   refine dF ne1 ?_
   refine ⟨_,rfl,rfl,_,rfl,?_⟩
   refine dT rfl ?_
   refine ⟨_,rfl,.inl ⟨rfl,_,SqL.of g1⟩,_,rfl,b,_,_,.ref bl,rfl,rfl,hb,rfl,l1,bl,_,_,rfl,rfl,g1,hbl,?_,?_⟩
   ·have e1:(laidT (c.take (i + 1))).length = (laidT (c.take i)).length + ts.length:=by rw [eT,List.length_append]; rfl
    rw [List.length_map,List.length_map]; exact le1000 (by omega)
   ·refine ⟨_,_,ys,rfl,same_upd s2 h1 _,?_,?_,?_⟩
    ·rw [upd_same,eT,List.map_append]; rfl
    ·rw [upd_ne n12.symm]; exact g2
    ·rw [eP]; show Paired _ _ ((laidP (c.take i) ++ []).map pairD); rw [List.append_nil]; exact keepP (.inr ⟨_,g1⟩) gp
  | named z t=>
   obtain ⟨b,rfl,hb⟩:=item_named hy2
   refine ⟨_,rfl,b,_,_,.str "named",rfl,rfl,hb,rfl,?_⟩
   refine ⟨_,rfl,rfl,_,rfl,?_⟩
   refine dF ne2 ?_
   refine ⟨_,rfl,rfl,_,rfl,?_⟩
   refine dF ne4 ?_
   refine ⟨_,rfl,rfl,_,rfl,?_⟩
   refine dT rfl ?_
   refine ⟨_,rfl,.inl ⟨rfl,_,SqL.of g2⟩,_,rfl,b,_,_,.str z,rfl,rfl,hb,rfl,_,rfl,b,_,_,.int t,rfl,rfl,hb,rfl,(by show 2<=sizeLine; decide),fun p hp=>?_⟩
   have np2:l2 ≠ p:=ne_of_none g2 hp
   have np1:l1 ≠ p:=ne_of_none g1 hp
   have fp:H p = none:=s2.free hp
   refine ⟨l2,_,_,rfl,rfl,(by rw [upd_ne np2]; exact g2),?_,?_⟩
   ·rw [lys]; exact small1000 (by omega)
   ·refine ⟨_,_,ys ++ [.ref p],rfl,same_upd (same_upd s2 fp _) f2 _,?_,upd_same,?_⟩
    ·rw [upd_ne n12,upd_ne np1,g1,eT]; show _ = some (HO.lst ((laidT (c.take i) ++ []).map V.int)); rw [List.append_nil]
    ·rw [eP,List.map_append]
     refine paired_app (keepP (.inr ⟨_,by rw [upd_ne np2]; exact g2⟩) (keepP (.inl hp) gp)) (.cons (.tup (xs:=[.str z,.int t]) (SqT.of ?_) (.cons .str (.cons .int .nil))) .nil)
     rw [upd_ne np2.symm,upd_same]
  | book ps=>
   obtain ⟨b,bl,zs,rfl,hb,_,hbl,hz⟩:=item_book hy2
   refine ⟨_,rfl,b,_,_,.str "book",rfl,rfl,hb,rfl,?_⟩
   refine ⟨_,rfl,rfl,_,rfl,?_⟩
   refine dF ne3 ?_
   refine ⟨_,rfl,rfl,_,rfl,?_⟩
   refine dF ne5 ?_
   refine ⟨_,rfl,rfl,_,rfl,?_⟩
   refine dF ne6 ?_
   have lz:zs.length = ps.length:=by rw [hz.length,List.length_map]
   refine ⟨_,rfl,.inl ⟨rfl,_,SqL.of g2⟩,_,rfl,b,_,_,.ref bl,rfl,rfl,hb,rfl,l2,bl,_,_,rfl,rfl,g2,hbl,?_,?_⟩
   ·have e1:(laidP (c.take (i + 1))).length = (laidP (c.take i)).length + ps.length:=by rw [eP,List.length_append]; rfl
    rw [lys,lz]; exact le1000 (by omega)
   ·refine ⟨_,_,ys ++ zs,rfl,same_upd s2 f2 _,?_,upd_same,?_⟩
    ·rw [upd_ne n12,g1,eT]; show _ = some (HO.lst ((laidT (c.take i) ++ []).map V.int)); rw [List.append_nil]
    ·rw [eP,List.map_append]
     exact paired_app (keepP (.inr ⟨_,g2⟩) gp) (keepP (.inr ⟨_,g2⟩) hz)
 ·rintro σ H2 ⟨v3,v4,ys,rfl,s2,g1,g2,gp⟩
  refine ⟨_,rfl,_,rfl,(by show 2<=sizeLine; decide),fun p hp=>?_⟩
  have hl:xs.length = c.length:=by rw [hc.length,List.length_map]
  rw [hl,List.take_length] at g1 gp
  refine q p _ (s2.trans (same_new hp _)) ⟨l1,l2,ys,h1,f2,n12,s2.free hp,upd_same,?_,?_,Paired.imp' (fun _ _ z=>z.same (same_new hp _)) gp⟩
  ·rw [upd_ne (ne_of_none g1 hp)]; exact g1
  ·rw [upd_ne (ne_of_none g2 hp)]; exact g2
end
theorem pair_get {ps:List (Str × Int)} {i:Nat} {d:Dt} (h:(ps.map pairD)[i]? = some d):∃ p,ps[i]? = some p/\pairD p = d:=by
 rw [List.getElem?_map] at h
 cases e:ps[i]? with
 | none=>rw [e] at h; cases h
 | some it=>rw [e] at h; exact ⟨it,rfl,Option.some.inj h⟩
theorem pair_says {K:PySem.W.Frag} {ok:Addr->Prop} {H:Hp} {n:Nat} {x:V} {p:Str × Int} (h:Says K ok H (n + 1) x (pairD p)):∃ b,x = .ref b/\SqT K H b [.str p.1,.int p.2]:=by
 obtain ⟨a,xs,rfl,hS,r⟩:=says_tup h
 cases r with
 | cons h1 r=>cases r with
  | cons h2 r=>cases r; rw [says_str h1,says_int h2] at hS; exact ⟨a,rfl,hS⟩
section
variable {P:Program} {w:World} {K:PySem.W.Frag} {mg:Str->Option Value} {base:Heap} {f:Addr} {fd:FuncData}
end
theorem iteB {A B:Prop} {b:Bool} (h:b = true) (a:A):if b = true then A else B:=by rw [h]; exact iteT a
theorem iteC {A B:Prop} {b:Bool} (h:b = false) (a:B):if b = true then A else B:=by rw [h]; exact iteF a
section
variable {P:Program} {w:World} {K:PySem.W.Frag} {mg:Str->Option Value} {base:Heap} {f:Addr} {fd:FuncData}
section
variable {H H':Hp} {p l1 l2 l:Addr} {ys:List V} {ts:List Int} {ps:List (Str × Int)} {o:HO}
end
end
def namesOf (c:List Item):List Str:=(laidP c).map (·.1)
def spShape (K:PySem.W.Frag):Sp:=fun vs H Q _=>∃ (a:Addr) (c:List Item) (xs:List V),vs = [.ref a]/\SqL K H a xs/\Paired (Says K T' H 3) xs (c.map itemD)/\(laidT c).length<=900/\(laidP c).length<=900/\
 ∀ (p l:Addr) (H':Hp),Same H H'->H l = none->H' p = some (.tup [.int ((laidT c).length:Nat),.ref l])->H' l = some (.lst ((namesOf c).map V.str))->Q (.ref p) H'
def fstF:Nat->List (Key × V)->List Str->List (Key × V)
 | _,acc,[]=>acc
 | i,acc,z :: zs=>fstF (i + 1) (if (valV acc (.inr z)).isSome = true then acc else putK acc (.inr z) (.int i)) zs
theorem fstF_snoc {z:Str}:∀ (zs:List Str) (j i:Nat) (acc:List (Key × V)),zs[i]? = some z->fstF j acc (zs.take (i + 1)) = (if (valV (fstF j acc (zs.take i)) (.inr z)).isSome = true then fstF j acc (zs.take i) else putK (fstF j acc (zs.take i)) (.inr z) (.int (j + i:Nat)))
 | [],_,_,_,h=>by simp at h
 | y :: ys,j,0,acc,h=>by
  have e:y = z:=by simpa using h
  subst e
  rfl
 | y :: ys,j,i + 1,acc,h=>by
  have:=fstF_snoc ys (j + 1) i (if (valV acc (.inr y)).isSome = true then acc else putK acc (.inr y) (.int j)) (by simpa using h)
  show fstF (j + 1) _ (ys.take (i + 1)) = _
  rw [this,show j + 1 + i = j + (i + 1) by omega]
  rfl
theorem fstF_len:∀ (zs:List Str) (i:Nat) (acc:List (Key × V)),(fstF i acc zs).length<=acc.length + zs.length
 | [],_,_=>Nat.le_refl _
 | z :: zs,i,acc=>by
  have h:=fstF_len zs (i + 1) (if (valV acc (.inr z)).isSome = true then acc else putK acc (.inr z) (.int i))
  have h2:(if (valV acc (.inr z)).isSome = true then acc else putK acc (.inr z) (.int i)).length<=acc.length + 1:=by
   split
   ·omega
   ·exact length_putK acc _ _
  show (fstF (i + 1) _ zs).length<=acc.length + (zs.length + 1)
  omega
def spFirsts:Sp:=fun vs H Q _=>∃ (a:Addr) (zs:List Str),vs = [.ref a]/\H a = some (.lst (zs.map V.str))/\zs.length<=900/\∀ (l:Addr) (o:Obj) (H':Hp),Same H H'->H l = none->H' l = some (.frz o (.dK (fstF 0 [] zs)))->Q (.ref l) H'
section
variable {P:Program} {w:World} {K:PySem.W.Frag} {mg:Str->Option Value} {base:Heap} {f CF:Addr} {fd:FuncData} {c:C5} {m:MA}
theorem ndNT:([Str.ofString "name",Str.ofString "thing"]:List Str).Nodup:=by decide +kernel
theorem scShape:FnScope ["call","things","pairs"] ["call"] (defScope sShape):=⟨rfl,rfl,rfl,by decide +kernel,rfl,by decide +kernel,by decide +kernel⟩
theorem ok_shape {g:Addr} {gd:FuncData} (F:Fun K "shape" "shape" sShape f fd) (hlen:mg "len" = none) (cL:Callee P w K mg base 1 "laid" g gd ["call"] (spLaid K)):FnOk P w K mg base CX0 2 f fd ["call"] (spShape K):=by
 refine F.ok scShape (fun vs H Q E h=>?_) (fun cdv A outer s H vs Q E hr h=>?_)
 ·obtain ⟨a,c,xs,rfl,_⟩:=h
  rfl
 obtain ⟨a,c,xs,rfl,hS,hc,lT,lP,q⟩:=h
 refine ⟨_,pss_cons (ps_asg (cF cL hr (ac (pv 0) pa_nil)) (pg_tup rfl (pgs_cons (pg_name (i:=1) scShape.nd rfl (Or.inl rfl)) (pgs_cons (pg_name (i:=2) scShape.nd rfl (Or.inl rfl)) pgs_nil))))
  (pss_one (ps_ret (pe_tup (ac (cB call_len_seq hlen PySem.boot_len (ac (pv 1) pa_nil)) (ac (pe_lc [] ["name","thing"] [none,none] rfl ⟨rfl,rfl,rfl,rfl⟩ (pi_list (pv 2)) (gown_tup2 (K:=K) (n:=2) 0 1) rfl rfl rfl
   (fun pins fp s H C=>⟨pg_tup rfl (pgs_cons (pg_name (i:=0) ndNT rfl (Or.inl rfl) (.inr rfl)) (pgs_cons (pg_name (i:=1) ndNT rfl (Or.inl rfl) (.inr rfl)) pgs_nil)),pif_nil,pv 0⟩)) pa_nil))))),?_⟩
 refine ⟨_,rfl,a,c,xs,rfl,hS,hc,lT,lP,fun p H1 s1 two=>?_⟩
 obtain ⟨l1,l2,ys,n1,n2,n12,np,ep,e1,e2,gp⟩:=two
 refine ⟨p,_,rfl,SqT.of ep,rfl,_,_,rfl,_,_,rfl,rfl,?_⟩
 refine ⟨_,rfl,l1,_,rfl,.inl (SqL.of e1),_,rfl,l2,rfl,⟨_,SqL.of e2⟩,fun D hD=>?_⟩
 have lys:ys.length = (laidP c).length:=by rw [gp.length,List.length_map]
 refine lc_list (K:=K) (xs:=ys) (fun i zs H'=>Same H1 H'/\H' D = some (.lst zs)/\zs = ((namesOf c).take i).map V.str) ⟨same_new hD _,upd_same,rfl⟩ (fun i zs H' h=>SqL.of (h.1 _ _ e2)) ?_ ?_
 ·rintro i x zs H' hlt hx ⟨sH,hDy,ez⟩
  obtain ⟨d,hd,hy⟩:=Paired.get gp hx
  obtain ⟨pr',hpr,rfl⟩:=pair_get hd
  obtain ⟨b,rfl,hb⟩:=pair_says (hy.same sH)
  refine ⟨b,_,rfl,hb,rfl,_,_,rfl,_,_,rfl,rfl,fun _=>⟨_,rfl,?_⟩,fun e=>Bool.noConfusion e⟩
  have hi:i < (namesOf c).length:=by unfold namesOf; rw [List.length_map]; omega
  have en:(namesOf c)[i] = pr'.1:=by
   have:(namesOf c)[i]? = some pr'.1:=by unfold namesOf; rw [List.getElem?_map,hpr]; rfl
   rw [List.getElem?_eq_getElem hi] at this
   exact Option.some.inj this
  refine lcN.mk hlt (le1000 (by omega)) hDy (by rw [ez,List.length_map,List.length_take]; omega) ⟨fun b' u e=>?_,upd_same,?_⟩
  ·rw [upd_ne (ne_of_none e hD)]
   exact sH b' u e
  ·rw [ez,List.take_succ_eq_append_getElem hi,en,List.map_append]
   rfl
 rintro zs H2 ⟨s2,hDy,ez⟩
 have hz:zs = (namesOf c).map V.str:=by
  rw [ez,List.take_of_length_le (by unfold namesOf; rw [List.length_map]; omega)]
 subst hz
 refine ⟨(by show 2<=sizeLine; decide),fun t ht=>?_⟩
 have s3:=same_new ht (.tup [.int ((laidT c).map V.int).length,.ref D])
 refine q t D _ (s1.trans (s2.trans s3)) (s1.free hD) (by rw [upd_same,List.length_map]) (s3 _ _ hDy)
theorem scFirsts:FnScope ["names","firsts","number","name"] ["names"] (defScope sFirsts):=⟨rfl,rfl,rfl,by decide +kernel,rfl,by decide +kernel,by decide +kernel⟩
theorem ok_firsts (F:Fun K "first_numbers" "first_numbers" sFirsts f fd) (hen:mg "enumerate" = none):FnOk P w K mg base CX0 1 f fd ["names"] spFirsts:=by
 refine F.ok scFirsts (fun vs H Q E h=>?_) (fun cdv A outer s H vs Q E hr h=>?_)
 ·obtain ⟨a,zs,rfl,_⟩:=h
  rfl
 obtain ⟨a,zs,rfl,ha,lz,q⟩:=h
 have hu1:=hu_of hr
 refine ⟨_,pss_cons (ps_set (i:=1) scFirsts.nd rfl (Or.inl rfl) pe_dnewK)
  (pss_cons (ps_for PassesOwn.never rfl (pi_enum rfl hen (ac (pv 0) pa_nil)) (pg_tup rfl (pgs_cons (pg_name (i:=2) scFirsts.nd rfl (Or.inl rfl)) (pgs_cons (pg_name (i:=3) scFirsts.nd rfl (Or.inl rfl)) pgs_nil)))
   (pss_one (ps_if (pt_cmp (pc_dnotin hu1 (pv 3) (pv 1))) (pss_one (ps_dput hu1 (pv 1) (pv 3) (pv 2) rfl)) pss_nil)))
  (pss_one (ps_ret (pe_frz (pv 1))))),?_⟩
 intro sd hsd
 have s1:=same_new hsd (.dK [])
 have e1:upd H sd (.dK []) sd = some (.dK []):=upd_same
 show tSeq _ _ _ _ (upd H sd (.dK []))
 generalize upd H sd (.dK []) = H1 at s1 e1 |-
 refine ⟨_,rfl,a,rfl,⟨_,SqL.of (s1 _ _ ha)⟩,for_enum (K:=K) (a:=a) (xs:=zs.map V.str) (fun i σ H'=>∃ (v2 v3:Option V),σ = [some (.ref a),some (.ref sd),v2,v3]/\Same H H'/\H' sd = some (.dK (fstF 0 [] (zs.take i))))
  ⟨_,_,rfl,s1,e1⟩ (fun i σ H' _ ⟨_,_,_,sH,_⟩=>SqL.of (sH _ _ ha)) ?_ ?_⟩
 ·rintro i x p σ H' hx ⟨v2,v3,rfl,sH,hd⟩ hpn
  obtain ⟨z,hz,rfl⟩:=strs_at hx
  have sp:=same_new hpn (.tup [.int (i:Nat),.str z])
  have hd2:=sp _ _ hd
  have tk:=fstF_snoc zs 0 i [] hz
  rw [Nat.zero_add] at tk
  have hi:i < zs.length:=(List.getElem?_eq_some_iff.mp hz).1
  refine ⟨p,_,rfl,SqT.of upd_same,rfl,_,_,rfl,_,_,rfl,rfl,?_⟩
  refine ⟨_,rfl,_,rfl,sd,_,rfl,.inl ⟨_,.inr z,.inl hd2,rfl,rfl⟩,_,rfl,?_⟩
  refine ite2 (fun ne=>?_) (fun ne=>?_)
  ·have ns:¬ (valV (fstF 0 [] (zs.take i)) (.inr z)).isSome = true:=by
    intro e
    rw [e] at ne
    cases ne
   rw [if_neg ns] at tk
   have ln:=fstF_len (zs.take i) 0 []
   refine ⟨_,rfl,_,rfl,_,rfl,sd,_,rfl,.inl ⟨_,.inr z,hd2,rfl,small1000 (by rw [List.length_take] at ln; simp at ln; omega),rfl⟩,?_⟩
   refine ⟨_,_,rfl,fun b' u e=>?_,by rw [upd_same,tk]⟩
   rw [upd_ne (ne_of_none e hsd)]
   exact sp _ _ (sH _ _ e)
  ·have ns:(valV (fstF 0 [] (zs.take i)) (.inr z)).isSome = true:=by
    cases e:(valV (fstF 0 [] (zs.take i)) (.inr z)).isSome with
    | true=>rfl
    | false=>exact absurd (by rw [e]; rfl) ne
   rw [if_pos ns] at tk
   exact ⟨_,_,rfl,sH.trans sp,by rw [tk]; exact hd2⟩
 ·rintro σ H' ⟨v2,v3,rfl,sH,hd⟩
  rw [List.length_map,List.take_length] at hd
  refine ⟨_,rfl,sd,_,rfl,hd,fun o=>?_⟩
  refine q sd o _ (fun b' u e=>?_) hsd upd_same
  rw [upd_ne (ne_of_none e hsd)]
  exact sH _ _ e
end
def MA1 (H:Hp) (u:Addr) (m:Str × Nat):Prop:=H u = some (.tup [.str m.1,.int (m.2:Nat)])
def MsAt (H:Hp) (us:List Addr) (ms:List (Str × Nat)):Prop:=Paired (MA1 H) us ms
theorem MsAt.same {H H':Hp} {us:List Addr} {ms:List (Str × Nat)} (h:MsAt H us ms) (s:Same H H'):MsAt H' us ms:=Paired.imp' (fun _ _ z=>s _ _ z) h
theorem MsAt.upd {H:Hp} {us:List Addr} {ms:List (Str × Nat)} {D:Addr} {ys:List V} {o:HO} (h:MsAt H us ms) (hD:H D = some (.lst ys)):MsAt (upd H D o) us ms:=Paired.imp' (fun u m z=>by
 show L2.upd H D o u = _
 rw [upd_ne (fun e=>by rw [e] at z; rw [MA1,hD] at z; cases z)]
 exact z) h
theorem MsAt.snoc {H:Hp} {us:List Addr} {ms:List (Str × Nat)} {u:Addr} {m:Str × Nat} (h:MsAt H us ms) (hu:MA1 H u m):MsAt H (us ++ [u]) (ms ++ [m]):=Paired.snoc h hu
def NewMs (H H':Hp) (l:Addr) (ms:List (Str × Nat)):Prop:=∃ us:List Addr,H l = none/\H' l = some (.lst (us.map V.ref))/\MsAt H' us ms
def overF (rows:List Rw) (many:Nat):List (Str × Nat):=if (firstK 2 0 rows).isSome = true then [] else (List.range (many - plN rows)).map fun i=>((("over" : Str),plN rows + i):Str × Nat)
def spOvers (c:C5) (CF:Addr):Sp:=fun vs H Q _=>∃ (f:Addr) (many:Nat) (rows:List Rw) (bars:List Str),vs = [.ref f,.int (many:Nat)]/\many<=900/\rows.length<=500/\FormAt c CF H f rows bars/\∀ (l:Addr) (H':Hp),Same H H'->NewMs H H' l (overF rows many)->Q (.ref l) H'
def oneE (r:Rw) (i many:Nat) (fk:List (Key × V)):List V:=
 if byPl r.k = true/\i < many then [.str "place",.int (i:Nat)] else if byNm r.k = true/\(valV fk (.inr r.z)).isSome = true then [.str "name",(valV fk (.inr r.z)).getD .non] else [.str "free"]
def FlatD1 (fk:List (Key × V)):Prop:=∀ k v,valV fk k = some v->flatV v = true
def spOneE (c:C5):Sp:=fun vs H Q _=>∃ (p d:Addr) (i many:Nat) (r:Rw) (fk:List (Key × V)),vs = [.ref p,.int (i:Nat),.int (many:Nat),.ref d]/\PAt c H p r/\r.ok/\Rd H d (.dK fk)/\∀ (u:Addr) (H':Hp),Same H H'->H' u = some (.tup (oneE r i many fk))->Q (.ref u) H'
def isLack (r:Rw) (i many:Nat) (fk:List (Key × V)):Bool:=!fr r.k r.b && L2.eqT (oneE r i many fk) [.str "free"]
def lackF (many:Nat) (fk:List (Key × V)):Nat->List Rw->List (Str × Nat)
 | _,[]=>[]
 | i,r :: rs=>(if isLack r i many fk = true then [(("lacking" : Str),i)] else []) ++ lackF many fk (i + 1) rs
theorem lackF_snoc {many:Nat} {fk:List (Key × V)} {r:Rw}:∀ (rows:List Rw) (j i:Nat),rows[i]? = some r->lackF many fk j (rows.take (i + 1)) = lackF many fk j (rows.take i) ++ (if isLack r (j + i) many fk = true then [(("lacking" : Str),j + i)] else [])
 | [],_,_,h=>by simp at h
 | y :: ys,j,0,h=>by
  have e:y = r:=by simpa using h
  subst e
  show (_ ++ []) = [] ++ _
  rw [List.append_nil,List.nil_append]
  rfl
 | y :: ys,j,i + 1,h=>by
  have:=lackF_snoc (many:=many) (fk:=fk) ys (j + 1) i (by simpa using h)
  show _ ++ lackF many fk (j + 1) (ys.take (i + 1)) = _
  rw [this,show j + 1 + i = j + (i + 1) by omega,<- List.append_assoc]
  rfl
theorem lackF_len (many:Nat) (fk:List (Key × V)):∀ (rows:List Rw) (i:Nat),(lackF many fk i rows).length<=rows.length
 | [],_=>Nat.le_refl _
 | r :: rs,i=>by
  have:=lackF_len many fk rs (i + 1)
  show (_ ++ lackF many fk (i + 1) rs).length<=rs.length + 1
  rw [List.length_append]
  split
  ·rw [List.length_singleton]; omega
  ·rw [List.length_nil]; omega
theorem oneE_flat {r:Rw} {i many:Nat} {fk:List (Key × V)} (h:FlatD1 fk):(oneE r i many fk).all flatV = true:=by
 unfold oneE
 split
 ·rfl
 ·split
  next h2=>
   obtain ⟨v,hv⟩:=Option.isSome_iff_exists.mp h2.2
   rw [hv]
   show (true && (flatV v && true)) = true
   rw [h _ _ hv]
   rfl
  ·rfl
def spLacks (c:C5) (CF:Addr):Sp:=fun vs H Q _=>∃ (f d:Addr) (many:Nat) (rows:List Rw) (bars:List Str) (fk:List (Key × V)),vs = [.ref f,.int (many:Nat),.ref d]/\rows.length<=500/\(∀ r ∈ rows,r.ok)/\FormAt c CF H f rows bars/\Rd H d (.dK fk)/\FlatD1 fk/\∀ (l:Addr) (H':Hp),Same H H'->NewMs H H' l (lackF many fk 0 rows)->Q (.ref l) H'
theorem Same.rd {H H':Hp} {a:Addr} {u:HO} (s:Same H H') (h:Rd H a u):Rd H' a u:=h.elim (fun e=>.inl (s _ _ e)) fun ⟨o,e⟩=>.inr ⟨o,s _ _ e⟩
section
variable {P:Program} {w:World} {K:PySem.W.Frag} {mg:Str->Option Value} {base:Heap} {f CF:Addr} {fd:FuncData} {c:C5} {m:MA}
theorem ndNum:([Str.ofString "number"]:List Str).Nodup:=by decide +kernel
theorem scOvers:FnScope ["form","many"] ["form","many"] (defScope sOvers):=⟨rfl,rfl,rfl,by decide +kernel,rfl,by decide +kernel,by decide +kernel⟩
theorem ok_overs {gT gP:Addr} {eT eP:FuncData} (F:Fun K "overs" "overs" sOvers f fd) (hran:mg "range" = none) (FK:FC K CF) (mT:Meth K CF "tail" gT) (GT:FnOk P w K mg base CX0 1 gT eT ["self"] (spWord c CF 2)) (bT:Binds K eT ["self"] []) (mP:Meth K CF "places" gP) (GP:FnOk P w K mg base CX0 1 gP eP ["self"] (spPlaces c CF)) (bP:Binds K eP ["self"] []) :
  FnOk P w K mg base CX0 2 f fd ["form","many"] (spOvers c CF):=by
 refine F.ok scOvers (fun vs H Q E h=>?_) (fun cdv A outer s H vs Q E hr h=>?_)
 ·obtain ⟨f,many,rows,bars,rfl,_⟩:=h
  rfl
 obtain ⟨f,many,rows,bars,rfl,lm,l5,hF,q⟩:=h
 refine ⟨_,pss_cons (ps_if (pt_cmp (pc_notN (pe_meth0 (pv 0) FK.cl mT GT hr bT .nil pass0))) (pss_one (ps_ret (pe_lst pa_nil))) pss_nil)
  (pss_one (ps_ret (pe_lc [] ["number"] [none] rfl ⟨rfl,rfl,rfl,rfl⟩ (pi_range2 rfl hran (ac (pe_meth0 (pv 0) FK.cl mP GP hr bP .nil pass0) (ac (pv 1) pa_nil))) (gown_name 0) rfl rfl rfl
   (fun pins fp s H C=>⟨pg_name (i:=0) ndNum rfl (Or.inl rfl) (.inr rfl),pif_nil,pe_tup (ac pe_str (ac (pv 0) pa_nil))⟩)))),?_⟩
 obtain ⟨dx,fs,lr,lb,ld,ps,h1,h2,h3,h4,h5,h6⟩:=id hF
 have nmT:fs.lookup ("tail" : Str) = none:=h2.no _ (by decide +kernel)
 have nmP:fs.lookup ("places" : Str) = none:=h2.no _ (by decide +kernel)
 refine ⟨_,rfl,f,dx,fs,rfl,h1,nmT,f,rows,bars,rfl,hF,?_⟩
 refine ⟨_,rfl,?_⟩
 cases e:firstK 2 0 rows with
 | some i=>
  have ef:overF rows many = []:=by unfold overF; rw [e]; rfl
  have ne:(!decide (numV (some i) = V.non)) = true:=rfl
  rw [if_pos ne]
  refine ⟨(by show 0<=sizeLine; decide),fun l hl=>?_⟩
  exact q l _ (same_new hl _) ⟨[],hl,upd_same,by rw [ef]; exact .nil⟩
 | none=>
  have ef:overF rows many = (List.range (many - plN rows)).map fun i=>((("over" : Str),plN rows + i):Str × Nat):=by unfold overF; rw [e]; rfl
  refine iteF ?_
  have lp:plN rows<=500:=Nat.le_trans (List.length_filter_le _ _) l5
  refine ⟨_,rfl,f,dx,fs,rfl,h1,nmP,f,rows,bars,rfl,hF,_,rfl,(plN rows:Nat),(many:Nat),rfl,⟨by omega,by omega,by omega,by omega⟩,fun D hD=>?_⟩
  have en:((many:Int) - (plN rows:Int)).toNat = many - plN rows:=by omega
  refine lc_range (n:=((many:Int) - (plN rows:Int)).toNat) (fun i ys H'=>∃ us,ys = us.map V.ref/\Same H H'/\H' D = some (.lst ys)/\MsAt H' us ((List.range i).map fun i=>((("over" : Str),plN rows + i):Str × Nat))) ⟨[],rfl,same_new hD _,upd_same,.nil⟩ ?_ ?_
  ·rintro i ys H' hi ⟨us,rfl,sH,hDy,hm⟩
   have lu:us.length = i:=by rw [hm.length,List.length_map,List.length_range]
   refine ⟨fun _=>?_,fun e=>Bool.noConfusion e⟩
   refine ⟨_,rfl,(by show 2<=sizeLine; decide),fun t ht=>?_⟩
   have s2:=same_new ht (.tup [.str "over",.int ((plN rows:Int) + (i:Int))])
   have hDy2:=s2 _ _ hDy
   refine lcN.mk hi (le1000 (by omega)) hDy2 (by rw [List.length_map,lu]; exact Nat.le_refl _) ⟨us ++ [t],by rw [List.map_append]; rfl,fun b' u' e'=>?_,upd_same,?_⟩
   ·rw [upd_ne (ne_of_none e' hD)]
    exact s2 _ _ (sH _ _ e')
   ·rw [List.range_succ,List.map_append]
    have hu:MA1 (upd H' t (.tup [.str "over",.int ((plN rows:Int) + (i:Int))])) t ("over",plN rows + i):=by
     show upd H' t _ t = _
     rw [upd_same]
     rfl
    exact ((hm.same s2).snoc hu).upd hDy2
  ·rintro ys H' ⟨us,rfl,sH,hDy,hm⟩
   rw [en,<- ef] at hm
   exact q D H' sH ⟨us,hD,hDy,hm⟩
theorem scOneE:FnScope ["parameter","number","many","firsts"] ["parameter","number","many","firsts"] (defScope sOneE):=⟨rfl,rfl,rfl,by decide +kernel,rfl,by decide +kernel,by decide +kernel⟩
theorem ok_oneE {gp gb:FuncData} (F:Fun K "one_entry" "one_entry" sOneE f fd) (PP:Pcs K m c) (GP:FnOk P w K mg base CX0 1 m.fP gp ["self"] (spIn K m bpL)) (bP:Binds K gp ["self"] []) (GB:FnOk P w K mg base CX0 1 m.fB gb ["self"] (spIn K m bnL)) (bB:Binds K gb ["self"] []) :
  FnOk P w K mg base CX0 2 f fd ["parameter","number","many","firsts"] (spOneE c):=by
 refine F.ok scOneE (fun vs H Q E h=>?_) (fun cdv A outer s H vs Q E hr h=>?_)
 ·obtain ⟨p,d,i,many,r,fk,rfl,_⟩:=h
  rfl
 obtain ⟨p,d,i,many,r,fk,rfl,⟨dx,hp⟩,rok,hd,q⟩:=h
 have hu1:=hu_of hr
 have C:=PP r.k rok.1
 refine ⟨_,pss_cons (ps_if (PW.pt (pw_and (pt_val (pe_meth0 (pv 0) C.cl C.mP GP hr bP .nil pass0)) (pw_and1 (pt_cmpR op_lt (pv 1) (pv 2) (nomark _))))) (pss_one (ps_ret (pe_tup (ac pe_str (ac (pv 1) pa_nil))))) pss_nil)
  (pss_cons (ps_if (PW.pt (pw_and (pt_val (pe_meth0 (pv 0) C.cl C.mB GB hr bB .nil pass0)) (pw_and1 (pt_cmp (pc_din hu1 (pe_fld (pv 0) rfl) (pv 3)))))) (pss_one (ps_ret (pe_tup (ac pe_str (ac (pe_dget hu1 (pv 3) (pe_fld (pv 0) rfl) (fun _ _=>rfl)) pa_nil))))) pss_nil)
  (pss_one (ps_ret (pe_tup (ac pe_str pa_nil))))),?_⟩
 have nP:(pr r).lookup ("by_place" : Str) = none:=pf_no (by decide +kernel) (by decide +kernel) (by decide +kernel)
 have nB:(pr r).lookup ("by_name" : Str) = none:=pf_no (by decide +kernel) (by decide +kernel) (by decide +kernel)
 try dsimp only
 refine seq_via (fun σ' H'=>σ' = [some (.ref p),some (.int (i:Nat)),some (.int (many:Nat)),some (.ref d)]/\H' = H/\¬ (byPl r.k = true/\i < many)) ?_ (fun key=>?_)
 rotate_left
 ·refine ⟨_,rfl,p,dx,_,rfl,hp,nP,p,dx,_,_,_,_,rfl,C,hp,_,rfl,?_⟩
  rw [in_pl r.k rok.1]
  cases eb:byPl r.k with
  | false=>
   refine iteF ?_
   refine iteF ?_
   exact key _ _ ⟨rfl,rfl,by rw [eb]; exact fun z=>Bool.noConfusion z.1⟩
  | true=>
   refine iteT ?_
   refine ⟨_,rfl,_,rfl,_,_,rfl,rfl,_,rfl,?_⟩
   refine ite2 (fun c1=>?_) (fun c1=>?_)
   ·have hlt:i < many:=by
     have:=of_decide_eq_true c1
     omega
    refine ⟨_,rfl,(by show 2<=sizeLine; decide),fun t ht=>?_⟩
    exact q t _ (same_new ht _) (by rw [upd_same]; unfold oneE; rw [if_pos ⟨eb,hlt⟩])
   ·have hlt:¬ i < many:=fun h=>c1 (decide_eq_true (by show (i:Int) < (many:Int); omega))
    exact key _ _ ⟨rfl,rfl,fun z=>hlt z.2⟩
 rintro σ1 H1 ⟨rfl,rfl,nn⟩
 have e1:oneE r i many fk = (if byNm r.k = true/\(valV fk (.inr r.z)).isSome = true then [.str "name",(valV fk (.inr r.z)).getD .non] else [.str "free"]):=by unfold oneE; rw [if_neg nn]
 try dsimp only
 refine seq_via (fun σ' H'=>σ' = [some (.ref p),some (.int (i:Nat)),some (.int (many:Nat)),some (.ref d)]/\H' = H1/\¬ (byNm r.k = true/\(valV fk (.inr r.z)).isSome = true)) ?_ (fun key=>?_)
 rotate_left
 ·refine ⟨_,rfl,p,dx,_,rfl,hp,nB,p,dx,_,_,_,_,rfl,C,hp,_,rfl,?_⟩
  rw [in_nm r.k rok.1]
  cases eb:byNm r.k with
  | false=>
   refine iteF ?_
   refine iteF ?_
   exact key _ _ ⟨rfl,rfl,by rw [eb]; exact fun z=>Bool.noConfusion z.1⟩
  | true=>
   refine iteT ?_
   refine ⟨_,rfl,p,_,dx,_,_,rfl,hp,C.cl,C.nN,pf_name,_,rfl,d,_,rfl,.inl ⟨fk,.inr r.z,hd,rfl,rfl⟩,_,rfl,?_⟩
   refine ite2 (fun c1=>?_) (fun c1=>?_)
   ·obtain ⟨v,hv⟩:=Option.isSome_iff_exists.mp c1
    refine ⟨_,rfl,_,rfl,p,_,dx,_,_,rfl,hp,C.cl,C.nN,pf_name,d,v,rfl,.inl ⟨fk,.inr r.z,hd,rfl,hv.symm⟩,(by show 2<=sizeLine; decide),fun t ht=>?_⟩
    exact q t _ (same_new ht _) (by rw [upd_same,e1,if_pos ⟨eb,c1⟩,hv]; rfl)
   ·exact key _ _ ⟨rfl,rfl,fun z=>c1 z.2⟩
 rintro σ2 H2 ⟨rfl,rfl,nn2⟩
 refine ⟨(by show 1<=sizeLine; decide),fun t ht=>?_⟩
 exact q t _ (same_new ht _) (by rw [upd_same,e1,if_neg nn2])
theorem scLacks:FnScope ["form","many","firsts","found","number","parameter"] ["form","many","firsts"] (defScope sLack):=⟨rfl,rfl,rfl,by decide +kernel,rfl,by decide +kernel,by decide +kernel⟩
theorem ok_lacks {g gP:Addr} {gd gf eP:FuncData} (F:Fun K "lackings" "lackings" sLack f fd) (hen:mg "enumerate" = none) (PP:Pcs K m c) (FK:FC K CF) (mP:Meth K CF "parameters" gP) (GP:FnOk P w K mg base CX0 1 gP eP ["self"] (spPars c CF)) (bP:Binds K eP ["self"] [])
  (GF:FnOk P w K mg base CX0 1 m.fF gf ["self"] (spFree K m)) (bF:Binds K gf ["self"] []) (cE1:Callee P w K mg base 2 "one_entry" g gd ["parameter","number","many","firsts"] (spOneE c)):FnOk P w K mg base CX0 3 f fd ["form","many","firsts"] (spLacks c CF):=by
 refine F.ok scLacks (fun vs H Q E h=>?_) (fun cdv A outer s H vs Q E hr h=>?_)
 ·obtain ⟨f,d,many,rows,bars,fk,rfl,_⟩:=h
  rfl
 obtain ⟨f,d,many,rows,bars,fk,rfl,l5,hok,hF,hd,hfl,q⟩:=h
 have hr1:Room 1 _:=hr.mono (by decide)
 have hU:=hr.units
 have hO:∀ C,Cs5 c C->Cls K C/\Meth K C "free" m.fF:=fun C ⟨k,hk,e⟩=>by rw [e]; exact ⟨(PP k hk).cl,(PP k hk).mF⟩
 refine ⟨_,pss_cons (ps_set (i:=3) scLacks.nd rfl (Or.inl rfl) (pe_lst pa_nil))
  (pss_cons (ps_for PassesOwn.never rfl (pi_enum rfl hen (ac (pe_meth0 (pv 0) FK.cl mP GP hr1 bP .nil pass0) pa_nil)) (pg_tup rfl (pgs_cons (pg_name (i:=4) scLacks.nd rfl (Or.inl rfl)) (pgs_cons (pg_name (i:=5) scLacks.nd rfl (Or.inl rfl)) pgs_nil)))
   (pss_one (ps_if (PW.pt (pw_and (pt_not (pt_val (pe_methP (pv 5) hO GF hr1 bF pass0))) (pw_and1 (pt_cmpR (op_eqTup hU) (cF cE1 hr (ac (pv 5) (ac (pv 4) (ac (pv 1) (ac (pv 2) pa_nil))))) (pe_tup (ac pe_str pa_nil)) (nomark _)))))
    (pss_one (ps_expr (pe_bm PySem.F.plainAttrs_list PySem.F.slot_list_append PySem.F.type_list_append mt_append (pv 3) (ac (pe_tup (ac pe_str (ac (pv 4) pa_nil))) pa_nil)))) pss_nil)))
  (pss_one (ps_ret (pv 3)))),?_⟩
 refine ⟨(by show 0<=sizeLine; decide),fun l hl=>?_⟩
 have s1:=same_new hl (.lst [])
 have e1:upd H l (.lst []) l = some (.lst []):=upd_same
 show tSeq _ _ _ _ (upd H l (.lst []))
 generalize upd H l (.lst []) = H1 at s1 e1 |-
 obtain ⟨dx,fs,lr,lb,ld,ps0,h1,h2,h3,h4,h5,h6⟩:=id hF
 have nmP:fs.lookup ("parameters" : Str) = none:=h2.no _ (by decide +kernel)
 refine ⟨_,rfl,f,dx,fs,rfl,s1 _ _ h1,nmP,f,rows,bars,rfl,hF.same s1,fun lp ps H2 s2 np ep hps=>?_⟩
 have e2:=s2 _ _ e1
 have nlp:lp ≠ l:=Ne.symm (ne_of_none e1 np)
 have nd:∀ {b:Addr} {u:HO},H b = some u->b ≠ l:=fun e=>ne_of_none e hl
 have s12:=s1.trans s2
 have sHl:∀ {H':Hp},(∀ b u,H2 b = some u->b ≠ l->H' b = some u)->Same H H':=fun k b u e=>k b u (s12 _ _ e) (nd e)
 refine ⟨lp,rfl,⟨_,SqL.of ep⟩,for_enum (K:=K) (a:=lp) (xs:=ps.map V.ref) (fun i σ H'=>∃ (us:List Addr) (v4 v5:Option V),σ = [some (.ref f),some (.int (many:Nat)),some (.ref d),some (.ref l),v4,v5]/\(∀ b u,H2 b = some u->b ≠ l->H' b = some u)/\H' l = some (.lst (us.map V.ref))/\MsAt H' us (lackF many fk 0 (rows.take i)))
  ⟨[],_,_,rfl,fun _ _ e _=>e,e2,.nil⟩ (fun i σ H' _ ⟨_,_,_,_,sH,_⟩=>SqL.of (sH _ _ ep nlp)) ?_ ?_⟩
 ·rintro i x p σ H' hx ⟨us,v4,v5,rfl,sH,hl',hm⟩ hpn
  obtain ⟨pa,hpa,rfl⟩:=refs_at hx
  obtain ⟨r,hr',dx',hdx⟩:=paired_at hps hpa
  have rok:=hok r (List.mem_of_getElem? hr')
  have C:=PP r.k rok.1
  have hi:i < rows.length:=(List.getElem?_eq_some_iff.mp hr').1
  have npa:pa ≠ l:=ne_of hdx e2 (by intro z; cases z)
  have tk:=lackF_snoc (many:=many) (fk:=fk) rows 0 i hr'
  rw [Nat.zero_add] at tk
  have sp:=same_new hpn (.tup [.int (i:Nat),.ref pa])
  have lu:us.length<=i:=by
   rw [hm.length]
   refine Nat.le_trans (lackF_len _ _ _ _) ?_
   rw [List.length_take]
   omega
  have sH1:∀ b u,H2 b = some u->b ≠ l->upd H' p (.tup [.int (i:Nat),.ref pa]) b = some u:=fun b u e n=>sp _ _ (sH b u e n)
  have hl1:=sp _ _ hl'
  have hm1:=hm.same sp
  refine ⟨p,_,rfl,SqT.of upd_same,rfl,_,_,rfl,_,_,rfl,rfl,?_⟩
  generalize upd H' p (.tup [.int (i:Nat),.ref pa]) = H3 at sH1 hl1 hm1 |-
  have hd3:=sH1 _ _ hdx npa
  refine ⟨_,rfl,pa,_,dx',_,rfl,⟨r.k,rok.1,rfl⟩,hd3,pf_no (by decide +kernel) (by decide +kernel) (by decide +kernel),pa,dx',_,_,_,_,rfl,C,hd3,_,rfl,?_⟩
  cases ef:fr r.k r.b with
  | true=>
   have il:isLack r i many fk = false:=by unfold isLack; rw [ef]; rfl
   rw [il,if_neg Bool.false_ne_true,List.append_nil] at tk
   refine iteF ?_
   refine iteF ?_
   exact ⟨us,_,_,rfl,sH1,hl1,by rw [tk]; exact hm1⟩
  | false=>
   refine iteT ?_
   refine ⟨_,rfl,_,rfl,_,rfl,_,rfl,pa,d,i,many,r,fk,rfl,⟨dx',hd3⟩,rok,Same.rd (sHl sH1) hd,fun u H4 s4 e4=>?_⟩
   refine ⟨(by show 1<=sizeLine; decide),fun t ht=>?_⟩
   have s5:=same_new ht (.tup [.str "free"])
   refine ⟨u,t,_,_,rfl,rfl,SqT.of (s5 _ _ e4),SqT.of upd_same,oneE_flat hfl,rfl,_,rfl,?_⟩
   have s45:=s4.trans s5
   have il:isLack r i many fk = L2.eqT (oneE r i many fk) [.str "free"]:=by unfold isLack; rw [ef]; rfl
   rw [<- il]
   generalize upd H4 t (.tup [.str "free"]) = H5 at s5 s45 |-
   have hl5:=s45 _ _ hl1
   have sH5:∀ b u,H2 b = some u->b ≠ l->H5 b = some u:=fun b u e n=>s45 _ _ (sH1 b u e n)
   refine ite2 (fun c1=>?_) (fun c1=>?_)
   ·rw [c1,if_pos rfl] at tk
    refine ⟨_,rfl,.inl ⟨rfl,_,SqL.of hl5⟩,_,rfl,(by show 2<=sizeLine; decide),fun t2 ht2=>?_⟩
    have s6:=same_new ht2 (.tup [.str "lacking",.int (i:Nat)])
    have hl6:=s6 _ _ hl5
    have hu2:MA1 (upd H5 t2 (.tup [.str "lacking",.int (i:Nat)])) t2 ("lacking",i):=by
     show upd H5 t2 _ t2 = _
     rw [upd_same]
    refine ⟨l,_,.ref t2,rfl,rfl,hl6,small1000 (by rw [List.length_map]; omega),?_⟩
    refine ⟨us ++ [t2],_,_,rfl,fun b u e n=>?_,by rw [upd_same,List.map_append]; rfl,?_⟩
    ·rw [upd_ne n]
     exact s6 _ _ (sH5 b u e n)
    ·rw [tk]
     exact (((hm1.same s45).same s6).snoc hu2).upd hl6
   ·have c2:isLack r i many fk = false:=by
     cases e:isLack r i many fk with
     | false=>rfl
     | true=>exact absurd e c1
    rw [c2,if_neg Bool.false_ne_true,List.append_nil] at tk
    exact ⟨us,_,_,rfl,sH5,hl5,by rw [tk]; exact hm1.same s45⟩
 ·rintro σ H' ⟨us,v4,v5,rfl,sH,hl',hm⟩
  rw [List.length_map,hps.length,List.take_length] at hm
  exact ⟨_,rfl,q l H' (sHl sH) ⟨us,hl,hl',hm⟩⟩
end
def fpF:Nat->List (Str × Nat)->List Str->List (Str × Nat)
 | _,acc,[]=>acc
 | i,acc,z :: zs=>fpF (i + 1) (if (acc.any fun p=>decide (p.1 = z)) = true then acc else acc ++ [(z,i)]) zs
def kvP (fp:List (Str × Nat)):List (Key × V):=fp.map fun p=>(.inr p.1,.int (p.2:Nat))
theorem kvP_any (fp:List (Str × Nat)) (z:Str):(valV (kvP fp) (.inr z)).isSome = fp.any fun p=>decide (p.1 = z):=by
 rw [<- valV_any]
 unfold kvP
 rw [List.any_map]
 congr 1
 funext p
 show decide ((Sum.inr p.1:Key) = Sum.inr z) = decide (p.1 = z)
 exact key_rr _ _
theorem fst_fp:∀ (zs:List Str) (i:Nat) (acc:List (Str × Nat)),fstF i (kvP acc) zs = kvP (fpF i acc zs)
 | [],_,_=>rfl
 | z :: zs,i,acc=>by
  show fstF (i + 1) (if (valV (kvP acc) (.inr z)).isSome = true then kvP acc else putK (kvP acc) (.inr z) (.int i)) zs = kvP (fpF (i + 1) (if (acc.any fun p=>decide (p.1 = z)) = true then acc else acc ++ [(z,i)]) zs)
  rw [kvP_any]
  cases e:acc.any fun p=>decide (p.1 = z) with
  | true=>exact fst_fp zs (i + 1) acc
  | false=>
   have e2:putK (kvP acc) (.inr z) (.int (i:Nat)) = kvP (acc ++ [(z,i)]):=by
    unfold putK
    rw [valV_any,kvP_any,e,if_neg Bool.false_ne_true]
    unfold kvP
    rw [List.map_append]
    rfl
   rw [if_neg Bool.false_ne_true,if_neg Bool.false_ne_true,e2]
   exact fst_fp zs (i + 1) _
theorem kvP_val {fp:List (Str × Nat)} {k:Key} {v:V} (h:valV (kvP fp) k = some v):∃ (z:Str) (j:Nat),k = .inr z/\v = .int (j:Nat)/\(z,j) ∈ fp:=by
 unfold valV at h
 cases e:(kvP fp).find? fun kv=>decide (kv.1 = k) with
 | none=>rw [e] at h; cases h
 | some kv=>
  rw [e] at h
  have hm:=List.mem_of_find?_eq_some e
  have hk:=List.find?_some e
  unfold kvP at hm
  obtain ⟨p,hp,rfl⟩:=List.mem_map.mp hm
  exact ⟨p.1,p.2,(of_decide_eq_true hk).symm,(Option.some.inj h).symm,hp⟩
theorem fp_flat (fp:List (Str × Nat)):FlatD1 (kvP fp):=fun k v h=>by
 obtain ⟨z,j,_,rfl,_⟩:=kvP_val h
 rfl
theorem fp_keep {z:Str}:∀ (zs:List Str) (i:Nat) (acc:List (Str × Nat)),(acc.any fun p=>decide (p.1 = z)) = true->((fpF i acc zs).any fun p=>decide (p.1 = z)) = true
 | [],_,_,h=>h
 | y :: ys,i,acc,h=>by
  show ((fpF (i + 1) _ ys).any _) = true
  refine fp_keep ys (i + 1) _ ?_
  split
  ·exact h
  ·rw [List.any_append,h]; rfl
theorem fp_mem {z:Str}:∀ (zs:List Str) (i:Nat) (acc:List (Str × Nat)),z ∈ zs->((fpF i acc zs).any fun p=>decide (p.1 = z)) = true
 | [],_,_,h=>by cases h
 | y :: ys,i,acc,h=>by
  show ((fpF (i + 1) _ ys).any _) = true
  rcases List.mem_cons.mp h with rfl | h
  ·refine fp_keep ys (i + 1) _ ?_
   split
   next e=>exact e
   ·rw [List.any_append]
    simp
  ·exact fp_mem ys (i + 1) _ h
def fpZ (zs:List Str):List (Str × Nat):=fpF 0 [] zs
theorem fst_Z (zs:List Str):fstF 0 [] zs = kvP (fpZ zs):=fst_fp zs 0 []
def dblF (fk:List (Key × V)):Nat->List Str->List (Str × Nat)
 | _,[]=>[]
 | i,z :: zs=>(if valV fk (.inr z) = some (.int (i:Nat)) then [] else [(("doubled" : Str),i)]) ++ dblF fk (i + 1) zs
theorem dblF_snoc {fk:List (Key × V)} {z:Str}:∀ (zs:List Str) (j i:Nat),zs[i]? = some z->dblF fk j (zs.take (i + 1)) = dblF fk j (zs.take i) ++ (if valV fk (.inr z) = some (.int (j + i:Nat)) then [] else [(("doubled" : Str),j + i)])
 | [],_,_,h=>by simp at h
 | y :: ys,j,0,h=>by
  have e:y = z:=by simpa using h
  subst e
  show (_ ++ []) = [] ++ _
  rw [List.append_nil,List.nil_append]
  rfl
 | y :: ys,j,i + 1,h=>by
  have:=dblF_snoc (fk:=fk) ys (j + 1) i (by simpa using h)
  show _ ++ dblF fk (j + 1) (ys.take (i + 1)) = _
  rw [this,show j + 1 + i = j + (i + 1) by omega,<- List.append_assoc]
  rfl
theorem dblF_len (fk:List (Key × V)):∀ (zs:List Str) (i:Nat),(dblF fk i zs).length<=zs.length
 | [],_=>Nat.le_refl _
 | r :: rs,i=>by
  have:=dblF_len fk rs (i + 1)
  show (_ ++ dblF fk (i + 1) rs).length<=rs.length + 1
  rw [List.length_append]
  split
  ·rw [List.length_nil]; omega
  ·rw [List.length_singleton]; omega
def unwW (rows:List Rw) (bars:List Str) (many:Nat) (z:Str):Option Str:=
 if z ∈ bars then some "barred" else match lastD' z rows with
  | none=>if (firstK 4 0 rows).isSome = true then none else some "strange"
  | some l=>if l < plN rows/\l < many then some "again" else none
where lastD' (z:Str) (rows:List Rw):Option Nat:=match valV (doorsF 0 [] rows) (.inr z) with
 | some (.int i)=>some i.toNat
 | _=>none
def unwF (rows:List Rw) (bars:List Str) (many:Nat) (fp:List (Str × Nat)):List (Str × Nat):=fp.filterMap fun p=>(unwW rows bars many p.1).map fun wd=>(wd,p.2)
def missF (rows:List Rw) (bars:List Str) (many:Nat) (zs:List Str):List (Str × Nat):=dblF (kvP (fpZ zs)) 0 zs ++ overF rows many ++ unwF rows bars many (fpZ zs) ++ lackF many (kvP (fpZ zs)) 0 rows
def spUnw (c:C5) (CF:Addr):Sp:=fun vs H Q _=>∃ (f d:Addr) (o:Obj) (many:Nat) (rows:List Rw) (bars:List Str) (fp:List (Str × Nat)),vs = [.ref f,.int (many:Nat),.ref d]/\rows.length<=500/\bars.length<=500/\fp.length<=900/\FormAt c CF H f rows bars/\H d = some (.frz o (.dK (kvP fp)))/\∀ (l:Addr) (H':Hp),Same H H'->NewMs H H' l (unwF rows bars many fp)->Q (.ref l) H'
def spMOf (c:C5) (CF:Addr):Sp:=fun vs H Q _=>∃ (f a:Addr) (many:Nat) (rows:List Rw) (bars zs:List Str),vs = [.ref f,.int (many:Nat),.ref a]/\rows.length<=500/\bars.length<=500/\many<=900/\zs.length<=900/\(∀ r ∈ rows,r.ok)/\FormAt c CF H f rows bars/\H a = some (.lst (zs.map V.str))/\∀ (l:Addr) (H':Hp),Same H H'->NewMs H H' l (missF rows bars many zs)->Q (.ref l) H'
theorem fpF_len:∀ (zs:List Str) (i:Nat) (acc:List (Str × Nat)),(fpF i acc zs).length<=acc.length + zs.length
 | [],_,_=>Nat.le_refl _
 | z :: zs,i,acc=>by
  have h:=fpF_len zs (i + 1) (if (acc.any fun p=>decide (p.1 = z)) = true then acc else acc ++ [(z,i)])
  have h2:(if (acc.any fun p=>decide (p.1 = z)) = true then acc else acc ++ [(z,i)]).length<=acc.length + 1:=by
   split
   ·omega
   ·rw [List.length_append]; exact Nat.le_refl _
  show (fpF (i + 1) _ zs).length<=acc.length + (zs.length + 1)
  omega
theorem MsAt.app {H:Hp} {us vs:List Addr} {ms ns:List (Str × Nat)} (h:MsAt H us ms) (h':MsAt H vs ns):MsAt H (us ++ vs) (ms ++ ns):=paired_app h h'
section
variable {P:Program} {w:World} {K:PySem.W.Frag} {mg:Str->Option Value} {base:Heap} {f CF:Addr} {fd:FuncData} {c:C5} {m:MA}
theorem ndDb:([Str.ofString "number",Str.ofString "name",Str.ofString "firsts"]:List Str).Nodup:=by decide +kernel
theorem scMOf:FnScope ["form","many","names","firsts","doubled"] ["form","many","names"] (defScope sMOf):=⟨rfl,rfl,rfl,by decide +kernel,rfl,by decide +kernel,by decide +kernel⟩
theorem ok_mof {g1 g2 g3 g4:Addr} {d1 d2 d3 d4:FuncData} (F:Fun K "misfits_of" "misfits_of" sMOf f fd) (hen:mg "enumerate" = none) (c1:Callee P w K mg base 1 "first_numbers" g1 d1 ["names"] spFirsts) (c2:Callee P w K mg base 2 "overs" g2 d2 ["form","many"] (spOvers c CF)) (c3:Callee P w K mg base 2 "unwelcomes" g3 d3 ["form","many","firsts"] (spUnw c CF)) (c4:Callee P w K mg base 3 "lackings" g4 d4 ["form","many","firsts"] (spLacks c CF)) :
  FnOk P w K mg base CX0 4 f fd ["form","many","names"] (spMOf c CF):=by
 refine F.ok scMOf (fun vs H Q E h=>?_) (fun cdv A outer s H vs Q E hr h=>?_)
 ·obtain ⟨f,a,many,rows,bars,zs,rfl,_⟩:=h
  rfl
 obtain ⟨f,a,many,rows,bars,zs,rfl,l5,lb5,lm,lz,hok,hF,ha,q⟩:=h
 have hr1:Room 1 _:=hr.mono (by decide)
 have hr2:Room 2 _:=hr.mono (by decide)
 have hu1:=hu_of hr
 refine ⟨_,pss_cons (ps_set (i:=3) scMOf.nd rfl (Or.inr rfl) (cF c1 hr1 (ac (pv 2) pa_nil)))
  (pss_cons (ps_lc (i:=4) ["firsts"] ["number","name","firsts"] [none,none,some 3] scMOf.nd rfl (Or.inl rfl) rfl ⟨rfl,rfl,rfl,rfl⟩ (pi_enum rfl hen (ac (pv 2) pa_nil)) (gown_tup2 (K:=K) (n:=2) 0 1) rfl rfl rfl
   (fun pins fp s H C=>⟨pg_tup rfl (pgs_cons (pg_name (i:=0) ndDb rfl (Or.inl rfl) (.inr rfl)) (pgs_cons (pg_name (i:=1) ndDb rfl (Or.inl rfl) (.inr rfl)) pgs_nil)),pif_one (pt_cmpR op_ne (pe_dget hu1 (pv 2) (pv 1) (fun _ _=>rfl)) (pv 0) (nomark _)),pe_tup (ac pe_str (ac (pv 0) pa_nil))⟩))
  (pss_one (ps_ret (pe_op op_cat (pe_op op_cat (pe_op op_cat (pv 4) (cF c2 hr2 (ac (pv 0) (ac (pv 1) pa_nil)))) (cF c3 hr2 (ac (pv 0) (ac (pv 1) (ac (pv 3) pa_nil))))) (cF c4 hr (ac (pv 0) (ac (pv 1) (ac (pv 3) pa_nil)))))))),?_⟩
 refine ⟨_,rfl,a,zs,rfl,ha,lz,fun d o H1 s1 hd0 hd1=>?_⟩
 rw [fst_Z] at hd1
 have lfp:(fpZ zs).length<=900:=by
  have:=fpF_len zs 0 []
  show (fpF 0 [] zs).length<=900
  simp at this
  omega
 generalize hfp:fpZ zs = fp at hd1 lfp
 refine ⟨_,rfl,a,rfl,⟨_,SqL.of (s1 _ _ ha)⟩,fun D hD=>?_⟩
 refine lc_enum (K:=K) (xs:=zs.map V.str) (fun i ys H'=>∃ us,ys = us.map V.ref/\Same H1 H'/\H' D = some (.lst ys)/\MsAt H' us (dblF (kvP fp) 0 (zs.take i))) ⟨[],rfl,same_new hD _,upd_same,.nil⟩ (fun i ys H' ⟨_,_,h,_⟩=>SqL.of (h _ _ (s1 _ _ ha))) ?_ ?_
 ·rintro i x p ys H' hlt hx ⟨us,rfl,sH,hDy,hm⟩ hpn
  obtain ⟨z,hz,rfl⟩:=strs_at hx
  have hi:i < zs.length:=(List.getElem?_eq_some_iff.mp hz).1
  have tk:=dblF_snoc (fk:=kvP fp) zs 0 i hz
  rw [Nat.zero_add] at tk
  have sp:=same_new hpn (.tup [.int (i:Nat),.str z])
  have lu:us.length<=i:=by
   rw [hm.length]
   refine Nat.le_trans (dblF_len _ _ _) ?_
   rw [List.length_take]
   omega
  have hsome:(valV (kvP fp) (.inr z)).isSome = true:=by
   rw [kvP_any,<- hfp]
   exact fp_mem zs 0 [] (List.mem_of_getElem? hz)
  obtain ⟨v,hv⟩:=Option.isSome_iff_exists.mp hsome
  obtain ⟨_,j,_,rfl,_⟩:=kvP_val hv
  have hd2:=sp _ _ (sH _ _ hd1)
  have hDy2:=sp _ _ hDy
  have hm2:=hm.same sp
  refine ⟨p,_,rfl,SqT.of upd_same,rfl,_,_,rfl,_,_,rfl,rfl,?_⟩
  have sA:=sH.trans sp
  generalize upd H' p (.tup [.int (i:Nat),.str z]) = H3 at sp hd2 hDy2 hm2 sA |-
  refine ⟨_,rfl,_,rfl,d,_,rfl,.inl ⟨_,.inr z,.inr ⟨o,hd2⟩,rfl,hv.symm⟩,_,rfl,rfl,_,rfl,?_⟩
  by_cases ej:j = i
  ·subst ej
   rw [if_pos hv,List.append_nil] at tk
   have ed:(!decide (V.int (j:Nat) = V.int (j:Nat))) = false:=by rw [decide_eq_true rfl]; rfl
   rw [ed]
   exact ⟨fun e=>Bool.noConfusion e,fun _=>lcS.mk hlt ⟨us,rfl,sA,hDy2,by rw [tk]; exact hm2⟩⟩
  ·have nv:¬ valV (kvP fp) (.inr z) = some (.int (i:Nat)):=fun e=>by
    rw [hv] at e
    have:=V.int.inj (Option.some.inj e)
    omega
   rw [if_neg nv] at tk
   have ed:(!decide (V.int (j:Nat) = V.int (i:Nat))) = true:=by
    rw [decide_eq_false (fun e=>by have:=V.int.inj e; omega)]
    rfl
   rw [ed]
   refine ⟨fun _=>?_,fun e=>Bool.noConfusion e⟩
   refine ⟨_,rfl,(by show 2<=sizeLine; decide),fun t ht=>?_⟩
   have s4:=same_new ht (.tup [.str "doubled",.int (i:Nat)])
   have hDy4:=s4 _ _ hDy2
   have hu:MA1 (upd H3 t (.tup [.str "doubled",.int (i:Nat)])) t ("doubled",i):=by
    show upd H3 t _ t = _
    rw [upd_same]
   refine lcN.mk hlt (le1000 (by rw [List.length_map]; omega)) hDy4 (by rw [List.length_map]; exact lu) ⟨us ++ [t],by rw [List.map_append]; rfl,fun b' u' e'=>?_,upd_same,?_⟩
   ·rw [upd_ne (ne_of_none e' hD)]
    exact s4 _ _ (sA _ _ e')
   ·rw [tk]
    exact ((hm2.same s4).snoc hu).upd hDy4
 rintro ys H2 ⟨us,rfl,s2,hDy,hm⟩
 rw [List.length_map,List.take_length] at hm
 have s12:=s1.trans s2
 have lov:(overF rows many).length<=900:=by
  unfold overF
  split
  ·exact Nat.zero_le _
  ·rw [List.length_map,List.length_range]; omega
 have lun:(unwF rows bars many fp).length<=900:=by
  unfold unwF
  exact Nat.le_trans (List.length_filterMap_le _ _) lfp
 have lla:=lackF_len many (kvP fp) rows 0
 have ldb:=dblF_len (kvP fp) zs 0
 have big : 4000<=sizeLine:=by decide
 refine ⟨_,rfl,_,rfl,_,rfl,f,many,rows,bars,rfl,lm,l5,hF.same s12,fun l3 H3 s3 ⟨us3,n3,e3,m3⟩=>?_⟩
 have lu0:=hm.length
 have lu3:=m3.length
 refine ⟨D,l3,_,_,rfl,rfl,s3 _ _ hDy,e3,(by simp only [List.length_map]; omega),fun p4 hp4=>?_⟩
 rw [<- List.map_append]
 have u4:=same_new hp4 (.lst ((us ++ us3).map V.ref))
 have e4:upd H3 p4 (.lst ((us ++ us3).map V.ref)) p4 = some (.lst ((us ++ us3).map V.ref)):=upd_same
 have m4:MsAt (upd H3 p4 (.lst ((us ++ us3).map V.ref))) (us ++ us3) _:=((hm.same s3).app m3).same u4
 generalize upd H3 p4 (.lst ((us ++ us3).map V.ref)) = H4 at u4 e4 m4 |-
 have s24:=s2.trans (s3.trans u4)
 have s14:=s1.trans s24
 refine ⟨_,rfl,_,rfl,_,rfl,f,d,o,many,rows,bars,fp,rfl,l5,lb5,lfp,hF.same s14,s24 _ _ hd1,fun l5' H5 s5 ⟨us5,n5,e5,m5⟩=>?_⟩
 have lu5:=m5.length
 refine ⟨p4,l5',_,_,rfl,rfl,s5 _ _ e4,e5,(by simp only [List.length_map,List.length_append]; omega),fun p6 hp6=>?_⟩
 rw [<- List.map_append]
 have u6:=same_new hp6 (.lst ((us ++ us3 ++ us5).map V.ref))
 have e6:upd H5 p6 (.lst ((us ++ us3 ++ us5).map V.ref)) p6 = some (.lst ((us ++ us3 ++ us5).map V.ref)):=upd_same
 have m6:MsAt (upd H5 p6 (.lst ((us ++ us3 ++ us5).map V.ref))) (us ++ us3 ++ us5) _:=((m4.same s5).app m5).same u6
 generalize upd H5 p6 (.lst ((us ++ us3 ++ us5).map V.ref)) = H6 at u6 e6 m6 |-
 have s26:=s24.trans (s5.trans u6)
 have s16:=s1.trans s26
 refine ⟨_,rfl,_,rfl,_,rfl,f,d,many,rows,bars,kvP fp,rfl,l5,hok,hF.same s16,.inr ⟨o,s26 _ _ hd1⟩,fp_flat fp,fun l7 H7 s7 ⟨us7,n7,e7,m7⟩=>?_⟩
 have lu7:=m7.length
 refine ⟨p6,l7,_,_,rfl,rfl,s7 _ _ e6,e7,(by simp only [List.length_map,List.length_append]; omega),fun p8 hp8=>?_⟩
 rw [<- List.map_append]
 have u8:=same_new hp8 (.lst ((us ++ us3 ++ us5 ++ us7).map V.ref))
 refine q p8 _ (s16.trans (s7.trans u8)) ⟨us ++ us3 ++ us5 ++ us7,(s16.trans s7).free hp8,upd_same,?_⟩
 unfold missF
 rw [hfp]
 exact ((m6.same s7).app m7).same u8
end
end K32
namespace L2
open PySem PySem.Spec PyProof.Rows
def seen (val:Nat->Str) (T:Str->Bool):Nat->Nat->Str->Bool
 | _,0,z=>T z
 | i,k + 1,z=>seen val (fun y=>T y || decide (y = val i)) (i + 1) k z
section
variable {P:Program} {w:World} {A:Around} {R:Result->Shared->Prop} {I:Addr} {fp wr:List Addr} {G:Array GenState->Array GenState->Prop} {n:Nat} {Pr:Nat->Value->Prop} {Sg:Nat->Shared->Prop}
theorem texts_loop (W:WalksS P w A.in1 I fp wr G n Pr Sg) (a:Addr) (ha:a ∉ fp) (val:Nat->Str) (hv:∀ i v,Pr i v->∃ t,v = .str (val i) t) (hb:n + 1 < scanBound) :
  ∀ (k i:Nat) (s:Shared) (T:Str->Bool) (c:Nat),n - i = k->i<=n->Sg i s->c<=i->s.heap.SetOf (strKind P w) a T c->
   (∀ s' c',Moved (a :: wr) G s s'->c'<=n->s'.heap.SetOf (strKind P w) a (seen val T i k) c'->R (.ok (.ret .none)) s')->
   codeAny (model P w) A (.builtin "set.update.loop" ⟨[.ref a,.ref I],[]⟩) R s
 | 0,i,s,T,c,hk,hi,hg,hc,hT,hR=>by
  have hw:a ∉ wr:=fun z=>ha (W.sub _ z)
  have ei:i = n:=by omega
  subst ei
  refine codeAny_builtin PyProof.Rows.F.entry_set_update_loop ?_; rw [Around.under_plainId PyProof.Rows.F.plain_set_update_loop _]
  show wpAny _ A.in1 (pyNext (.ref I) >>= _) _ _ _; refine wpAny_bind (W.done s _ _ hg fun s' hm=>?_)
  show wpAny _ A.in1 (ret Value.none) _ _ _; refine wpAny_pure (hR s' c (hm.mono fun b z=>List.mem_cons_of_mem _ z) hc ?_)
  obtain ⟨ob,es,ep,t,h1,h2⟩:=hT
  exact ⟨ob,es,ep,t,hm.heap a _ hw h1,h2⟩
 | k + 1,i,s,T,c,hk,hi,hg,hc,hT,hR=>by
  have hw:a ∉ wr:=fun z=>ha (W.sub _ z)
  have hlt:i < n:=by omega
  refine codeAny_builtin PyProof.Rows.F.entry_set_update_loop ?_; rw [Around.under_plainId PyProof.Rows.F.plain_set_update_loop _]
  show wpAny _ A.in1 (pyNext (.ref I) >>= _) _ _ _; refine wpAny_bind (W.item i s _ _ hlt hg fun v s' hP hg' hm=>?_)
  obtain ⟨t,rfl⟩:=hv i v hP
  have hT':s'.heap.SetOf (strKind P w) a T c:=by
   obtain ⟨ob,es,ep,tb,h1,h2⟩:=hT
   exact ⟨ob,es,ep,tb,hm.heap a _ hw h1,h2⟩
  show wpAny _ A.in1 (holding [Value.str (val i) t] (setAdd a (.str (val i) t)) >>= _) _ _ s'
  refine wpAny_bind (wpAny_holding ?_); unfold setAdd; refine wpAny_holding ?_
  refine wpAny_bind ((strKind P w).pyHash (k:=val i) (strKind_is _ _ _ _) ?_)
  refine wpAny_setAddHashed_of (knd:=strKind P w) (s:={ s' with toks:=s'.toks + 1 }) (strKind_is _ _ _ _) rfl hT' (by omega) fun h' hsb h3=>?_
  refine wpAny_pure ⟨plainId_quiet PyProof.Rows.F.plain_set_update_loop _,texts_loop W a ha val hv hb k (i + 1) _ _ _ (by omega) hlt (W.frame _ s' _ _ hg' (Nat.le_succ _) fun b hb' o e=>?_) (by split <;> omega) h3 fun s2 c2 hm2 hc2 h4=>?_⟩
  ·have:b ≠ a:=fun z=>ha (z ▸ hb')
   rw [hsb.2 b this]; exact e
  ·refine hR s2 c2 (Moved.trans W.gtrans ((hm.mono fun b z=>List.mem_cons_of_mem _ z).then_heap (Nat.le_succ _) fun b o hb' e=>?_) hm2) hc2 h4
   have:b ≠ a:=fun z=>hb' (z ▸ List.mem_cons_self)
   rw [hsb.2 b this]; exact e
end
abbrev setN (led:Bool):Obj:={ cls:=.type "set",dict:=none,data:=.set #[] 0 (.fresh 0 0 led) }
set_option maxHeartbeats 8000000 in
theorem call_texts {P:Program} {w:World} {A:Around} {E:Value->Shared->Prop} {s:Shared} {l:Addr} {items:Array Value} {zs:List Str} {Q:Value->Shared->Prop}
  (hh:A.handled = none) (hl:s.heap.IsList l items) (hv:∀ (i:Nat) (v:Value),items[i]? = some v->∃ t,v = .str (zs.getD i "") t) (hb:items.size + 1 < scanBound)
  (h:∀ (h':Heap) (tk c:Nat),h'.SetOf (strKind P w) s.heap.objs.size (seen (fun i=>zs.getD i "") (fun _=>false) 0 items.size) c->(∀ b o,b < s.heap.objs.size->s.heap.get? b = some o->h'.get? b = some o)->Q (.ref s.heap.objs.size) { s with heap:=h',toks:=tk }) :
  wpAny (model P w) A (call (.type "set") [.ref l]) Q E s:=by
 obtain ⟨mc,mt,mro⟩:=PySem.F.called_set.mro
 have q1:=PySem.F.called_set.made; have q2:=PySem.F.called_set.sub; have q3:=PySem.F.called_set.notType; have q4:=PySem.F.called_set.canCreate; have q5:=PySem.F.typeCall_set_1 (.ref l)
 refine wpAny_call (codeAny_of_tree ?_); show wpAny _ _ (callAny (.type "set") _) _ _ _
 refine wpAny_pure ⟨Code.quiet_builtin _ (by decide +kernel),codeAny_builtin PySem.F.entry_type_call ?_⟩; rw [Around.under_plain (weight_type_call_type "set" [.ref l] []) rfl]
 repeat (any_goals first | assumption | wp_step)
 refine codeAny_mono (code_set_new_1 (.ref l) (E:=E) (Q₁:=fun obj s₁=>∃ led:Bool,obj = .ref s.heap.objs.size/\s₁ = { s with heap:=s.heap.push (setN led) }) fun led=>⟨led,rfl,rfl⟩) fun r s₁ hr=>?_
 rcases r with e | (_ | _ | _ | obj)
 ·exact hr
 ·exact hr.elim
 ·exact hr.elim
 ·exact hr.elim
 ·obtain ⟨led,rfl,rfl⟩:=hr
  have hS:(s.heap.push (setN led)).get? s.heap.objs.size = some (setN led):=Heap.get?_push_size _ rfl
  have hT:Shared.TypeIs { s with heap:=s.heap.push (setN led) } (.ref s.heap.objs.size) "set":=⟨_,hS,rfl⟩
  have q6:=PySem.F.called_set.init.lookup; have q7:=PySem.F.called_set.init.bind (.ref s.heap.objs.size)
  repeat (any_goals first | assumption | wp_step)
  refine codeAny_mono (codeAny_call_builtin (R:=wants (fun r s₂=>r = .none/\∃ h' tk c,s₂ = { s with heap:=h',toks:=tk }/\h'.SetOf (strKind P w) s.heap.objs.size (seen (fun i=>zs.getD i "") (fun _=>false) 0 items.size) c/\∀ b o,b < s.heap.objs.size->s.heap.get? b = some o->h'.get? b = some o) E) PySem.F.called_set.init.plain PySem.F.entry_set_init (check_set_init_1 hT ?_)) fun r₂ s₂ hr₂=>?_
  ·obtain ⟨ol,hol,hcl,nl,hdl⟩:=id hl
   obtain ⟨ocls,odict,odata,oslots⟩:=ol
   simp only at hcl hdl
   subst hcl hdl
   have hol':(s.heap.push (setN led)).get? l = _:=Heap.get?_push_of_some (setN led) hol
   have t1:=PySem.F.sub_list_set; have t2:=PySem.F.sub_list_frozenset
   have t3:(Value.type "list" == Value.type "dict") = false:=by decide
   have hl1:(s.heap.push (setN led)).IsList l items:=⟨_,hol',rfl,nl,rfl⟩
   have hlS:l < s.heap.objs.size:=Heap.lt_size hol
   unfold Builtin.«set.__init__» noKeywords Builtin.Frozenset.updateFrom
   generalize hq:pyIter = pit
   wp_walk
   subst hq
   refine wpAny_pyIter_list hl1 (wpAny_bind (wpAny_runValue ?_))
   have hz:(s.heap.push (setN led)).objs.size = s.heap.objs.size + 1:=Heap.size_push ..
   have n1:l ≠ (s.heap.push (setN led)).objs.size:=by rw [hz]; exact Nat.ne_of_lt (Nat.lt_succ_of_lt hlS)
   have n2:∀ b:Addr,b < s.heap.objs.size->b ∉ [s.heap.objs.size,(s.heap.push (setN led)).objs.size]:=fun b hb' z=>by
    rw [hz] at z
    rcases List.mem_cons.mp z with e | e
    ·exact Nat.ne_of_lt hb' e
    ·exact Nat.ne_of_lt (Nat.lt_succ_of_lt hb') (List.mem_singleton.mp e)
   have n3:s.heap.objs.size ∉ [(s.heap.push (setN led)).objs.size,l]:=fun z=>by
    rw [hz] at z
    rcases List.mem_cons.mp z with e | e
    ·exact Nat.ne_of_lt (Nat.lt_succ_self _) e
    ·exact Nat.ne_of_gt hlS (List.mem_singleton.mp e)
   refine texts_loop ((Walks.list (by simp [hh]) _ l n1 items).toS) s.heap.objs.size n3 (fun i=>zs.getD i "") hv hb items.size 0 _ (fun _=>false) 0 (by omega) (Nat.zero_le _) ⟨⟨_,Heap.get?_push_size _ rfl,rfl,rfl⟩,hl1.push _⟩ (Nat.le_refl _) ?_ ?_
   ·exact (PyProof.Rows.setObjOf_fresh (knd:=strKind P w) led).setOf (Heap.get?_push_of_some _ hS) (by unfold scanBound; omega)
   ·rintro ⟨h',g',d',tk',os'⟩ c' hm hc' hS'
    have e1:g' = s.gens:=hm.gens
    have e2:d' = s.drawn:=hm.drawn
    have e3:os' = s.os:=hm.os
    subst e1 e2 e3
    show wpAny _ _ _ _ _ _
    refine wpAny_pure ?_; show wpAny _ _ (ret Value.none) _ _ _
    refine wpAny_pure ⟨rfl,h',tk',c',rfl,hS',fun b o hb' e=>hm.heap b o (n2 b hb') (Heap.get?_push_of_some _ (Heap.get?_push_of_some _ e))⟩
  ·rcases r₂ with e | (_ | _ | _ | ob2)
   ·exact hr₂
   ·exact hr₂.elim
   ·exact hr₂.elim
   ·exact hr₂.elim
   ·obtain ⟨rfl,h',tk,c',rfl,hS',hk'⟩:=hr₂
    repeat (any_goals first | assumption | wp_step)
    exact h _ _ _ hS' hk'
theorem seen_any (val:Nat->Str) (z:Str):∀ (k i:Nat) (T:Str->Bool),seen val T i k z = true ↔ (T z = true\/∃ j,j < k/\z = val (i + j))
 | 0,i,T=>⟨fun h=>.inl h,fun h=>h.elim id fun ⟨j,hj,_⟩=>absurd hj (Nat.not_lt_zero _)⟩
 | k + 1,i,T=>by
  show seen val (fun y=>T y || decide (y = val i)) (i + 1) k z = true ↔ _
  rw [seen_any val z k (i + 1)]
  simp only [Bool.or_eq_true,decide_eq_true_eq]
  constructor
  ·rintro ((h | h) | ⟨j,hj,e⟩)
   ·exact .inl h
   ·exact .inr ⟨0,by omega,h⟩
   ·exact .inr ⟨j + 1,by omega,by rw [show i + (j + 1) = i + 1 + j by omega]; exact e⟩
  ·rintro (h | ⟨j,hj,e⟩)
   ·exact .inl (.inl h)
   ·cases j with
    | zero=>exact .inl (.inr e)
    | succ j=>exact .inr ⟨j,by omega,by rw [show i + 1 + j = i + (j + 1) by omega]; exact e⟩
theorem seen_mem (zs:List Str) (z:Str):seen (fun i=>zs.getD i "") (fun _=>false) 0 zs.length z = decide (z ∈ zs):=by
 rw [Bool.eq_iff_iff,seen_any,decide_eq_true_eq]
 constructor
 ·rintro (h | ⟨j,hj,e⟩)
  ·cases h
  ·rw [e,Nat.zero_add]
   show zs.getD j "" ∈ zs
   rw [List.getD_eq_getElem?_getD,List.getElem?_eq_getElem hj]
   exact List.getElem_mem hj
 ·intro h
  obtain ⟨j,hj,e⟩:=List.mem_iff_getElem.mp h
  refine .inr ⟨j,hj,?_⟩
  rw [Nat.zero_add]
  show z = zs.getD j ""
  rw [List.getD_eq_getElem?_getD,List.getElem?_eq_getElem hj]
  exact e.symm
theorem Vals.strs_at:∀ {zs:List Str} {us:List Value},Vals (zs.map V.str) us->∀ (i:Nat) (v:Value),us[i]? = some v->∃ t,v = .str (zs.getD i "") t
 | [],_,.nil,i,v,h=>by simp at h
 | z :: zs,_,.cons r t,0,v,h=>by
  obtain ⟨tk,e⟩:=r
  have:v = .str z tk:=by rw [<- e]; simpa using h.symm
  exact ⟨tk,this⟩
 | z :: zs,_,.cons r t,i + 1,v,h=>Vals.strs_at t i v (by simpa using h)
theorem call_setT {X:Cx} (hc:X.calm = true):CallR X (.type "set") (fun xs H Q=>∃ (p:Addr) (zs:List Str),xs = [.ref p]/\SqL X.K H p (zs.map V.str)/\zs.length<=900/\∀ (l:Addr) (n:Nat),H l = none->Q (.ref l) (upd H l (setO X.prog X.w l (fun z=>decide (z ∈ zs)) n))):=by
 intro pins s σ H xs us Q I r h
 obtain ⟨p,zs,rfl,hS,lz,q⟩:=h
 obtain ⟨u,rfl,ru⟩:=vals1 r
 cases ru
 obtain ⟨its,rv,hp,hz⟩:=I.list hS
 have hl:its.length = zs.length:=by rw [<- rv.length,List.length_map]
 have hb:its.toArray.size + 1 < scanBound:=by
  rw [List.size_toArray,hl]
  have : 1000 < scanBound:=by unfold scanBound; decide
  omega
 refine call_texts (I.ok.hd hc) hp.isList (fun i v e=>rv.strs_at i v (by simpa using e)) hb fun h' tk c hS' hk=>?_
 have hsz:its.toArray.size = zs.length:=by rw [List.size_toArray,hl]
 rw [hsz] at hS'
 have eS:seen (fun i=>zs.getD i "") (fun _=>false) 0 zs.length = fun z=>decide (z ∈ zs):=funext (seen_mem zs)
 rw [eS] at hS'
 refine ⟨.ref s.heap.objs.size,_,I.laid (t':=tk) (fun b ob e=>hk b ob (Heap.lt_size e) e) (Nat.le_refl _) (setO_ok hS'),rfl,q _ c (I.hok.fresh (Nat.le_refl _))⟩
end L2
namespace K32
open PySem L2 PyProof.Rows
theorem dv_val:∀ (rows:List Rw) (i:Nat) (acc:List (Key × V)) (k:Key) (v:V),(∀ k v,valV acc k = some v->∃ j:Nat,v = .int (j:Nat))->valV (doorsF i acc rows) k = some v->∃ j:Nat,v = .int (j:Nat)
 | [],_,acc,k,v,h,e=>h k v e
 | r :: rs,i,acc,k,v,h,e=>by
  refine dv_val rs (i + 1) _ k v (fun k v e=>?_) e
  split at e
  ·rw [valV_put] at e
   split at e
   ·exact ⟨i,(Option.some.inj e).symm⟩
   ·exact h k v e
  ·exact h k v e
theorem unwF_snoc {rows:List Rw} {bars:List Str} {many:Nat} {fp:List (Str × Nat)} {i:Nat} {p:Str × Nat} (h:fp[i]? = some p):unwF rows bars many (fp.take (i + 1)) = unwF rows bars many (fp.take i) ++ (match unwW rows bars many p.1 with | some wd=>[(wd,p.2)] | none=>[]):=by
 unfold unwF
 rw [List.take_add_one,h,List.filterMap_append]
 congr 1
 show List.filterMap _ [p] = _
 rw [List.filterMap_cons,List.filterMap_nil]
 cases unwW rows bars many p.1 <;> rfl
theorem unwF_len (rows:List Rw) (bars:List Str) (many:Nat) (fp:List (Str × Nat)):(unwF rows bars many fp).length<=fp.length:=List.length_filterMap_le _ _
section
variable {P:Program} {w:World} {K:PySem.W.Frag} {mg:Str->Option Value} {base:Heap} {f CF:Addr} {fd:FuncData} {c:C5} {m:MA}
theorem scUnw:FnScope ["form","many","firsts","barred","found","name","number","leads_to"] ["form","many","firsts"] (defScope sUnw):=⟨rfl,rfl,rfl,by decide +kernel,rfl,by decide +kernel,by decide +kernel⟩
theorem ok_unw {gB gN gG gP:Addr} {eB eN eG eP:FuncData} (F:Fun K "unwelcomes" "unwelcomes" sUnw f fd) (hset:mg "set" = none) (FK:FC K CF) (mB:Meth K CF "bars" gB) (GB:FnOk P w K mg base CX0 1 gB eB ["self"] (spBars c CF)) (bB:Binds K eB ["self"] []) (mN:Meth K CF "number_of" gN) (GN:FnOk P w K mg base CX0 1 gN eN ["self","name"] (spNum c CF)) (bN:Binds K eN ["self","name"] [])
  (mG:Meth K CF "bag" gG) (GG:FnOk P w K mg base CX0 1 gG eG ["self"] (spWord c CF 4)) (bG:Binds K eG ["self"] []) (mP:Meth K CF "places" gP) (GP:FnOk P w K mg base CX0 1 gP eP ["self"] (spPlaces c CF)) (bP:Binds K eP ["self"] []) :
  FnOk P w K mg base CX0 2 f fd ["form","many","firsts"] (spUnw c CF):=by
 refine F.ok scUnw (fun vs H Q E h=>?_) (fun cdv A outer s H vs Q E hr h=>?_)
 ·obtain ⟨f,d,o,many,rows,bars,fp,rfl,_⟩:=h
  rfl
 obtain ⟨f,d,o,many,rows,bars,fp,rfl,l5,lb5,lfp,hF,hd,q⟩:=h
 refine ⟨_,pss_cons (ps_set (i:=3) scUnw.nd rfl (Or.inl rfl) (cTy (call_setT rfl) hset PyProof.Rows.boot_set (ac (pe_meth0 (pv 0) FK.cl mB GB hr bB .nil pass0) pa_nil)))
  (pss_cons (ps_set (i:=4) scUnw.nd rfl (Or.inl rfl) (pe_lst pa_nil))
  (pss_cons (ps_for PassesOwn.never rfl (pi_items (pv 2)) (pg_tup rfl (pgs_cons (pg_name (i:=5) scUnw.nd rfl (Or.inl rfl)) (pgs_cons (pg_name (i:=6) scUnw.nd rfl (Or.inl rfl)) pgs_nil)))
   (pss_cons (ps_set (i:=7) scUnw.nd rfl (Or.inl rfl) (pe_meth (pv 0) FK.cl mN GN hr bN .nil pass0 (ac (pv 5) pa_nil)))
   (pss_one (ps_if (pt_cmpR op_in_setT (pv 5) (pv 3) (by with_unfolding_all rfl)) (pss_one (ps_expr (pe_bm PySem.F.plainAttrs_list PySem.F.slot_list_append PySem.F.type_list_append mt_append (pv 4) (ac (pe_tup (ac pe_str (ac (pv 6) pa_nil))) pa_nil))))
    (pss_one (ps_if (pt_cmp (pc_isN (pv 7))) (pss_one (ps_if (pt_cmp (pc_isN (pe_meth0 (pv 0) FK.cl mG GG hr bG .nil pass0))) (pss_one (ps_expr (pe_bm PySem.F.plainAttrs_list PySem.F.slot_list_append PySem.F.type_list_append mt_append (pv 4) (ac (pe_tup (ac pe_str (ac (pv 6) pa_nil))) pa_nil)))) pss_nil))
     (pss_one (ps_if (PW.pt (pw_and (pt_cmpR op_lt (pv 7) (pe_meth0 (pv 0) FK.cl mP GP hr bP .nil pass0) (nomark _)) (pw_and1 (pt_cmpR op_lt (pv 7) (pv 1) (nomark _))))) (pss_one (ps_expr (pe_bm PySem.F.plainAttrs_list PySem.F.slot_list_append PySem.F.type_list_append mt_append (pv 4) (ac (pe_tup (ac pe_str (ac (pv 6) pa_nil))) pa_nil)))) pss_nil))))))))
  (pss_one (ps_ret (pv 4))))),?_⟩
 obtain ⟨dx,fs,lr,lb,ld,ps0,h1,h2,h3,h4,h5,h6⟩:=id hF
 have nmB:fs.lookup ("bars" : Str) = none:=h2.no _ (by decide +kernel)
 have nmN:fs.lookup ("number_of" : Str) = none:=h2.no _ (by decide +kernel)
 have nmG:fs.lookup ("bag" : Str) = none:=h2.no _ (by decide +kernel)
 have nmP:fs.lookup ("places" : Str) = none:=h2.no _ (by decide +kernel)
 refine ⟨_,rfl,f,dx,fs,rfl,h1,nmB,f,rows,bars,rfl,hF,fun lb1 H1 s1 nb eb=>?_⟩
 refine ⟨lb1,bars,rfl,SqL.of eb,by omega,fun sS nS hS=>?_⟩
 have u2:=same_new hS (setO P w sS (fun z=>decide (z ∈ bars)) nS)
 have e2:upd H1 sS (setO P w sS (fun z=>decide (z ∈ bars)) nS) sS = some (setO P w sS (fun z=>decide (z ∈ bars)) nS):=upd_same
 show tSeq _ _ _ _ (upd H1 sS (setO P w sS (fun z=>decide (z ∈ bars)) nS))
 generalize upd H1 sS (setO P w sS (fun z=>decide (z ∈ bars)) nS) = H2 at u2 e2 |-
 refine ⟨(by show 0<=sizeLine; decide),fun l hl=>?_⟩
 have u3:=same_new hl (.lst [])
 have e3:upd H2 l (.lst []) l = some (.lst []):=upd_same
 show tSeq _ _ _ _ (upd H2 l (.lst []))
 generalize upd H2 l (.lst []) = H3 at u3 e3 |-
 have s2:=s1.trans u2
 have s3:=s2.trans u3
 have hlH:H l = none:=s2.free hl
 have nl:∀ {b:Addr} {u:HO},H2 b = some u->b ≠ l:=fun e=>ne_of_none e hl
 have sHl:∀ {H':Hp},(∀ b u,H2 b = some u->H' b = some u)->Same H H':=fun k b u e=>k b u (s2 _ _ e)
 refine ⟨_,rfl,d,o,kvP fp,rfl,s3 _ _ hd,for_items (d:=d) (o:=o) (kvs:=kvP fp) (fun i σ H'=>∃ (us:List Addr) (v5 v6 v7:Option V),σ = [some (.ref f),some (.int (many:Nat)),some (.ref d),some (.ref sS),some (.ref l),v5,v6,v7]/\(∀ b u,H2 b = some u->H' b = some u)/\H' l = some (.lst (us.map V.ref))/\MsAt H' us (unwF rows bars many (fp.take i)))
  ⟨[],_,_,_,rfl,fun _ _ e=>u3 _ _ e,e3,.nil⟩ (fun i σ H' _ ⟨_,_,_,_,_,sH,_⟩=>sH _ _ (s2 _ _ hd)) ?_ ?_⟩
 ·rintro i k v p σ H' hk ⟨us,v5,v6,v7,rfl,sH,hl',hm⟩ hpn
  obtain ⟨z,n,hz,rfl,rfl⟩:∃ (z:Str) (n:Nat),fp[i]? = some (z,n)/\k = .inr z/\v = .int (n:Nat):=by
   unfold kvP at hk
   rw [List.getElem?_map] at hk
   cases e:fp[i]? with
   | none=>rw [e] at hk; cases hk
   | some q=>rw [e] at hk; cases hk; exact ⟨q.1,q.2,rfl,rfl,rfl⟩
  have tk:=unwF_snoc (rows:=rows) (bars:=bars) (many:=many) hz
  dsimp only at tk
  have sp:=same_new hpn (.tup [kV (.inr z),.int (n:Nat)])
  have lu:us.length<=i:=by
   rw [hm.length]
   refine Nat.le_trans (unwF_len _ _ _ _) ?_
   rw [List.length_take]
   omega
  have hi:i < fp.length:=(List.getElem?_eq_some_iff.mp hz).1
  have sH1:∀ b u,H2 b = some u->upd H' p (.tup [kV (.inr z),.int (n:Nat)]) b = some u:=fun b u e=>sp _ _ (sH b u e)
  have hl1:=sp _ _ hl'
  have hm1:=hm.same sp
  refine ⟨p,_,rfl,SqT.of upd_same,rfl,_,_,rfl,_,_,rfl,rfl,?_⟩
  generalize upd H' p (.tup [kV (.inr z),.int (n:Nat)]) = H4 at sH1 hl1 hm1 |-
  have s4:=sHl sH1
  refine ⟨_,rfl,f,dx,fs,rfl,s4 _ _ h1,nmN,_,rfl,f,z,rows,bars,rfl,hF.same s4,?_⟩
  refine ⟨_,rfl,_,rfl,sS,_,_,z,rfl,rfl,sH1 _ _ e2,_,rfl,?_⟩
  by_cases hz1:z ∈ bars
  ·refine dT hz1 ?_
   rw [show unwW rows bars many z = some "barred" from if_pos hz1] at tk
   refine ⟨_,rfl,.inl ⟨rfl,_,SqL.of hl1⟩,_,rfl,(by show 2<=sizeLine; decide),fun t ht=>?_⟩
   have s6:=same_new ht (.tup [.str "barred",.int (n:Nat)])
   have hl6:=s6 _ _ hl1
   have hu2:MA1 (upd H4 t (.tup [.str "barred",.int (n:Nat)])) t ("barred",n):=by
    show upd H4 t _ t = _
    rw [upd_same]
   refine ⟨l,_,.ref t,rfl,rfl,hl6,small1000 (by rw [List.length_map]; omega),?_⟩
   refine ⟨us ++ [t],_,_,_,rfl,fun b u e=>?_,by rw [upd_same,List.map_append]; rfl,?_⟩
   ·rw [upd_ne (nl e)]
    exact s6 _ _ (sH1 b u e)
   ·rw [tk]
    exact ((hm1.same s6).snoc hu2).upd hl6
  ·refine dF hz1 ?_
   have e0:unwW rows bars many z = (match unwW.lastD' z rows with | none=>if (firstK 4 0 rows).isSome = true then none else some "strange" | some l=>if l < plN rows/\l < many then some "again" else none):=if_neg hz1
   cases ev:valV (doorsF 0 [] rows) (.inr z) with
   | none=>
    have e1:unwW.lastD' z rows = none:=by unfold unwW.lastD'; rw [ev]
    rw [e1] at e0
    refine ⟨_,rfl,_,rfl,?_⟩
    refine dT rfl ?_
    refine ⟨_,rfl,f,dx,fs,rfl,s4 _ _ h1,nmG,f,rows,bars,rfl,hF.same s4,_,rfl,?_⟩
    cases eg:firstK 4 0 rows with
    | none=>
     have e2':unwW rows bars many z = some "strange":=by rw [e0,eg]; rfl
     refine dT rfl ?_
     rw [show unwW rows bars many z = some "strange" from e2'] at tk
     refine ⟨_,rfl,.inl ⟨rfl,_,SqL.of hl1⟩,_,rfl,(by show 2<=sizeLine; decide),fun t ht=>?_⟩
     have s6:=same_new ht (.tup [.str "strange",.int (n:Nat)])
     have hl6:=s6 _ _ hl1
     have hu2:MA1 (upd H4 t (.tup [.str "strange",.int (n:Nat)])) t ("strange",n):=by
      show upd H4 t _ t = _
      rw [upd_same]
     refine ⟨l,_,.ref t,rfl,rfl,hl6,small1000 (by rw [List.length_map]; omega),?_⟩
     refine ⟨us ++ [t],_,_,_,rfl,fun b u e=>?_,by rw [upd_same,List.map_append]; rfl,?_⟩
     ·rw [upd_ne (nl e)]
      exact s6 _ _ (sH1 b u e)
     ·rw [tk]
      exact ((hm1.same s6).snoc hu2).upd hl6
    | some j=>
     have e2':unwW rows bars many z = none:=by rw [e0,eg]; rfl
     refine dF (by intro z; cases z) ?_
     rw [show unwW rows bars many z = none from e2',List.append_nil] at tk
     exact ⟨us,_,_,_,rfl,sH1,hl1,by rw [tk]; exact hm1⟩
   | some v=>
    obtain ⟨j,rfl⟩:=dv_val rows 0 [] (.inr z) v (fun k v e=>by cases e) ev
    have e1:unwW.lastD' z rows = some j:=by unfold unwW.lastD'; rw [ev]; rfl
    rw [e1] at e0
    refine ⟨_,rfl,_,rfl,?_⟩
    refine dF (by intro z; cases z) ?_
    refine ⟨_,rfl,_,rfl,f,dx,fs,rfl,s4 _ _ h1,nmP,f,rows,bars,rfl,hF.same s4,_,_,rfl,rfl,_,rfl,?_⟩
    by_cases hj1:j < plN rows
    ·refine iteB (decide_eq_true (by show (j:Int) < (plN rows:Int); omega)) ?_
     refine ⟨_,rfl,_,rfl,_,_,rfl,rfl,_,rfl,?_⟩
     by_cases hj2:j < many
     ·have e2':unwW rows bars many z = some "again":=by rw [e0]; exact if_pos ⟨hj1,hj2⟩
      refine iteB (decide_eq_true (by show (j:Int) < (many:Int); omega)) ?_
      rw [show unwW rows bars many z = some "again" from e2'] at tk
      refine ⟨_,rfl,.inl ⟨rfl,_,SqL.of hl1⟩,_,rfl,(by show 2<=sizeLine; decide),fun t ht=>?_⟩
      have s6:=same_new ht (.tup [.str "again",.int (n:Nat)])
      have hl6:=s6 _ _ hl1
      have hu2:MA1 (upd H4 t (.tup [.str "again",.int (n:Nat)])) t ("again",n):=by
       show upd H4 t _ t = _
       rw [upd_same]
      refine ⟨l,_,.ref t,rfl,rfl,hl6,small1000 (by rw [List.length_map]; omega),?_⟩
      refine ⟨us ++ [t],_,_,_,rfl,fun b u e=>?_,by rw [upd_same,List.map_append]; rfl,?_⟩
      ·rw [upd_ne (nl e)]
       exact s6 _ _ (sH1 b u e)
      ·rw [tk]
       exact ((hm1.same s6).snoc hu2).upd hl6
     ·have e2':unwW rows bars many z = none:=by rw [e0]; exact if_neg fun h=>hj2 h.2
      refine iteC (decide_eq_false (by show ¬ (j:Int) < (many:Int); omega)) ?_
      rw [show unwW rows bars many z = none from e2',List.append_nil] at tk
      exact ⟨us,_,_,_,rfl,sH1,hl1,by rw [tk]; exact hm1⟩
    ·have e2':unwW rows bars many z = none:=by rw [e0]; exact if_neg fun h=>hj1 h.1
     refine iteC (decide_eq_false (by show ¬ (j:Int) < (plN rows:Int); omega)) ?_
     refine iteF ?_
     rw [show unwW rows bars many z = none from e2',List.append_nil] at tk
     exact ⟨us,_,_,_,rfl,sH1,hl1,by rw [tk]; exact hm1⟩
 ·rintro σ H' ⟨us,v5,v6,v7,rfl,sH,hl',hm⟩
  have lk:(kvP fp).length = fp.length:=by unfold kvP; rw [List.length_map]
  rw [lk,List.take_length] at hm
  exact ⟨_,rfl,q l H' (sHl sH) ⟨us,hlH,hl',hm⟩⟩
end
structure FormOk (c:C5) (CF:Addr) (H:Hp) (f:Addr) (rows:List Rw) (bars:List Str):Prop where
 at_:FormAt c CF H f rows bars
 lr:rows.length<=500
 lb:bars.length<=500
 ok:∀ r ∈ rows,r.ok
theorem FormOk.same {c:C5} {CF:Addr} {H H':Hp} {f:Addr} {rows:List Rw} {bars:List Str} (h:FormOk c CF H f rows bars) (s:Same H H'):FormOk c CF H' f rows bars:=⟨h.at_.same s,h.lr,h.lb,h.ok⟩
section
variable {P:Program} {w:World} {K:PySem.W.Frag} {mg:Str->Option Value} {base:Heap} {f CF:Addr} {fd:FuncData} {c:C5} {m:MA}
end
end K32
namespace L2
open PySem PySem.Spec PyProof.Rows
section
variable {X:Cx}
end
theorem Vals.of_at {ts:List Int}:∀ {us:List Value},us.length = ts.length->(∀ (i:Nat) (v:Value),us[i]? = some v->∃ t,v = Value.int (ts.getD i 0) t)->Vals (ts.map V.int) us:=by
 induction ts with
 | nil=>
  intro us hl _
  have:us = []:=List.length_eq_zero_iff.mp hl
  subst this
  exact .nil
 | cons t ts ih=>
  intro us hl h
  cases us with
  | nil=>cases hl
  | cons u us=>
   obtain ⟨k,e⟩:=h 0 u rfl
   exact .cons ⟨k,e⟩ (ih (by simpa using hl) fun i v e=>h (i + 1) v e)
section
variable {X:Cx}
end
end L2
namespace L2
open PySem PySem.W PySem.Builtin PySem.Builtin.ObjectAttr PySem.Spec PyProof.Rows
section
variable {prog:Program} {w:World} {A:Around} {E:Value->Shared->Prop} {s:Shared} {K:PySem.W.Frag} {C f:Addr} {us:List Value}
end
section
variable {prog:Program} {w:World} {A:Around} {E:Value->Shared->Prop} {s:Shared} {K:PySem.W.Frag} {C x:Addr} {us:List Value}
end
end L2
namespace L2
open PySem PySem.W PySem.Builtin PySem.Builtin.ObjectAttr PySem.Builtin.Getset_descriptor PySem.Spec PyProof.Rows
section
variable {prog:Program} {w:World} {A:Around} {E:Value->Shared->Prop} {s:Shared} {K:PySem.W.Frag} {C D x dx:Addr} {us:List Value}
end
end L2
namespace L2
open PySem PySem.Spec PyProof.Rows
section
variable {X:Cx} {pins:List (Addr × Obj)} {σ : St} {H:Hp} {s:Shared} {x C t:Addr} {f:Str} {y:V} {u:Value} {A:Around} {E:Value->Shared->Prop}
end
section
variable {X:Cx} {o e value:Expr} {f:Str} {pos pos' tpos:Pos} {ta tv:TE}
end
section
variable {X:Cx} {CX:CXT} {k:Nat} {f C:Addr} {fd:FuncData} {ps:List Str} {sp:Sp} {E:XK} {x:Str} {p pos:Pos} {e:Expr} {es:List Expr} {t:TA}
end
section
variable {X:Cx} {pins:List (Addr × Obj)} {σ : St} {H:Hp} {s:Shared} {ea C t:Addr} {od:Option Addr} {M:Model} {E:Value->Shared->Prop}
end
section
variable {X:Cx} {E:XK} {pos:Pos} {e:Expr} {te:TE}
end
section
variable {P:Program} {w:World} {K:PySem.W.Frag} {mg:Str->Option Value} {base:Heap} {N:List Str} {qual:Str} {scope:Scope} {f:Addr} {cd:Value} {A:Around} {outer:List Env} {s:Shared} {H:Hp} {E E':XK}
end
section
variable {X:Cx} {x:Str} {C:Addr} {B Bn newId nid initId inN:String} {bm bmN:List Value} {np pos:Pos} {e:Expr} {es:List Expr} {t:TA}
end
section
variable {X:Cx} {pins:List (Addr × Obj)} {σ : St} {H:Hp} {s:Shared} {M:Model} {A:Around} {E:Value->Shared->Prop} {i:Nat} {n:Str} {pos:Pos}
end
section
variable {X:Cx} {pins:List (Addr × Obj)} {σ : St} {H:Hp} {s:Shared} {ea:Addr}
variable {st b₀:Stmt} {suite:List Stmt} {c n:Str} {np hpos pos:Pos} {C:Addr} {i:Nat} {tb:XK->TS} {ts:TS} {ok:Value->Prop}
end
section
variable {X:Cx} {pins:List (Addr × Obj)} {σ : St} {e:Expr} {es:List Expr} {t:TA} {E:XK} {x:Str} {p pos:Pos} {k:Nat} {f C:Addr} {fd:FuncData} {ps:List Str} {sp:Sp} {dvs:List V} {ds:List Value}
end
section
variable {M:Model} {A:Around} {E:Value->Shared->Prop} {s:Shared} {base:Heap} {env:Env} {outer:List Env} {L e C t:Addr} {od:Option Addr} {tb0 head:Value} {hn:Bool} {Q:Unit->Shared->Prop}
end
section
variable {X:Cx} {pins:List (Addr × Obj)} {σ : St} {H H':Hp} {s s':Shared} {ea C t:Addr} {od:Option Addr} {M:Model} {E:Value->Shared->Prop}
end
section
variable {X:Cx} {pins:List (Addr × Obj)} {σ : St} {H H':Hp} {s s':Shared} {ea C t:Addr} {od:Option Addr} {M:Model} {A:Around} {E:Value->Shared->Prop} {h5:Heap}
end
section
variable {X:Cx} {E:XK} {pos:Pos} {e:Expr} {te:TE}
end
section
variable {P:Program} {w:World} {K:PySem.W.Frag} {mg:Str->Option Value} {base:Heap} {N:List Str} {qual:Str} {scope:Scope} {f:Addr} {cd:Value} {A:Around} {outer:List Env} {s:Shared} {H:Hp} {E E':XK}
end
section
variable {X:Cx} {k:Nat} {f:Addr} {fd:FuncData} {ps:List Str} {sp:Sp} {E:XK} {x:Str} {p pos:Pos} {e:Expr} {es:List Expr} {t:TA}
end
section
variable {X:Cx} {hs:List ExceptHandler} {th:HK} {c n:Str} {C':Addr} {i:Nat} {ts:TS} {b₀:Stmt} {suite:List Stmt} {np hpos:Pos}
end
section
variable {X:Cx} {st:Stmt} {h₀:ExceptHandler} {hs:List ExceptHandler} {pos:Pos} {tb:XK->TS} {th:HK}
end
section
variable {X:Cx} {pins:List (Addr × Obj)} {σ : St} {e:Expr} {es:List Expr} {te:TE} {t:TA} {E:XK} {x m:Str} {p pos apos:Pos} {k:Nat} {f C:Addr} {fd:FuncData} {ps:List Str} {sp:Sp} {dvs:List V} {ds:List Value}
end
section
variable {X:Cx} {pins:List (Addr × Obj)} {σ : St} {H:Hp} {s:Shared} {x C t:Addr} {f:Str} {A:Around} {E:Value->Shared->Prop}
end
section
variable {X:Cx} {e:Expr} {f:Str} {pos:Pos} {ta:TE}
end
end L2
namespace L2
open PySem PySem.Spec PyProof.Rows PySem.Builtin
section
variable {prog:Program} {w:World} {A:Around} {E:Value->Shared->Prop} {s:Shared} {it ea C t:Addr} {od:Option Addr} {tb:Value} {x left step:Int} {Q:Option Value->Shared->Prop}
end
end L2
namespace L2
open PySem PySem.Spec PyProof.Rows
structure TurnH (ea:Addr) (P:Program) (w:World) (K:PySem.W.Frag) (tg:Expr) (J:It) (fp:List Addr) (it:Addr) (tn:Nat->Heap->Prop):Prop where
 mem:it ∈ fp
 obj:∀ i h,tn i h->∀ b ∈ fp,∃ o,h.get? b = some o/\∀ v,o.data ≠ .cell v
 keep:∀ i h h',tn i h->(∀ b ∈ fp,∀ o,h.get? b = some o->h'.get? b = some o)->tn i h'
 item:∀ (X:Cx),X.prog = P->X.w = w->X.K = K->X.A.handled = some (.ref ea)->∀ (i:Nat) (pins:List (Addr × Obj)) (s:Shared) (σ : St) (H:Hp) (E:Value->Shared->Prop),Inv X pins σ H s->(∀ b ∈ fp,FpOk X pins H b)->tn i s.heap->J.go i H->
  wpAny (model P w) X.A (pyNext (.ref it)) (fun r s1=>∃ u,r = some u/\
   wpAny (model P w) X.A (letOwnedTupleGo tg (.ref it) u) (fun _ s2=>∃ x H',Inv X pins σ H' s2/\RelV x u/\J.yld i H x H'/\tn (i + 1) s2.heap/\∀ b ∈ fp,H' b = none) E s1) E s
 done:∀ (X:Cx),X.prog = P->X.w = w->X.K = K->X.A.handled = some (.ref ea)->∀ (i:Nat) (pins:List (Addr × Obj)) (s:Shared) (σ : St) (H:Hp) (E:Value->Shared->Prop),Inv X pins σ H s->(∀ b ∈ fp,FpOk X pins H b)->tn i s.heap->J.stop i H->
  wpAny (model P w) X.A (pyNext (.ref it)) (fun r s1=>r = none/\Inv X pins σ H s1) E s
 self:∀ (A:Around) (i:Nat) (s:Shared) (Q:Value->Shared->Prop) (E:Value->Shared->Prop),tn i s.heap->Q (.ref it) s->wpAny (model P w) A (pyIter (.ref it)) Q E s
def PIEH (X:Cx) (ea:Addr) (pins:List (Addr × Obj)) (σ : St) (tg:Expr) (R:It->Hp->Prop) (itv:Value) (s2:Shared):Prop:=
 ∃ (it:Addr) (fp:List Addr) (tn:Nat->Heap->Prop) (J:It) (H':Hp),itv = .ref it/\Inv X pins σ H' s2/\TurnH ea X.prog X.w X.K tg J fp it tn/\tn 0 s2.heap/\(∀ b ∈ fp,FpOk X pins H' b)/\R J H'
section
variable {X:Cx} {tg:Expr}
end
section
variable {X:Cx} {pins:List (Addr × Obj)} {σ : St} {s:Shared} {sc:Scope} {fr Nc:List Str} {caps:List (Option Nat)} {elt tg iter:Expr} {ifs:List Expr} {g:TG} {tt:TT} {te:TE} {ow:List Nat} {pos pos2:Pos} {E:Value->Shared->Prop}
end
section
variable {X:Cx} {hs:List ExceptHandler} {th:HK} {c n:Str} {C':Addr} {i:Nat} {ts:TS} {b₀:Stmt} {suite:List Stmt} {np hpos:Pos}
end
section
variable {X:Cx}
end
end L2
namespace L2
open PySem PySem.Spec PyProof.Rows PySem.Builtin
section
variable {prog:Program} {w:World} {A:Around} {E:Value->Shared->Prop} {s:Shared} {it l ea C t:Addr} {od:Option Addr} {tb:Value} {i:Nat} {items:Array Value} {Q:Option Value->Shared->Prop}
end
section
variable {X:Cx} {tg:Expr}
end
section
variable {X:Cx} {sc:Scope} {elt tg iter:Expr} {ifs:List Expr} {g:TG} {tt:TT} {te:TE} {ow:List Nat} {pos:Pos}
end
def intsFrom (a n:Nat):List Int:=(List.range n).map fun (i:Nat)=>((a + i:Nat):Int)
section
variable {X:Cx}
theorem call_rng2:CallR X (.type "range") (fun xs H Q=>∃ a b:Nat,xs = [.int (a:Nat),.int (b:Nat)]/\∀ p,H p = none->Q (.ref p) (upd H p (.rng (a:Nat) (b:Nat)))):=by
 intro pins s σ H xs us Q I r h
 obtain ⟨a,b,rfl,q⟩:=h
 obtain ⟨u,v,rfl,ru,rv⟩:=vals2 r
 obtain ⟨t,rfl⟩:=ru
 obtain ⟨t',rfl⟩:=rv
 refine call_range_2 ?_
 refine ⟨.ref s.heap.objs.size,_,I.laid (o:=.rng (a:Nat) (b:Nat)) (fun b u e=>Heap.get?_push_of_some _ e) (Nat.le_refl _) ?_,rfl,q _ (I.hok.fresh (Nat.le_refl _))⟩
 exact ⟨_,_,_,Heap.get?_push_size _ rfl⟩
theorem call_listR2 (hc:X.calm = true):CallR X (.type "list") (fun xs H Q=>∃ (p:Addr) (a b:Nat),xs = [.ref p]/\H p = some (.rng (a:Nat) (b:Nat))/\a<=900/\b<=900/\∀ l,H l = none->Q (.ref l) (upd H l (.lst ((intsFrom a (b - a)).map V.int)))):=by
 intro pins s σ H xs us Q I r h
 obtain ⟨p,a,b,rfl,hp,ha,hb,q⟩:=h
 obtain ⟨u,rfl,ru⟩:=vals1 r
 cases ru
 obtain ⟨t,u',v',e⟩:=I.hok p _ hp
 refine call_list_range (n:=b - a) (I.ok.hd hc) e ?_ ?_ (by omega) fun h' tk acc c' hk he hacc=>?_
 ·exact small_one (by omega) (by omega) (by omega) (by omega)
 ·rw [rangeSize_one]
  split <;> omega
 ·have hl:acc.toList.length = (intsFrom a (b - a)).length:=by
   unfold intsFrom
   rw [List.length_map,List.length_range]
   simpa using hacc.1
  have hv:Vals ((intsFrom a (b - a)).map V.int) acc.toList:=Vals.of_at hl fun i v e=>by
   obtain ⟨t,rfl⟩:=hacc.2 i v (by simpa using e)
   refine ⟨t,?_⟩
   have hi:i < b - a:=by
    have:=(List.getElem?_eq_some_iff.mp e).1
    rw [hl] at this
    unfold intsFrom at this
    simpa using this
   have eg:(intsFrom a (b - a)).getD i 0 = ((a + i:Nat):Int):=by
    unfold intsFrom
    rw [List.getD_eq_getElem?_getD,List.getElem?_map,List.getElem?_range hi]
    rfl
   rw [eg]
   congr 1
   omega
  refine ⟨.ref s.heap.objs.size,_,I.laid (t':=tk) (o:=.lst ((intsFrom a (b - a)).map V.int)) hk (Nat.le_refl _) ⟨?_,acc.toList,c',hv,by simpa using he⟩,rfl,q _ (I.hok.fresh (Nat.le_refl _))⟩
  unfold intsFrom
  rw [List.length_map,List.length_map,List.length_range]
  have : 1000<=sizeLine:=by decide
  omega
end
end L2
namespace L2
open PySem PySem.Spec PyProof.Rows
section
variable {X:Cx}
end
section
variable {X:Cx} {hs:List ExceptHandler} {th:HK} {c n:Str} {C':Addr} {i:Nat} {ts:TS} {b₀:Stmt} {suite:List Stmt} {np hpos:Pos}
end
section
variable {P:Program} {w:World} {K:PySem.W.Frag} {mg:Str->Option Value} {base:Heap}
end
section
variable {X:Cx} {k:Nat} {f ea:Addr} {fd:FuncData} {ps:List Str} {sp:Addr->Sp} {x:Str} {p pos:Pos} {e:Expr} {es:List Expr} {t:TA}
end
end L2
namespace K32
open PySem L2 PyProof.Rows
section
variable {P:Program} {w:World} {K:PySem.W.Frag} {mg:Str->Option Value} {base:Heap} {f CF:Addr} {fd:FuncData} {c:C5} {m:MA}
end
section
variable {P:Program} {w:World} {K:PySem.W.Frag} {mg:Str->Option Value} {base:Heap} {f:Addr} {fd:FuncData}
end
theorem nms_app (a b:List Rw):nms (a ++ b) = nms a ++ nms b:=by unfold nms; rw [List.filter_append,List.map_append]
theorem nms_one (r:Rw):nms [r] = if byNm r.k = true then [r.z] else []:=by
 unfold nms
 cases h:byNm r.k <;> simp [h]
section
variable {H H' H'':Hp} {lp lt ll de u:Addr} {S:FS} {r:Rw} {z:Str} {b:Bool}
end
end K32
namespace L2
open PySem PySem.Spec PyProof.Rows
theorem le1000' {n:Nat} (h:n<=1000):n<=sizeLine:=Nat.le_of_lt (small1000 h)
theorem filt_snoc {α : Type} {ys:List α} {i:Nat} {y : α} (keep : α->Bool) (hy:ys[i]? = some y):(ys.take (i + 1)).filter keep = (ys.take i).filter keep ++ (if keep y = true then [y] else []):=by
 have hi:i < ys.length:=(List.getElem?_eq_some_iff.mp hy).1
 have e:ys[i] = y:=(List.getElem?_eq_some_iff.mp hy).2
 rw [List.take_succ_eq_append_getElem hi,List.filter_append,e,List.filter_cons]
 rfl
theorem filt_le {α : Type} {ys:List α} {i:Nat} (keep : α->Bool):((ys.take i).filter keep).length<=i:=by
 have:=List.length_filter_le keep (ys.take i)
 rw [List.length_take] at this
 omega
theorem lc_sel {α : Type} {K:PySem.W.Frag} {a:Addr} {xs:List V} {caps:List (Option Nat)} {g:TG} {tt:TT} {te:TE} {σ : L2.St} {H1:Hp} {Q:VK} {D:Addr} (ys:List α) (keep : α->Bool) (out : α->V) (hD:H1 D = none) (ha:SqL K H1 a xs) (hl:xs.length = ys.length) (hn:xs.length<=1000)
  (hs:∀ (i:Nat) (x:V) (y : α) (H:Hp) (N:VK) (S:Hp->Prop),xs[i]? = some x->ys[i]? = some y->Same H1 H->(∀ H',Same H H'->keep y = true->N (out y) H')->(∀ H',Same H H'->keep y = false->S H')->g x (capS caps σ) H fun σ2 H2=>tt σ2 H2 fun ok H3=>(ok = true->te σ2 H3 N)/\(ok = false->S H3))
  (hd:∀ H,Same H1 H->H D = some (.lst ((ys.filter keep).map out))->Q (.ref D) H):LCr (Itl K a) caps g tt te σ H1 Q D:=by
 refine lc_list (K:=K) (xs:=xs) (fun i zs H'=>Same H1 H'/\H' D = some (.lst zs)/\zs = ((ys.take i).filter keep).map out) ⟨same_new hD _,upd_same,rfl⟩ (fun i zs H' h=>h.1.seq ha) ?_ ?_
 ·rintro i x zs H' hlt hx ⟨sH,hDy,ez⟩
  obtain ⟨y,hy⟩:∃ y,ys[i]? = some y:=⟨_,List.getElem?_eq_getElem (by omega)⟩
  refine hs i x y H' _ _ hx hy sH (fun H2 s2 hk=>?_) (fun H2 s2 hk=>?_)
  ·refine lcN.mk hlt (le1000' hn) (s2 _ _ hDy) (by rw [ez,List.length_map]; exact filt_le _) ⟨fun b' u e=>?_,upd_same,?_⟩
   ·rw [upd_ne (ne_of_none e hD)]
    exact s2 _ _ (sH b' u e)
   ·rw [ez,filt_snoc keep hy,if_pos hk,List.map_append]
    rfl
  ·refine lcS.mk hlt ⟨sH.trans s2,s2 _ _ hDy,?_⟩
   rw [ez,filt_snoc keep hy,if_neg (by rw [hk]; exact Bool.false_ne_true),List.append_nil]
 ·rintro zs H2 ⟨s2,hDy,ez⟩
  rw [List.take_of_length_le (by omega)] at ez
  rw [ez] at hDy
  exact hd H2 s2 hDy
theorem lc_selr {n:Nat} {caps:List (Option Nat)} {g:TG} {tt:TT} {te:TE} {σ : L2.St} {H1:Hp} {Q:VK} {D:Addr} (keep:Nat->Bool) (out:Nat->V) (hD:H1 D = none) (hn:n<=1000)
  (hs:∀ (i:Nat) (H:Hp) (N:VK) (S:Hp->Prop),i < n->Same H1 H->(∀ H',Same H H'->keep i = true->N (out i) H')->(∀ H',Same H H'->keep i = false->S H')->g (.int ((0:Int) + (i:Int))) (capS caps σ) H fun σ2 H2=>tt σ2 H2 fun ok H3=>(ok = true->te σ2 H3 N)/\(ok = false->S H3))
  (hd:∀ H,Same H1 H->H D = some (.lst (((List.range n).filter keep).map out))->Q (.ref D) H):LCr (Itr 0 n) caps g tt te σ H1 Q D:=by
 refine lc_range (n:=n) (fun i zs H'=>Same H1 H'/\H' D = some (.lst zs)/\zs = ((List.range i).filter keep).map out) ⟨same_new hD _,upd_same,rfl⟩ ?_ ?_
 ·rintro i zs H' hlt ⟨sH,hDy,ez⟩
  refine hs i H' _ _ hlt sH (fun H2 s2 hk=>?_) (fun H2 s2 hk=>?_)
  ·refine lcN.mk hlt (le1000' hn) (s2 _ _ hDy) (by rw [ez,List.length_map]; have:=List.length_filter_le keep (List.range i); rw [List.length_range] at this; exact this) ⟨fun b' u e=>?_,upd_same,?_⟩
   ·rw [upd_ne (ne_of_none e hD)]
    exact s2 _ _ (sH b' u e)
   ·rw [ez,List.range_succ,List.filter_append,List.map_append,List.filter_cons,if_pos hk]
    rfl
  ·refine lcS.mk hlt ⟨sH.trans s2,s2 _ _ hDy,?_⟩
   rw [ez,List.range_succ,List.filter_append,List.map_append,List.filter_cons,if_neg (by rw [hk]; exact Bool.false_ne_true)]
   simp
 ·rintro zs H2 ⟨s2,hDy,ez⟩
  rw [ez] at hDy
  exact hd H2 s2 hDy
end L2
namespace K32
open PySem L2 PyProof.Rows
section
variable {P:Program} {w:World} {K:PySem.W.Frag} {mg:Str->Option Value} {base:Heap} {f:Addr} {fd:FuncData}
end
section
variable {K:PySem.W.Frag} {c:C5}
end
section
variable {K:PySem.W.Frag} {ok:Addr->Prop} {H:Hp} {n:Nat}
end
end K32
namespace L2
open PySem PySem.Spec PyProof.Rows
end L2
namespace K32
open PySem L2 PyProof.Rows
section
variable {K:PySem.W.Frag} {H0 H' H'':Hp} {l a b:Addr} {vs ys:List V} {ct:List Item} {ts:List Int} {ps:List (Str × Int)}
end
section
variable {P:Program} {w:World} {K:PySem.W.Frag} {mg:Str->Option Value} {base:Heap} {f:Addr} {fd:FuncData}
end
end K32
namespace L2
open PySem PySem.Spec PyProof.Rows PySem.Builtin
section
variable {prog:Program} {w:World} {A:Around} {E:Value->Shared->Prop} {s:Shared} {it l ea C t:Addr} {od:Option Addr} {tb:Value} {i:Nat} {items:Array Value} {Q:Option Value->Shared->Prop}
end
section
variable {prog:Program} {w:World} {A:Around} {E:Value->Shared->Prop} {s:Shared} {ea C tt:Addr} {od:Option Addr} {tb:Value}
end
end L2
namespace L2
open PySem PySem.Spec PyProof.Rows
section
variable {X:Cx} {tg:Expr}
end
theorem zip_out {α : Type} {R:Addr->α->Prop} {us:List Addr} {rows:List α} (h:Paired R us rows) (keep : α->Bool) (out : α->V):((us.zip rows).filter fun p=>keep p.2).map (fun p=>out p.2) = (rows.filter keep).map out:=by
 induction h with
 | nil=>rfl
 | cons r t ih=>
  rename_i u y us ys
  rw [List.zip_cons_cons,List.filter_cons,List.filter_cons]
  cases hk:keep y with
  | true=>rw [if_pos rfl,if_pos rfl,List.map_cons,List.map_cons,ih]
  | false=>rw [if_neg Bool.false_ne_true,if_neg Bool.false_ne_true,ih]
theorem lc_zip {α : Type} {K:PySem.W.Frag} {a:Addr} {us:List Addr} {rows:List α} {caps:List (Option Nat)} {g:TG} {tt:TT} {te:TE} {σ : L2.St} {H1:Hp} {Q:VK} {D:Addr} (R:Hp->Addr->α->Prop) (keep : α->Bool) (out:Addr->α->V) (hD:H1 D = none) (ha:H1 a = some (.lst (us.map V.ref))) (hu:Paired (R H1) us rows) (hn:rows.length<=1000)
  (hs:∀ (i:Nat) (u:Addr) (y : α) (H:Hp) (N:VK) (S:Hp->Prop),us[i]? = some u->rows[i]? = some y->R H1 u y->Same H1 H->(∀ H',Same H H'->keep y = true->N (out u y) H')->(∀ H',Same H H'->keep y = false->S H')->g (.ref u) (capS caps σ) H fun σ2 H2=>tt σ2 H2 fun ok H3=>(ok = true->te σ2 H3 N)/\(ok = false->S H3))
  (hd:∀ H,Same H1 H->H D = some (.lst (((us.zip rows).filter fun p=>keep p.2).map fun p=>out p.1 p.2))->Q (.ref D) H):LCr (Itl K a) caps g tt te σ H1 Q D:=by
 have hl:us.length = rows.length:=hu.length
 have lz:(us.zip rows).length = rows.length:=by rw [List.length_zip,hl,Nat.min_self]
 refine lc_sel (K:=K) (xs:=us.map V.ref) (us.zip rows) (fun p=>keep p.2) (fun p=>out p.1 p.2) hD (SqL.of ha) (by rw [List.length_map,lz,hl]) (by rw [List.length_map,hl]; exact hn) (fun i x y H N S hx hy sH n1 s1=>?_) hd
 have hi:i < rows.length:=by rw [<- lz]; exact (List.getElem?_eq_some_iff.mp hy).1
 have e1:(us.zip rows)[i]? = some (us[i],rows[i]):=by
  rw [List.getElem?_eq_getElem (by omega),List.getElem_zip]
 rw [e1] at hy
 cases hy
 have hu1:us[i]? = some us[i]:=List.getElem?_eq_getElem (by omega)
 rw [List.getElem?_map,hu1] at hx
 cases hx
 obtain ⟨d,hd',hr⟩:=Paired.get hu hu1
 have e2:rows[i]? = some rows[i]:=List.getElem?_eq_getElem hi
 rw [e2] at hd'
 cases hd'
 exact hs i us[i] rows[i] H N S hu1 e2 hr sH n1 s1
theorem lc_tupl {K:PySem.W.Frag} {a:Addr} {xs:List V} {caps:List (Option Nat)} {g:TG} {tt:TT} {te:TE} {σ : St} {H1:Hp} {Q:VK} {D:Addr} (Pv:Nat->List V->Hp->Prop) (h0:Pv 0 [] (upd H1 D (.lst [])))
  (hl:∀ i ys H,Pv i ys H->SqT K H a xs)
  (hs:∀ i x ys H,i < xs.length->xs[i]? = some x->Pv i ys H->g x (capS caps σ) H fun σ2 H2=>tt σ2 H2 fun ok H3=>(ok = true->te σ2 H3 (lcN xs.length i D Pv ys))/\(ok = false->lcS xs.length i Pv ys H3))
  (hd:∀ ys H,Pv xs.length ys H->Q (.ref D) H):LCr (Itt K a) caps g tt te σ H1 Q D:=by
 refine ⟨fun i m ys H=>m = xs.length - i/\i<=xs.length/\Pv i ys H,⟨xs.length,by simp,Nat.zero_le _,h0⟩,?_⟩
 rintro i m ys H ⟨rfl,hi,p⟩
 have q:=hl i ys H p
 by_cases hlt:i < xs.length
 ·refine .inr ⟨⟨xs,xs[i],q,by simp [hlt]⟩,fun x H' y=>?_⟩
  obtain ⟨e,y⟩:=y
  subst e
  exact hs i x ys _ hlt (y xs q) p
 ·have e:i = xs.length:=by omega
  subst e
  exact .inl ⟨⟨xs,q,Nat.le_refl _⟩,hd ys H p⟩
section
variable {X:Cx} {pins:List (Addr × Obj)} {σ : St} {e o:Expr} {es:List Expr} {ta:TE} {t:TA} {E:XK} {m:Str} {pos apos:Pos} {k:Nat} {f C:Addr} {fd:FuncData} {ps:List Str} {sp:Sp}
end
theorem count_eqU {x:V}:∀ {xs:List V} {us:List Value},Vals xs us->xs.all flatV = true->us.countP (eqU x) = xs.countP fun y=>eqV y x
 | _,_,.nil,_=>rfl
 | y :: xs,u :: us,.cons r t,f=>by
  rw [List.all_cons,Bool.and_eq_true] at f
  rw [List.countP_cons,List.countP_cons,eqU_of r f.1,count_eqU t f.2]
def rCountF:V->List V->Hp->VK->Prop:=fun x vs H Q=>∃ (l:Addr) (xs:List V) (y:V),x = .ref l/\vs = [y]/\H l = some (.lst xs)/\flatV y = true/\xs.all flatV = true/\Q (.int (xs.countP fun z=>eqV z y:Nat)) H
theorem mt_countF {X:Cx}:MtM X "list.count" rCountF:=by
 intro pins s σ H x vs v us' Q I rx rv h
 obtain ⟨l,xs,y,rfl,rfl,hH,fy,fs,q⟩:=h
 cases rx
 obtain ⟨u,rfl,ru⟩:=rv.one
 obtain ⟨z,its,n,r,hl,e⟩:=I.lstM hH
 refine call_meets F.slot_list_count ⟨_,e,rfl⟩ F.entry_list_count (F.args_list_count_2 _ _) (SeqAt.list_countAt l its.toArray n none #[] u (eqU y)) ⟨e,fun w hw=>mem_eqAt ru fy r fs w (by simpa using hw),?_⟩
 refine ⟨.int _,H,I.kept (t':=s.toks + 1) fun b ob q=>q,⟨_,rfl⟩,?_⟩
 rw [show its.toArray.toList.countP (eqU y) = its.countP (eqU y) by simp,count_eqU r fs]
 exact q
section
variable {X:Cx} {elts:List Expr} {x1:Nat} {tpos:Pos}
end
theorem wpAny_pyHash_bool {prog:Program} {w:World} {A:Around} {E:Value->Shared->Prop} {s:Shared} {b:Bool} {Q:Int->Shared->Prop} (h:Q (hashInt (if b then 1 else 0)) { s with toks:=s.toks + 1 }) :
  wpAny (model prog w) A (pyHash (.bool b)) Q E s:=by
 have hr:=rawHash_range (if b then 1 else 0)
 have hT:s.TypeIs (.bool b) "bool":=rfl
 unfold pyHash
 have hv:[Value.bool b].any Value.onHeap = false:=rfl
 refine wpAny_bind ?_
 rw [cRoomFor,if_neg (by rw [hv]; exact Bool.false_ne_true)]; refine wpAny_pure ?_
 refine wpAny_bind (wpAny_specialOf hT PySem.F.slot_bool_hash.lookup ?_)
 show wpAny _ _ (if (some (Value.builtin "int.__hash__") == some Value.none) = true then _ else _) Q E s
 rw [if_neg (by rw [beq_builtin_none]; exact Bool.false_ne_true)]
 refine wpAny_bind (wpAny_specialOf hT PySem.F.slot_bool_hash.lookup ?_)
 show wpAny _ _ (callSpecialIfBoundUnlessNone? (.bool b) "__hash__" _ >>= _) Q E s
 refine wpAny_bind (wpAny_callSpecialIfBoundUnlessNone?_slot hT PySem.F.slot_bool_hash
  (wpAny_call_entry PySem.F.slot_bool_hash hT entry_int_hash
   (show wpAny _ _ (do ret (<- mkInt (rawHash (if b then 1 else 0)))) _ _ s from wpAny_ret_mkInt ?_) (args_int_hash _)))
 show wpAny _ _ (if (decide (-(2:Int) ^ 63<=rawHash (if b then 1 else 0)) && decide (rawHash (if b then 1 else 0) < 2 ^ 63)) = true then _ else _) Q E _
 rw [if_pos (by rw [decide_eq_true hr.1,decide_eq_true hr.2]; rfl)]
 exact wpAny_pure h
abbrev SB:=Str ⊕ Bool
def sbV:SB->V
 | .inl x=>.str x
 | .inr b=>.bl b
def sbIs:SB->Value->Bool
 | .inl x,.str y _=>y == x
 | .inr b,.bool c=>c == b
 | _,_=>false
theorem sbIs_shape {k:SB} {v:Value} (h:sbIs k v = true):(∃ x t,k = .inl x/\v = .str x t)\/∃ b,k = .inr b/\v = .bool b:=by
 cases k with
 | inl x=>
  cases v with
  | str y t=>
   have h':(y == x) = true:=h
   exact .inl ⟨x,t,rfl,by rw [eq_of_beq h']⟩
  | _=>cases h
 | inr b=>
  cases v with
  | bool c=>
   have h':(c == b) = true:=h
   exact .inr ⟨b,rfl,by rw [eq_of_beq h']⟩
  | _=>cases h
def sbH (w:World):SB->Int
 | .inl x=>hashStr w x
 | .inr b=>hashInt (if b then 1 else 0)
def sbKind (prog:Program) (w:World):PySem.KeyKind prog w SB where
 is:=sbIs
 hash:=sbH w
 inj:=fun v a b ha hb=>by
  rcases sbIs_shape ha with ⟨x,t,rfl,rfl⟩ | ⟨c,rfl,rfl⟩
  ·rcases sbIs_shape hb with ⟨y,u,rfl,e⟩ | ⟨d,rfl,e⟩
   ·injection e with e1 _; rw [e1]
   ·exact nomatch e
  ·rcases sbIs_shape hb with ⟨y,u,rfl,e⟩ | ⟨d,rfl,e⟩
   ·exact nomatch e
   ·injection e with e1; rw [e1]
 byValue:=fun k v h=>by
  rcases sbIs_shape h with ⟨x,t,rfl,rfl⟩ | ⟨b,rfl,rfl⟩ <;> rfl
 pyHash:=fun hv h=>by
  rcases sbIs_shape hv with ⟨x,t,rfl,rfl⟩ | ⟨b,rfl,rfl⟩
  ·exact wpAny_pyHash_str h
  ·exact wpAny_pyHash_bool h
 eqBool:=fun hu hv h=>by
  rcases sbIs_shape hu with ⟨x,t,rfl,rfl⟩ | ⟨b,rfl,rfl⟩
  ·rcases sbIs_shape hv with ⟨y,u,rfl,rfl⟩ | ⟨d,rfl,rfl⟩
   ·refine wpAny_eqBool_str ?_
    have e:decide ((Sum.inl x:SB) = Sum.inl y) = decide (x = y):=by simp
    rwa [e] at h
   ·refine SeqAt.EqAt.str_bool x t d _ _ _ _ ?_
    have e:decide ((Sum.inl x:SB) = Sum.inr d) = false:=decide_eq_false (fun q=>nomatch q)
    rwa [e] at h
  ·rcases sbIs_shape hv with ⟨y,u,rfl,rfl⟩ | ⟨d,rfl,rfl⟩
   ·refine SeqAt.EqAt.bool_str b y u _ _ _ _ ?_
    have e:decide ((Sum.inr b:SB) = Sum.inl y) = false:=decide_eq_false (fun q=>nomatch q)
    rwa [e] at h
   ·refine SeqAt.EqAt.bool_bool b d _ _ _ _ ?_
    have e:decide ((Sum.inr b:SB) = Sum.inr d) = (b == d):=by cases b <;> cases d <;> decide
    rwa [e] at h
 «strs»:=fun k x t v h=>by
  rcases sbIs_shape h with ⟨y,u,rfl,e⟩ | ⟨b,rfl,e⟩
  ·injection e with e1 _
   subst e1
   cases v <;> rfl
  ·exact nomatch e
theorem sbV_is {P:Program} {w:World} {k:SB} {u:Value} (r:RelV (sbV k) u):(sbKind P w).is k u = true:=by
 cases k with
 | inl x=>
  obtain ⟨t,e⟩:=(show ∃ t,u = Value.str x t from r)
  subst e
  show (x == x) = true
  exact beq_self_eq_true x
 | inr b=>
  have e:u = Value.bool b:=r
  subst e
  show (b == b) = true
  exact beq_self_eq_true b
theorem sb_items {P:Program} {w:World}:∀ {ks:List SB} {us:List Value},Vals (ks.map sbV) us->ItemsAre (sbKind P w) ks us
 | [],_,r=>by rw [List.map_nil] at r; cases r; exact .nil
 | k :: ks,_,r=>by
  rw [List.map_cons] at r
  cases r with
  | cons h t=>exact .cons (sbV_is h) (sb_items t)
theorem sb_key {P:Program} {w:World} {H:Hp} {h:Heap} {a:Addr} {ks:List SB} (ok:HOk P w H h) (e:H a = some (.tup (ks.map sbV))):(tupleKind (sbKind P w)).is h ks a:=by
 obtain ⟨_,its,r,o,h1,h2,n,h3⟩:=(show ObjOk P w H h a (.tup (ks.map sbV)) from ok a _ e)
 exact ⟨o,its.toArray,n,h1,h2,h3,by simpa using sb_items r⟩
def dBφ (P:Program) (w:World) (a:Addr) (xs:List (List SB × Addr × Value)):Heap->Prop:=fun h=>∃ o es ep,h.get? a = some o/\o.ExactDict/\o.data = .dict es ep/\es.toList = xs.map (entryOfKey (tupleKind (sbKind P w)))/\(xs.map (·.1)).Nodup
abbrev KB (H:Hp):List (List SB × V)->List (List SB × Addr × Value)->Prop:=Paired fun p q=>p.1 = q.1/\H q.2.1 = some (.tup (p.1.map sbV))/\RelV p.2 q.2.2
def DB (P:Program) (w:World) (H:Hp) (a:Addr) (kvs:List (List SB × V)):Prop:=∃ xs,H a = some (.ext (dBφ P w a xs))/\KB H kvs xs
theorem DB.same {P:Program} {w:World} {H H':Hp} {a:Addr} {kvs:List (List SB × V)} (h:DB P w H a kvs) (s:Same H H'):DB P w H' a kvs:=by
 obtain ⟨xs,h1,h2⟩:=h
 exact ⟨xs,s _ _ h1,Paired.mapP h2 fun _ _ z=>⟨z.1,s _ _ z.2.1,z.2.2⟩⟩
theorem KB.val {H:Hp} {kvs:List (List SB × V)} {xs:List (List SB × Addr × Value)} (r:KB H kvs xs) (k:List SB):RelO (valV kvs k) ((atKey xs k).map (·.2)):=by
 induction r with
 | nil=>exact True.intro
 | @cons p q ps qs h t ih=>
  obtain ⟨h1,_,h2⟩:=h
  by_cases e:p.1 = k
  ·have e':q.1 = k:=h1.symm.trans e
   have b:atKey (q :: qs) k = some q.2:=by simp [atKey,List.find?_cons,e']
   rw [valV_pos e,b]; exact h2
  ·have e':¬ q.1 = k:=fun z=>e (h1.trans z)
   have b:atKey (q :: qs) k = atKey qs k:=by simp [atKey,List.find?_cons,e']
   rw [valV_neg e,b]; exact ih
theorem KB.repl {H:Hp} {kvs:List (List SB × V)} {xs:List (List SB × Addr × Value)} (r:KB H kvs xs) (k:List SB) {y:V} {u:Value} (ry:RelV y u) :
  KB H (kvs.map fun kv=>if kv.1 = k then (kv.1,y) else kv) (xs.map (putAt k u)):=by
 induction r with
 | nil=>exact .nil
 | @cons p q ps qs h t ih=>
  rw [List.map_cons,List.map_cons]
  refine .cons ?_ ih
  obtain ⟨h1,h2,h3⟩:=h
  unfold putAt
  by_cases e:p.1 = k
  ·rw [if_pos e,if_pos (h1.symm.trans e)]; exact ⟨h1,h2,ry⟩
  ·rw [if_neg e,if_neg (fun z=>e (h1.trans z))]; exact ⟨h1,h2,h3⟩
theorem KB.put {H:Hp} {kvs:List (List SB × V)} {xs:List (List SB × Addr × Value)} (r:KB H kvs xs) (k:List SB) {b:Addr} {y:V} {u:Value} (hb:H b = some (.tup (k.map sbV))) (ry:RelV y u) :
  KB H (putK kvs k y) (storedH xs k b u):=by
 have e:(kvs.any fun kv=>decide (kv.1 = k)) = (atKey xs k).isSome:=by
  rw [valV_any,(r.val k).isSome_eq,Option.isSome_map]
 unfold putK storedH
 rw [e]
 by_cases q:(atKey xs k).isSome = true
 ·rw [if_pos q,if_pos q]; exact r.repl k ry
 ·rw [if_neg q,if_neg q]; exact Paired.snoc r ⟨rfl,hb,ry⟩
theorem KB.keys {P:Program} {w:World} {H:Hp} {h:Heap} (ok:HOk P w H h):∀ {kvs:List (List SB × V)} {xs:List (List SB × Addr × Value)},KB H kvs xs->∀ x ∈ xs,(tupleKind (sbKind P w)).is h x.1 x.2.1:=by
 intro kvs xs r
 induction r with
 | nil=>intro x hx; exact nomatch hx
 | @cons p q ps qs hq t ih=>
  intro x hx
  rcases List.mem_cons.mp hx with e | hx
  ·subst e
   exact sb_key ok (by rw [<- hq.1]; exact hq.2.1)
  ·exact ih x hx
theorem db_of {P:Program} {w:World} {H:Hp} {h:Heap} {a:Addr} {xs:List (List SB × Addr × Value)} {kvs:List (List SB × V)} (ok:HOk P w H h) (e:H a = some (.ext (dBφ P w a xs))) (r:KB H kvs xs):h.DictOfH (tupleKind (sbKind P w)) a xs:=by
 obtain ⟨⟨o,es,ep,h1,h2,h3,h4,h5⟩,_⟩:=(show ObjOk P w H h a (.ext (dBφ P w a xs)) from ok a _ e)
 exact ⟨o,es,ep,h1,h2,h3,h4,r.keys ok,h5⟩
section
variable {P:Program} {w:World} {A:Around} {R:Result->Shared->Prop} {I:Addr} {fp wr:List Addr} {G:Array GenState->Array GenState->Prop} {n:Nat} {Pr:Nat->Value->Prop} {Sg:Nat->Shared->Prop}
end
end L2
namespace K32
open PySem L2 PyProof.Rows
section
variable {P:Program} {w:World} {K:PySem.W.Frag} {mg:Str->Option Value} {base:Heap} {f CF N:Addr} {fd:FuncData} {c:C5}
end
section
variable {P:Program} {w:World} {K:PySem.W.Frag} {mg:Str->Option Value} {base:Heap} {f CF:Addr} {fd:FuncData} {c:C5}
end
theorem val_put {κ : Type} [DecidableEq κ] {kvs:List (κ × V)} {k k' : κ} {v:V}:valV (putK kvs k v) k' = if k' = k then some v else valV kvs k':=valV_put kvs k k' v
theorem nms_cons (r:Rw) (rs:List Rw):nms (r :: rs) = (if byNm r.k = true then [r.z] else []) ++ nms rs:=by
 have:=nms_app [r] rs
 rw [nms_one] at this
 exact this
theorem doors_no {z:Str}:∀ (rows:List Rw) (i:Nat) (acc:List (Key × V)),z ∉ nms rows->valV (doorsF i acc rows) (.inr z) = valV acc (.inr z)
 | [],_,_,_=>rfl
 | r :: rs,i,acc,h=>by
  rw [nms_cons] at h
  have h2:z ∉ nms rs:=fun e=>h (List.mem_append_right _ e)
  show valV (doorsF (i + 1) _ rs) (.inr z) = _
  rw [doors_no rs (i + 1) _ h2]
  split
  next e=>
   rw [val_put,if_neg]
   intro e2
   rw [if_pos e] at h
   exact h (by rw [Sum.inr.inj e2]; exact List.mem_append_left _ (List.mem_singleton.mpr rfl))
  ·rfl
theorem doors_at {r:Rw} (hb:byNm r.k = true):∀ (rows:List Rw) (i j:Nat) (acc:List (Key × V)),rows[j]? = some r->(nms rows).Nodup->valV (doorsF i acc rows) (.inr r.z) = some (.int ((i + j:Nat):Int))
 | [],_,_,_,h,_=>by simp at h
 | y :: ys,i,0,acc,h,nd=>by
  have e:y = r:=by simpa using h
  subst e
  rw [nms_cons,if_pos hb] at nd
  have hz:y.z ∉ nms ys:=(List.nodup_cons.mp nd).1
  show valV (doorsF (i + 1) (if byNm y.k = true then putK acc (.inr y.z) (.int i) else acc) ys) (.inr y.z) = _
  rw [doors_no ys (i + 1) _ hz,if_pos hb,val_put,if_pos rfl]
  rfl
 | y :: ys,i,j + 1,acc,h,nd=>by
  rw [nms_cons] at nd
  have nd2:=(List.nodup_append.mp nd).2.1
  show valV (doorsF (i + 1) _ ys) (.inr r.z) = _
  rw [doors_at hb ys (i + 1) j _ (by simpa using h) nd2,show i + 1 + j = i + (j + 1) by omega]
theorem val_app {a b:List (Str × Nat)} {z:Str} {v:V} (h:valV (kvP a) (.inr z) = some v):valV (kvP (a ++ b)) (.inr z) = some v:=by
 unfold valV at h |-
 unfold kvP at h |-
 rw [List.map_append,List.find?_append]
 cases e:(a.map fun p=>((Sum.inr p.1:Key),V.int (p.2:Nat))).find? fun kv=>decide (kv.1 = .inr z) with
 | none=>rw [e] at h; cases h
 | some kv=>rw [e] at h; exact h
theorem val_new {a:List (Str × Nat)} {z:Str} {i:Nat} (h:(a.any fun p=>decide (p.1 = z)) = false):valV (kvP (a ++ [(z,i)])) (.inr z) = some (.int (i:Nat)):=by
 have e0:valV (kvP a) (.inr z) = none:=by
  rw [<- kvP_any] at h
  exact Option.not_isSome_iff_eq_none.mp (by rw [h]; exact Bool.false_ne_true)
 unfold valV at e0 |-
 unfold kvP at e0 |-
 rw [List.map_append,List.find?_append]
 cases e:(a.map fun p=>((Sum.inr p.1:Key),V.int (p.2:Nat))).find? fun kv=>decide (kv.1 = .inr z) with
 | none=>
  rw [Option.none_or,List.map_cons,List.find?_cons,decide_eq_true rfl]
  rfl
 | some kv=>rw [e] at e0; cases e0
theorem val_fp {z:Str} {v:V}:∀ (zs:List Str) (i:Nat) (acc:List (Str × Nat)),valV (kvP acc) (.inr z) = some v->valV (kvP (fpF i acc zs)) (.inr z) = some v
 | [],_,_,h=>h
 | y :: ys,i,acc,h=>by
  show valV (kvP (fpF (i + 1) (if (acc.any fun p=>decide (p.1 = y)) = true then acc else acc ++ [(y,i)]) ys)) _ = _
  split
  ·exact val_fp ys (i + 1) acc h
  ·exact val_fp ys (i + 1) _ (val_app h)
theorem any_mem {acc:List (Str × Nat)} {z:Str}:(acc.any fun p=>decide (p.1 = z)) = decide (z ∈ acc.map (·.1)):=by
 rw [Bool.eq_iff_iff,List.any_eq_true,decide_eq_true_eq,List.mem_map]
 exact ⟨fun ⟨p,h1,h2⟩=>⟨p,h1,of_decide_eq_true h2⟩,fun ⟨p,h1,h2⟩=>⟨p,h1,decide_eq_true h2⟩⟩
theorem fp_app:∀ (a b:List Str) (j:Nat) (acc:List (Str × Nat)),fpF j acc (a ++ b) = fpF (j + a.length) (fpF j acc a) b
 | [],_,_,_=>rfl
 | z :: zs,b,j,acc=>by
  show fpF (j + 1) _ (zs ++ b) = fpF (j + (zs.length + 1)) (fpF (j + 1) _ zs) b
  rw [fp_app zs b (j + 1),show j + 1 + zs.length = j + (zs.length + 1) by omega]
theorem fp_lt:∀ (zs:List Str) (j:Nat) (acc:List (Str × Nat)),(∀ p ∈ acc,p.2 < j)->∀ p ∈ fpF j acc zs,p.2 < j + zs.length
 | [],_,_,h,p,hp=>h p hp
 | z :: zs,j,acc,h,p,hp=>by
  have h2:=fp_lt zs (j + 1) _ (fun q hq=>?_) p hp
  ·rw [List.length_cons]; omega
  ·split at hq
   ·have:=h q hq; omega
   ·rcases List.mem_append.mp hq with hq | hq
    ·have:=h q hq; omega
    ·rw [List.mem_singleton.mp hq]; exact Nat.lt_succ_self _
theorem take_snocS {zs:List Str} {i:Nat} {z:Str} (h:zs[i]? = some z):zs.take (i + 1) = zs.take i ++ [z]:=by
 have hi:i < zs.length:=(List.getElem?_eq_some_iff.mp h).1
 have e:zs[i] = z:=(List.getElem?_eq_some_iff.mp h).2
 rw [List.take_succ_eq_append_getElem hi,e]
theorem fp_snoc {zs:List Str} {i:Nat} {z:Str} (h:zs[i]? = some z):fpF 0 [] (zs.take (i + 1)) = if ((fpF 0 [] (zs.take i)).any fun p=>decide (p.1 = z)) = true then fpF 0 [] (zs.take i) else fpF 0 [] (zs.take i) ++ [(z,i)]:=by
 have hi:i < zs.length:=(List.getElem?_eq_some_iff.mp h).1
 rw [take_snocS h,fp_app]
 have el : 0 + (zs.take i).length = i:=by rw [List.length_take]; omega
 rw [el]
 rfl
theorem dbl_is {zs:List Str} {i:Nat} {z:Str} (h:zs[i]? = some z):decide (valV (kvP (fpZ zs)) (.inr z) = some (.int (i:Nat))) = !((fpF 0 [] (zs.take i)).any fun p=>decide (p.1 = z)):=by
 have hi:i < zs.length:=(List.getElem?_eq_some_iff.mp h).1
 have e:fpZ zs = fpF (i + 1) (fpF 0 [] (zs.take (i + 1))) (zs.drop (i + 1)):=by
  unfold fpZ
  conv=>lhs; rw [<- List.take_append_drop (i + 1) zs,fp_app]
  rw [show 0 + (zs.take (i + 1)).length = i + 1 by rw [List.length_take]; omega]
 cases hb:(fpF 0 [] (zs.take i)).any fun p=>decide (p.1 = z) with
 | true=>
  have hs:(valV (kvP (fpF 0 [] (zs.take i))) (.inr z)).isSome = true:=by rw [kvP_any]; exact hb
  obtain ⟨v,hv⟩:=Option.isSome_iff_exists.mp hs
  obtain ⟨z',j,ez,ev,hm⟩:=kvP_val hv
  have hj:=fp_lt (zs.take i) 0 [] (fun p hp=>by cases hp) _ hm
  rw [List.length_take] at hj
  have h2:=fp_snoc h
  rw [hb,if_pos rfl] at h2
  have h3:=val_fp (z:=z) (v:=v) (zs.drop (i + 1)) (i + 1) (fpF 0 [] (zs.take (i + 1))) (by rw [h2]; exact hv)
  rw [e,h3,ev]
  refine decide_eq_false fun e2=>?_
  have:(j:Int) = (i:Int):=V.int.inj (Option.some.inj e2)
  have hj':j < 0 + min i zs.length:=hj
  omega
 | false=>
  have h2:=fp_snoc h
  rw [hb,if_neg (by decide)] at h2
  have h3:=val_fp (z:=z) (v:=.int (i:Nat)) (zs.drop (i + 1)) (i + 1) (fpF 0 [] (zs.take (i + 1))) (by rw [h2]; exact val_new hb)
  rw [e,h3]
  exact decide_eq_true rfl
def wrongW (rows:List Rw) (bars:List Str) (many:Nat) (z:Str):Str:=(unwW rows bars many z).getD ""
theorem wrong_at {rows:List Rw} {bars:List Str} {many:Nat} {z:Str} (nd:(nms rows).Nodup) (h:z ∉ bars) {l:Nat} {r:Rw} (hl:rows[l]? = some r) (hb:byNm r.k = true) (he:r.z = z):wrongW rows bars many z = if l < min many (plN rows) then "again" else "":=by
 have hv:=doors_at hb rows 0 l [] hl nd
 rw [he] at hv
 have e1:unwW.lastD' z rows = some l:=by unfold unwW.lastD'; rw [hv,Nat.zero_add]; rfl
 unfold wrongW unwW
 rw [if_neg h,e1]
 show (if l < plN rows/\l < many then some ("again" : Str) else none).getD "" = _
 by_cases hc:l < plN rows/\l < many
 ·rw [if_pos hc,if_pos (by omega)]; rfl
 ·rw [if_neg hc,if_neg (by omega)]; rfl
theorem unw_words {rows:List Rw} {bars:List Str} {many:Nat} {z:Str}:unwW rows bars many z = if wrongW rows bars many z = "" then none else some (wrongW rows bars many z):=by
 unfold wrongW
 cases h:unwW rows bars many z with
 | none=>rfl
 | some x=>
  have hx:x ≠ "":=by
   unfold unwW at h
   split at h
   ·cases h; decide +kernel
   ·split at h
    ·split at h
     ·cases h
     ·cases h; decide +kernel
    ·split at h
     ·cases h; decide +kernel
     ·cases h
  rw [if_neg (show ¬ (some x).getD "" = "" from hx)]
  rfl
theorem lack_is {r:Rw} {i many:Nat} {fk:List (Key × V)}:isLack r i many fk = (!fr r.k r.b && !(byPl r.k && decide (i < many)) && !(byNm r.k && (valV fk (.inr r.z)).isSome)):=by
 unfold isLack oneE
 by_cases h1:byPl r.k = true/\i < many
 ·rw [if_pos h1,h1.1,decide_eq_true h1.2]
  have e:L2.eqT [.str "place",.int (i:Nat)] [.str "free"] = false:=rfl
  rw [e]
  simp
 ·rw [if_neg h1]
  have hn:(byPl r.k && decide (i < many)) = false:=by
   cases hp:byPl r.k with
   | false=>rfl
   | true=>exact decide_eq_false fun h=>h1 ⟨hp,h⟩
  rw [hn]
  by_cases h2:byNm r.k = true/\(valV fk (.inr r.z)).isSome = true
  ·rw [if_pos h2,h2.1,h2.2]
   have e:∀ v,L2.eqT [.str "name",v] [.str "free"] = false:=fun v=>by unfold L2.eqT; simp
   rw [e]
   simp
  ·rw [if_neg h2]
   have hn2:(byNm r.k && (valV fk (.inr r.z)).isSome) = false:=by
    cases hp:byNm r.k with
    | false=>rfl
    | true=>
     cases hq:(valV fk (.inr r.z)).isSome with
     | false=>rfl
     | true=>exact absurd ⟨hp,hq⟩ h2
   rw [hn2]
   have e:L2.eqT [.str "free"] [.str "free"] = true:=by unfold L2.eqT; simp [List.range_succ,eqV]
   rw [e]
   simp
theorem fpZ_has {zs:List Str} {z:Str}:(valV (kvP (fpZ zs)) (.inr z)).isSome = decide (z ∈ zs):=by
 rw [kvP_any,Bool.eq_iff_iff,decide_eq_true_eq]
 constructor
 ·intro h
  have key:∀ (zs:List Str) (i:Nat) (acc:List (Str × Nat)),((fpF i acc zs).any fun p=>decide (p.1 = z)) = true->(acc.any fun p=>decide (p.1 = z)) = true\/z ∈ zs:=by
   intro zs
   induction zs with
   | nil=>exact fun i acc h=>.inl h
   | cons y ys ih=>
    intro i acc h
    rcases ih (i + 1) _ h with h | h
    ·split at h
     ·exact .inl h
     ·rw [List.any_append,Bool.or_eq_true] at h
      rcases h with h | h
      ·exact .inl h
      ·right
       simp at h
       rw [h]
       exact List.mem_cons_self
    ·exact .inr (List.mem_cons_of_mem _ h)
  rcases key zs 0 [] h with h | h
  ·simp at h
  ·exact h
 ·exact fun h=>fp_mem zs 0 [] h
theorem fpF_fst {zs:List Str} {z:Str}:z ∈ (fpZ zs).map (·.1) ↔ z ∈ zs:=by
 have h1:((fpZ zs).any fun p=>decide (p.1 = z)) = decide (z ∈ zs):=by rw [<- kvP_any,fpZ_has]
 rw [any_mem,Bool.eq_iff_iff,decide_eq_true_eq,decide_eq_true_eq] at h1
 exact h1
theorem unw_nil {rows:List Rw} {bars:List Str} {many:Nat} {zs:List Str}:unwF rows bars many (fpZ zs) = [] ↔ ∀ z ∈ zs,unwW rows bars many z = none:=by
 unfold unwF
 rw [List.filterMap_eq_nil_iff]
 constructor
 ·intro h z hz
  obtain ⟨p,hp,rfl⟩:=List.mem_map.mp (fpF_fst.mpr hz)
  have:=h p hp
  rwa [Option.map_eq_none_iff] at this
 ·intro h p hp
  rw [Option.map_eq_none_iff]
  exact h _ (fpF_fst.mp (List.mem_map.mpr ⟨p,hp,rfl⟩))
theorem dblF_nil {fk:List (Key × V)}:∀ (zs:List Str) (i:Nat),dblF fk i zs = [] ↔ ∀ j z,zs[j]? = some z->valV fk (.inr z) = some (.int ((i + j:Nat):Int))
 | [],i=>by simp [dblF]
 | y :: ys,i=>by
  show (if valV fk (.inr y) = some (.int (i:Nat)) then [] else [(("doubled" : Str),i)]) ++ dblF fk (i + 1) ys = [] ↔ _
  rw [List.append_eq_nil_iff,dblF_nil ys (i + 1)]
  constructor
  ·rintro ⟨h1,h2⟩ j z hj
   cases j with
   | zero=>
    have:y = z:=by simpa using hj
    subst this
    split at h1
    next e=>exact e
    ·cases h1
   | succ j=>
    have:=h2 j z (by simpa using hj)
    rw [this]
    congr 3
    omega
  ·intro h
   refine ⟨?_,fun j z hj=>?_⟩
   ·have h0:=h 0 y rfl
    rw [Nat.add_zero] at h0
    rw [if_pos h0]
   ·have:=h (j + 1) z (by simpa using hj)
    rw [this]
    congr 3
    omega
theorem fpT {zs:List Str} {z:Str}:((fpF 0 [] zs).any fun p=>decide (p.1 = z)) = decide (z ∈ zs):=by
 have:=fpZ_has (zs:=zs) (z:=z)
 rw [kvP_any] at this
 exact this
theorem dbl_nil {zs:List Str}:dblF (kvP (fpZ zs)) 0 zs = [] ↔ zs.Nodup:=by
 rw [dblF_nil,List.nodup_iff_pairwise_ne]
 constructor
 ·intro h
  rw [List.pairwise_iff_getElem]
  intro i j hi hj hij e
  have h1:=dbl_is (zs:=zs) (i:=j) (z:=zs[j]) (List.getElem?_eq_getElem hj)
  have h2:=h j _ (List.getElem?_eq_getElem hj)
  rw [Nat.zero_add] at h2
  rw [decide_eq_true h2,fpT] at h1
  have hm:zs[j] ∈ zs.take j:=by
   rw [<- e]
   rw [List.mem_iff_getElem]
   exact ⟨i,by rw [List.length_take]; omega,by rw [List.getElem_take]⟩
  rw [decide_eq_true hm] at h1
  cases h1
 ·intro h j z hj
  have h1:=dbl_is hj
  rw [fpT] at h1
  have hn:z ∉ zs.take j:=by
   intro hm
   obtain ⟨i,hi,e⟩:=List.mem_iff_getElem.mp hm
   rw [List.length_take] at hi
   rw [List.getElem_take] at e
   have hjl:j < zs.length:=(List.getElem?_eq_some_iff.mp hj).1
   have:=(List.pairwise_iff_getElem.mp h) i j (by omega) hjl (by omega)
   rw [List.getElem?_eq_getElem hjl] at hj
   exact this (e.trans (Option.some.inj hj).symm)
  rw [decide_eq_false hn] at h1
  rw [Nat.zero_add]
  exact of_decide_eq_true h1
theorem over_nil {rows:List Rw} {many:Nat}:overF rows many = [] ↔ ((firstK 2 0 rows).isSome = true\/many<=plN rows):=by
 unfold overF
 split
 next h=>simp [h]
 next h=>
  rw [List.map_eq_nil_iff,List.range_eq_nil]
  constructor
  ·intro e; right; omega
  ·rintro (e | e)
   ·exact absurd e h
   ·omega
theorem lackF_nil {many:Nat} {fk:List (Key × V)}:∀ (rows:List Rw) (i:Nat),lackF many fk i rows = [] ↔ ∀ j r,rows[j]? = some r->isLack r (i + j) many fk = false
 | [],i=>by simp [lackF]
 | y :: ys,i=>by
  show (if isLack y i many fk = true then [(("lacking" : Str),i)] else []) ++ lackF many fk (i + 1) ys = [] ↔ _
  rw [List.append_eq_nil_iff,lackF_nil ys (i + 1)]
  constructor
  ·rintro ⟨h1,h2⟩ j z hj
   cases j with
   | zero=>
    have:y = z:=by simpa using hj
    subst this
    split at h1
    ·cases h1
    next e=>exact Bool.eq_false_iff.mpr e
   | succ j=>
    have:=h2 j z (by simpa using hj)
    rw [show i + (j + 1) = i + 1 + j by omega]
    exact this
  ·intro h
   refine ⟨?_,fun j z hj=>?_⟩
   ·have:=h 0 y rfl
    rw [Nat.add_zero] at this
    rw [if_neg (by rw [this]; decide)]
   ·have:=h (j + 1) z (by simpa using hj)
    rw [show i + 1 + j = i + (j + 1) by omega]
    exact this
theorem unw_door {rows:List Rw} {bars:List Str} {many:Nat} {z:Str} (V1:Valid rows bars) {l:Nat} {r:Rw} (hl:rows[l]? = some r) (hb:byNm r.k = true) (he:r.z = z) (hn:¬ (l < plN rows/\l < many)):unwW rows bars many z = none:=by
 have nd:(nms rows).Nodup:=(List.nodup_append.mp V1.nd).1
 have hm:z ∈ nms rows:=by
  unfold nms
  exact List.mem_map.mpr ⟨r,List.mem_filter.mpr ⟨List.mem_of_getElem? hl,hb⟩,he⟩
 have hz:z ∉ bars:=fun h=>(List.nodup_append.mp V1.nd).2.2 z hm z h rfl
 rw [unw_words,wrong_at nd hz hl hb he,if_neg (show ¬ l < min many (plN rows) by omega),if_pos rfl]
end K32
namespace L2
open PySem PySem.Spec PyProof.Rows
theorem op_isnotIB {X:Cx}:OpR X (compareOp .IsNot) (fun x y H Q=>∃ i b,x = .int i/\y = .bl b/\Q (.bl true) H):=by
 intro pins s σ H x y v u Q I rx ry h
 obtain ⟨a,b,rfl,rfl,q⟩:=h
 obtain ⟨t,rfl⟩:=rx
 cases ry
 have e:wpAny (model X.prog X.w) X.A (pure (Value.bool (!(Value.int a t == Value.bool b)))) (EP X pins σ Q) X.xe s:=wpAny_pure ⟨.bl true,H,I,rfl,q⟩
 exact e
end L2
namespace K32
open PySem L2 PyProof.Rows
structure TxtL (mg:Str->Option Value):Prop where
 isi:mg "isinstance" = none
 int:mg "int" = none
 len:mg "len" = none
 range:mg "range" = none
 list:mg "list" = none
 zip:mg "zip" = none
 max:mg "max" = none
def spOneI:Sp:=fun vs H Q _=>∃ i:Int,vs = [.int i]/\Q (.bl true) H
def spMix:Sp:=fun vs H Q _=>∃ (c:Int) (k:Nat),vs = [.int c,.int k]/\k<=1000/\∀ m:Int,0<=m->m < 2147483587->Q (.int m) H
section
variable {P:Program} {w:World} {K:PySem.W.Frag} {mg:Str->Option Value} {base:Heap} {f:Addr} {fd:FuncData}
theorem scNth:FnScope ["_law_script","_law_k"] ["_law_script","_law_k"] (defScope sNth):=⟨rfl,rfl,rfl,by decide +kernel,rfl,by decide +kernel,by decide +kernel⟩
theorem scNum:FnScope ["_law_found"] ["_law_found"] (defScope sNum):=⟨rfl,rfl,rfl,by decide +kernel,rfl,by decide +kernel,by decide +kernel⟩
theorem ok_num (F:Fun K "_law_is_number" "_law_is_number" sNum f fd) (T:TxtL mg):FnOk P w K mg base CX0 1 f fd ["_law_found"] spOneI:=by
 refine F.ok scNum (fun vs H Q E h=>?_) (fun cdv A outer s H vs Q E hr h=>?_)
 ·obtain ⟨i,rfl,_⟩:=h
  rfl
 obtain ⟨i,rfl,q⟩:=h
 refine ⟨_,pss_one (ps_ret (pe_and (cB call_isinst T.isi boot_isinstance (ac (pv 0) (ac (pe_bltn (v:=.ty "int") rfl T.int PyProof.Rows.boot_int rfl) pa_nil)))
  (pe_and (pe_cmpR op_isnotIB (pv 0) pe_bl (nomark _)) (pe_one (pe_cmpR op_isnotIB (pv 0) pe_bl (nomark _)))))),?_⟩
 refine ⟨_,rfl,_,_,_,_,rfl,.int i,kt_int_int K,_,rfl,?_⟩
 refine iteT ?_
 refine ⟨_,rfl,_,_,rfl,rfl,_,rfl,?_⟩
 refine iteT ?_
 exact ⟨_,rfl,_,_,rfl,rfl,q⟩
theorem scMix:FnScope ["_law_cell","_law_k","_law_number"] ["_law_cell","_law_k"] (defScope sMix):=⟨rfl,rfl,rfl,by decide +kernel,rfl,by decide +kernel,by decide +kernel⟩
theorem ok_mix (F:Fun K "_law_mix" "_law_mix" sMix f fd):FnOk P w K mg base CX0 1 f fd ["_law_cell","_law_k"] spMix:=by
 refine F.ok scMix (fun vs H Q E h=>?_) (fun cdv A outer s H vs Q E hr h=>?_)
 ·obtain ⟨c,k,rfl,_⟩:=h
  rfl
 obtain ⟨c,k,rfl,hk,q⟩:=h
 refine ⟨_,pss_cons (ps_set (i:=2) scMix.nd rfl (Or.inl rfl) (pe_op op_mod (pe_op op_add (pe_op op_add (pe_op op_mul (pe_op op_mod (pv 0) pe_int) pe_int) (pe_op op_mul (pe_op op_mul (pv 1) (pv 1)) pe_int)) (pe_op op_mul pe_int (pv 1))) pe_int))
  (pss_one (ps_ret (pe_op op_mod (pe_op op_add (pe_op op_add (pe_op op_mul (pv 2) (pv 2)) (pe_op op_mul pe_int (pv 2))) (pv 1)) pe_int))),?_⟩
 have k0:(0:Int)<=(k:Int):=by omega
 have k1:(k:Int)<=1000:=by omega
 refine ⟨_,rfl,_,_,rfl,rfl,(by show (0:Int) < 2147483629; decide),_,_,rfl,rfl,.inr ⟨by decide,by decide⟩,_,rfl,_,rfl,_,_,rfl,rfl,.inl ⟨by omega,by omega⟩,_,_,rfl,rfl,.inr ⟨by decide,by decide⟩,_,_,rfl,rfl,_,rfl,_,_,rfl,rfl,.inl ⟨by decide,by decide⟩,_,_,rfl,rfl,_,_,rfl,rfl,(by show (0:Int) < 2147483647; decide),?_⟩
 have h1 : 0<=(c % 2147483629 * 48271 + (k:Int) * (k:Int) * 7919 + 31 * (k:Int)) % 2147483647:=Int.emod_nonneg _ (by decide)
 have h2:(c % 2147483629 * 48271 + (k:Int) * (k:Int) * 7919 + 31 * (k:Int)) % 2147483647 < 2147483647:=Int.emod_lt_of_pos _ (by decide)
 refine ⟨_,rfl,_,rfl,_,_,rfl,rfl,.inl ⟨by omega,by omega⟩,_,rfl,_,_,rfl,rfl,.inl ⟨by decide,by decide⟩,_,_,rfl,rfl,_,rfl,_,_,rfl,rfl,_,_,rfl,rfl,(by show (0:Int) < 2147483587; decide),q _ (Int.emod_nonneg _ (by decide)) (Int.emod_lt_of_pos _ (by decide))⟩
end
theorem app_len (x y:Str):(x ++ y).length = x.length + y.length:=by
 show (x.cps ++ y.cps).size = _
 rw [Array.size_append]; rfl
theorem app_cps (x y:Str):(x ++ y).cps.toList = x.cps.toList ++ y.cps.toList:=by
 show (x.cps ++ y.cps).toList = _
 rw [Array.toList_append]
theorem nil_cps:(Str.ofString "").cps.toList = []:=by decide +kernel
theorem int_get {ts:List Int} {i:Nat} {x:V} (h:(ts.map V.int)[i]? = some x):∃ t,ts[i]? = some t/\x = .int t:=by
 rw [List.getElem?_map] at h
 cases e:ts[i]? with
 | none=>rw [e] at h; cases h
 | some it=>rw [e] at h; exact ⟨it,rfl,(Option.some.inj h).symm⟩
theorem item_get {c:List Item} {i:Nat} {d:Dt} (h:(c.map itemD)[i]? = some d):∃ it,c[i]? = some it/\itemD it = d:=by
 rw [List.getElem?_map] at h
 cases e:c[i]? with
 | none=>rw [e] at h; cases h
 | some it=>rw [e] at h; exact ⟨it,rfl,Option.some.inj h⟩
theorem pairs_same {K:PySem.W.Frag} {ok:Addr->Prop} {H H':Hp} {zs:List V} {ps:List (Str × Int)} (s:Same H H') (r:Paired (Says K ok H 1) zs (ps.map pairD)):Paired (Says K ok H' 1) zs (ps.map pairD):=Paired.imp' (fun _ _ z=>z.same s) r
theorem says_ok {K:PySem.W.Frag} {ok ok':Addr->Prop} {H:Hp} (hk:∀ b,ok b->H b ≠ none->ok' b) {n:Nat} {x:V} {d:Dt} (h:Says K ok H n x d):Says K ok' H n x d:=
 h.frame (fun a xs z=>z) fun a xs oa z=>⟨hk a oa (by rw [z]; intro q; cases q),z⟩
theorem pairs_ok {K:PySem.W.Frag} {ok ok':Addr->Prop} {H3:Hp}:∀ {ps:List (Str × Int)} {zs:List V},Paired (Says K ok H3 1) zs (ps.map pairD)->Paired (Says K ok' H3 1) zs (ps.map pairD)
 | [],_,r=>by cases r; exact .nil
 | p :: ps,_,r=>by
  cases r with
  | cons h r=>
   refine .cons ?_ (pairs_ok r)
   obtain ⟨b,ws,rfl,hS',r'⟩:=says_tup h
   exact .tup hS' (Paired.imp' (fun _ _ z=>z) r')
theorem ints_says {K:PySem.W.Frag} {ok:Addr->Prop} {H:Hp} {n:Nat}:∀ (ts:List Int),Paired (Says K ok H n) (ts.map V.int) (ts.map Dt.int)
 | []=>.nil
 | _ :: ts=>.cons .int (ints_says ts)
theorem take_snocL {α : Type} {l:List α} {i:Nat} {x : α} (h:l[i]? = some x):l.take (i + 1) = l.take i ++ [x]:=by
 rw [List.take_add_one,h]; rfl
theorem sqT_keep {K:PySem.W.Frag} {H3:Hp} {o:HO} {l b:Addr} {zs:List V} (hl:H3 l = none\/(∃ zs,H3 l = some (.lst zs))) (hz:SqT K H3 b zs):SqT K (upd H3 l o) b zs:=by
 rcases hz with (z | ⟨u,z⟩) | z
 ·refine .inl (.inl ?_)
  have:b ≠ l:=fun e=>by
   subst e
   rcases hl with e | ⟨_,e⟩
   ·rw [e] at z; cases z
   ·rw [e] at z; cases z
  rw [upd_ne this]; exact z
 ·refine .inl (.inr ⟨u,?_⟩)
  have:b ≠ l:=fun e=>by
   subst e
   rcases hl with e | ⟨_,e⟩
   ·rw [e] at z; cases z
   ·rw [e] at z; cases z
  rw [upd_ne this]; exact z
 ·exact .inr z
theorem says_upd {K:PySem.W.Frag} {ok ok':Addr->Prop} {H:Hp} {o:HO} {l:Addr} (hl:H l = none\/(∃ zs,H l = some (.lst zs))) (hk:∀ b,ok b->H b ≠ none->ok' b/\b ≠ l) {n:Nat} {x:V} {d:Dt} (h:Says K ok H n x d):Says K ok' (upd H l o) n x d:=
 h.frame (fun a xs z=>sqT_keep hl z) fun a xs oa z=>by
  have:=hk a oa (by rw [z]; intro q; cases q)
  exact ⟨this.1,by rw [upd_ne this.2]; exact z⟩
theorem pairs_keep {K:PySem.W.Frag} {ok:Addr->Prop} {H3:Hp} {o:HO} {l:Addr} (hl:H3 l = none\/(∃ zs,H3 l = some (.lst zs))):∀ {ps:List (Str × Int)} {zs:List V},Paired (Says K ok H3 1) zs (ps.map pairD)->Paired (Says K ok (upd H3 l o) 1) zs (ps.map pairD)
 | [],_,r=>by cases r; exact .nil
 | p :: ps,_,r=>by
  cases r with
  | cons h r=>
   refine .cons ?_ (pairs_keep hl r)
   obtain ⟨b,ws,rfl,hS',r'⟩:=says_tup h
   exact .tup (sqT_keep hl hS') (Paired.imp' (fun _ _ z=>z) r')
theorem abc_at:∀ m,m < 26->(Str.ofString "abcdefghijklmnopqrstuvwxyz").cps.toList[m]? = some (97 + m):=by decide +kernel
theorem ab_at:∀ m,m < 2->(Str.ofString "ab").cps.toList[m]? = some (97 + m):=by decide +kernel
structure Abc (z:Str) (n:Nat):Prop where
 len:z.length = n
 pos : 0 < n
 le:n<=26
 at_:∀ m,m < n->z.cps.toList[m]? = some (97 + m)
theorem abc26:Abc "abcdefghijklmnopqrstuvwxyz" 26:=⟨by decide +kernel,by decide,by decide,abc_at⟩
theorem abc2:Abc "ab" 2:=⟨by decide +kernel,by decide,by decide,ab_at⟩
theorem name_app {z:Str} {ch:Nat} (hz:∀ c ∈ z.cps.toList,97<=c/\c<=122) (hc : 97<=ch/\ch<=122):∀ c ∈ (z ++ (⟨#[ch]⟩:Str)).cps.toList,97<=c/\c<=122:=by
 intro c h
 rw [app_cps] at h
 rcases List.mem_append.mp h with h | h
 ·exact hz c h
 ·have:c = ch:=by simpa using h
  rw [this]; exact hc
def spPool (K:PySem.W.Frag):Sp:=fun vs H Q _=>∃ c:Int,vs = [.int c]/\∀ (r:Addr) (zs:List Str) (H':Hp),Same H H'->H r = none->H' r = some (.lst (zs.map V.str))->zs.Nodup->(∀ z ∈ zs,nameB z = true)->0 < zs.length->zs.length<=30->Q (.ref r) H'
theorem inStrs {z:Str}:∀ {zs:List Str},inV (.str z) (zs.map V.str) = decide (z ∈ zs)
 | []=>by simp [inV]
 | y :: ys=>by
  have ih:=inStrs (z:=z) (zs:=ys)
  show (eqV (.str y) (.str z) || inV (.str z) (ys.map V.str)) = _
  rw [ih]
  have:eqV (.str y) (.str z) = decide (z = y):=by
   show (y == z) = _
   rw [Bool.eq_iff_iff,beq_iff_eq,decide_eq_true_eq]
   exact ⟨Eq.symm,Eq.symm⟩
  rw [this]
  simp
theorem flatStrs:∀ {zs:List Str},(zs.map V.str).all flatV = true
 | []=>rfl
 | _ :: ys=>by
  show (true && (ys.map V.str).all flatV) = true
  rw [flatStrs]
  rfl
section
variable {P:Program} {w:World} {K:PySem.W.Frag} {mg:Str->Option Value} {base:Heap} {f:Addr} {fd:FuncData}
theorem scPool:FnScope ["_law_cell","_law_letters","_law_pool_here","_law_k","_law_number","_law_rest","_law_name","_law_j"] ["_law_cell"] (defScope sPool):=⟨rfl,rfl,rfl,by decide +kernel,rfl,by decide +kernel,by decide +kernel⟩
theorem ok_pool {g:Addr} {gd:FuncData} (F:Fun K "_law_pool" "_law_pool" sPool f fd) (T:TxtL mg) (cM:Callee P w K mg base 1 "_law_mix" g gd ["_law_cell","_law_k"] spMix):FnOk P w K mg base CX0 2 f fd ["_law_cell"] (spPool K):=by
 refine F.ok scPool (fun vs H Q E h=>?_) (fun cdv A outer s H vs Q E hr h=>?_)
 ·obtain ⟨c,rfl,_⟩:=h
  rfl
 obtain ⟨cc,rfl,q⟩:=h
 refine ⟨_,pss_cons (ps_set (i:=1) scPool.nd rfl (Or.inl rfl) (pe_ix ix_list (pe_lst (ac pe_str (ac pe_str pa_nil))) (pe_op op_mod (pv 0) pe_int) (fun _ _=>rfl)))
  (pss_cons (ps_set (i:=2) scPool.nd rfl (Or.inl rfl) (pe_lst pa_nil))
  (pss_cons (ps_for PassesOwn.never rfl (pi_range1 rfl T.range (ac (pe_ix ix_list (pe_lst (ac pe_int (ac pe_int pa_nil))) (cTy call_int1 T.int PyProof.Rows.boot_int (ac (pe_cmpR op_eq (pe_op op_mod (pv 0) pe_int) pe_int (nomark _)) pa_nil)) (fun _ _=>rfl)) pa_nil)) (pg_name (i:=3) scPool.nd rfl (Or.inl rfl))
   (pss_cons (ps_set (i:=4) scPool.nd rfl (Or.inl rfl) (cF cM hr (ac (pv 0) (ac (pv 3) pa_nil))))
   (pss_cons (ps_set (i:=5) scPool.nd rfl (Or.inl rfl) (pe_op op_fdiv (pv 4) pe_int))
   (pss_cons (ps_set (i:=6) scPool.nd rfl (Or.inl rfl) pe_str)
   (pss_cons (ps_for PassesOwn.never rfl (pi_range1 rfl T.range (ac (pe_op op_add pe_int (pe_op op_mod (pv 4) (pe_ix ix_list (pe_lst (ac pe_int (ac pe_int pa_nil))) (pe_op op_mod (pv 0) pe_int) (fun _ _=>rfl)))) pa_nil)) (pg_name (i:=7) scPool.nd rfl (Or.inl rfl))
    (pss_cons (ps_set (i:=6) scPool.nd rfl (Or.inl rfl) (pe_op op_add_str (pv 6) (pe_ix ix_str (pv 1) (pe_op op_mod (pv 5) (cB call_len_str T.len PySem.boot_len (ac (pv 1) pa_nil))) (fun _ _=>rfl))))
    (pss_one (ps_set (i:=5) scPool.nd rfl (Or.inl rfl) (pe_op op_fdiv (pv 5) (cB call_len_str T.len PySem.boot_len (ac (pv 1) pa_nil)))))))
   (pss_one (ps_if (pt_cmpR op_notIn_seq (pv 6) (pv 2) (by with_unfolding_all rfl)) (pss_one (ps_expr (pe_bm PySem.F.plainAttrs_list PySem.F.slot_list_append PySem.F.type_list_append mt_append (pv 2) (ac (pv 6) pa_nil)))) pss_nil)))))))
  (pss_one (ps_ret (pv 2))))),?_⟩
 refine ⟨(by show 2<=sizeLine; decide),fun l0 hl0=>?_⟩
 have s0:=same_new hl0 (.lst [.str "ab",.str "abcdefghijklmnopqrstuvwxyz"])
 have g0:upd H l0 (.lst [.str "ab",.str "abcdefghijklmnopqrstuvwxyz"]) l0 = some (.lst [.str "ab",.str "abcdefghijklmnopqrstuvwxyz"]):=upd_same
 generalize upd H l0 (.lst [.str "ab",.str "abcdefghijklmnopqrstuvwxyz"]) = H0 at s0 g0 |-
 obtain ⟨L,nL,hA,bb,hb,hbp,hb8,hat,hatb⟩:∃ (L:Str) (nL:Nat),Abc L nL/\∃ bb:Nat,(bb = 3\/bb = 8)/\0 < bb/\bb<=8/\atI ([.str "ab",.str "abcdefghijklmnopqrstuvwxyz"]:List V) (cc % 2) = some (.str L)/\atI ([.int 3,.int 8]:List V) (cc % 2) = some (.int (bb:Nat)):=by
  have h:cc % 2 = 0\/cc % 2 = 1:=by omega
  rcases h with h | h
  ·exact ⟨"ab",2,abc2,3,.inl rfl,by decide,by decide,by rw [h]; rfl,by rw [h]; rfl⟩
  ·exact ⟨_,26,abc26,8,.inr rfl,by decide,by decide,by rw [h]; rfl,by rw [h]; rfl⟩
 refine ⟨_,rfl,_,_,rfl,rfl,(by show (0:Int) < 2; decide),l0,_,_,.str L,rfl,rfl,SqL.of g0,hat,?_⟩
 refine ⟨(by show 0<=sizeLine; decide),fun lp hlp=>?_⟩
 have s1:=same_new hlp (.lst [])
 have g1:upd H0 lp (.lst []) lp = some (.lst []):=upd_same
 dsimp only [gName]
 generalize upd H0 lp (.lst []) = H1 at s1 g1 |-
 have s01:=s0.trans s1
 have nlp:H lp = none:=s0.free hlp
 refine ⟨(by show 2<=sizeLine; decide),fun lq hlq=>⟨_,rfl,_,_,rfl,rfl,(by show (0:Int) < 16; decide),rfl,?_⟩⟩
 have sq:=same_new hlq (.lst [.int 12,.int 30])
 refine .inr ⟨_,rfl,?_⟩
 obtain ⟨mm,hm0,hm1,hatq⟩:∃ mm:Nat,0 < mm/\mm<=30/\atI [V.int 12,V.int 30] (if decide (V.int (cc % 16) = V.int 5) = true then 1 else 0) = some (.int mm):=by
  by_cases z:decide (V.int (cc % 16) = V.int 5) = true
  ·exact ⟨30,by decide,by decide,by rw [if_pos z]; rfl⟩
  ·exact ⟨12,by decide,by decide,by rw [if_neg z]; rfl⟩
 have s01:=s01.trans sq
 have g1:=sq _ _ g1
 have gq:upd H1 lq (.lst [.int 12,.int 30]) lq = some (.lst [.int 12,.int 30]):=upd_same
 generalize upd H1 lq (.lst [.int 12,.int 30]) = H1' at s01 g1 gq |-
 refine ⟨lq,_,_,.int mm,rfl,rfl,SqL.of gq,hatq,(mm:Int),rfl,by omega,by omega,?_⟩
 rw [show ((mm:Int)).toNat = mm from rfl]
 refine for_range (n:=mm) (fun i σ H'=>∃ (zs:List Str) (v3 v4 v5 v6 v7:Option V),σ = [some (.int cc),some (.str L),some (.ref lp),v3,v4,v5,v6,v7]/\Same H H'/\H' lp = some (.lst (zs.map V.str))/\zs.Nodup/\(∀ z ∈ zs,nameB z = true)/\zs.length<=i/\(0 < i->0 < zs.length)) ⟨[],_,_,_,_,_,rfl,s01,g1,List.nodup_nil,(fun _ h=>nomatch h),Nat.le_refl _,fun h=>absurd h (by decide)⟩ ?_ ?_
 rotate_left
 ·rintro σ H2 ⟨zs,v3,v4,v5,v6,v7,rfl,s2,e2,nd,nm,ln,l0'⟩
  exact ⟨_,rfl,q lp zs H2 s2 nlp e2 nd nm (l0' hm0) (by omega)⟩
 rintro i σ H2 hi ⟨zs,v3,v4,v5,v6,v7,rfl,s2,e2,nd,nm,ln,l0'⟩
 rw [Int.zero_add]
 refine ⟨_,rfl,_,rfl,cc,i,rfl,by omega,fun m m0 m1=>?_⟩
 refine ⟨_,rfl,_,_,rfl,rfl,⟨by decide,by decide⟩,?_⟩
 have b0 : 0<=m % (bb:Int):=Int.emod_nonneg _ (by omega)
 have b1:m % (bb:Int) < (bb:Int):=Int.emod_lt_of_pos _ (by omega)
 refine ⟨_,rfl,(by show 2<=sizeLine; decide),fun l3 hl3=>?_⟩
 have s3:=same_new hl3 (.lst [.int 3,.int 8])
 have g3:upd H2 l3 (.lst [.int 3,.int 8]) l3 = some (.lst [.int 3,.int 8]):=upd_same
 generalize upd H2 l3 (.lst [.int 3,.int 8]) = H3 at s3 g3 |-
 have s13:=s2.trans s3
 have e3:=s3 _ _ e2
 refine ⟨_,rfl,_,_,rfl,rfl,(by show (0:Int) < 2; decide),l3,_,_,.int (bb:Nat),rfl,rfl,SqL.of g3,hatb,_,_,rfl,rfl,(by show (0:Int) < (bb:Int); omega),_,_,rfl,rfl,1 + m % (bb:Int),rfl,by omega,by omega,?_⟩
 have hn:(1 + m % (bb:Int)).toNat<=8/\1<=(1 + m % (bb:Int)).toNat:=by omega
 generalize (1 + m % (bb:Int)).toNat = n at hn
 refine for_range (n:=n) (fun j σ H'=>∃ (r:Int) (z:Str) (v7:Option V),σ = [some (.int cc),some (.str L),some (.ref lp),some (.int (i:Nat)),some (.int m),some (.int r),some (.str z),v7]/\H' = H3/\z.length = j/\∀ c ∈ z.cps.toList,97<=c/\c<=122)
  ⟨m / 8,"",_,rfl,rfl,rfl,fun c hc=>by rw [show ("" : Str).cps.toList = [] from nil_cps] at hc; cases hc⟩ ?_ ?_
 ·rintro j σ H' hj ⟨r,z,v7,rfl,rfl,hl,hc⟩
  have lenL:(L.length:Int) = (nL:Int):=by rw [hA.len]
  have szL:L.length<=sizeLine:=by rw [hA.len]; exact le1000 (by have:=hA.le; omega)
  have p0:=hA.pos
  have p26:=hA.le
  have d0 : 0<=r % (nL:Int):=Int.emod_nonneg _ (by omega)
  have d1:r % (nL:Int) < (nL:Int):=Int.emod_lt_of_pos _ (by omega)
  obtain ⟨k,hk⟩:=Int.eq_ofNat_of_zero_le d0
  have hkn:k < nL:=by omega
  refine ⟨_,rfl,_,rfl,_,rfl,_,rfl,L,rfl,szL,_,_,rfl,rfl,(by rw [lenL]; omega),L,_,97 + k,rfl,rfl,szL,(by rw [lenL,hk]; exact atI_nat (hA.at_ k hkn)),_,_,rfl,rfl,(by rw [hl]; exact le1000 (by show j + 1<=1000; omega)),?_⟩
  refine ⟨_,rfl,_,rfl,L,rfl,szL,_,_,rfl,rfl,⟨by rw [lenL]; omega,by rw [lenL]; omega⟩,?_⟩
  refine ⟨_,_,_,rfl,rfl,?_,name_app hc (by omega)⟩
  rw [app_len,hl]
  rfl
 ·rintro σ H' ⟨r,z,v7,rfl,rfl,hl,hc⟩
  have hzn:nameB z = true:=nameB_iff.mpr ⟨by omega,by omega,hc⟩
  refine ⟨_,rfl,_,rfl,lp,_,rfl,.inl (SqL.of e3),rfl,flatStrs,_,rfl,?_⟩
  by_cases hm:z ∈ zs
  ·refine iteC (by rw [if_pos rfl,inStrs,decide_eq_true hm]; rfl) ?_
   exact ⟨zs,_,_,_,_,_,rfl,s13,e3,nd,nm,Nat.le_succ_of_le ln,fun _=>List.length_pos_of_mem hm⟩
  ·refine iteB (by rw [if_pos rfl,inStrs,decide_eq_false hm]; rfl) ?_
   refine ⟨_,rfl,.inl ⟨rfl,_,SqL.of e3⟩,_,rfl,lp,_,_,rfl,rfl,e3,small1000 (by rw [List.length_map]; omega),?_⟩
   refine ⟨zs ++ [z],_,_,_,_,_,rfl,fun b u e=>by rw [upd_ne (ne_of_none e nlp)]; exact s13 _ _ e,by rw [upd_same,List.map_append]; rfl,List.nodup_append.mpr ⟨nd,by simp,fun x hx y hy e=>hm (by rw [<- List.mem_singleton.mp hy,<- e]; exact hx)⟩,fun y hy=>?_,by rw [List.length_append]; exact Nat.succ_le_succ ln,fun _=>by rw [List.length_append]; exact Nat.succ_pos _⟩
   rcases List.mem_append.mp hy with hy | hy
   ·exact nm y hy
   ·rw [List.mem_singleton.mp hy]; exact hzn
end
theorem ord_cons {l g:Nat} {r:Rw} {rs:List Rw} (hg:grp r.k = g) (hb:badAt l g = false) (h:ordOk g rs = true):ordOk l (r :: rs) = true:=by
 show (!badAt l (grp r.k) && ordOk (grp r.k) rs) = true
 rw [hg,hb,h]
 rfl
theorem ord_even {g:Nat} (he:badAt g g = false):∀ (xs ys:List Rw) (l:Nat),badAt l g = false->(∀ r ∈ xs,grp r.k = g)->ordOk l ys = true->ordOk g ys = true->ordOk l (xs ++ ys) = true
 | [],_,_,_,_,h1,_=>h1
 | r :: rs,ys,l,hb,hg,_,h2=>ord_cons (hg r List.mem_cons_self) hb (ord_even he rs ys g he (fun x hx=>hg x (List.mem_cons_of_mem _ hx)) h2 h2)
theorem ord_odd {g l:Nat} {xs ys:List Rw} (hl:xs.length<=1) (hb:badAt l g = false) (hg:∀ r ∈ xs,grp r.k = g) (h1:ordOk l ys = true) (h2:ordOk g ys = true):ordOk l (xs ++ ys) = true:=by
 match xs,hl with
 | [],_=>exact h1
 | [r],_=>exact ord_cons (hg r List.mem_cons_self) hb h2
theorem ord_all {xs0 xs1 xs2 xs3:List Rw} (g0:∀ r ∈ xs0,grp r.k = 0) (g1:∀ r ∈ xs1,grp r.k = 1) (l1:xs1.length<=1) (g2:∀ r ∈ xs2,grp r.k = 2) (g3:∀ r ∈ xs3,grp r.k = 3) (l3:xs3.length<=1):ordOk 0 (xs0 ++ (xs1 ++ (xs2 ++ xs3))) = true:=by
 have h3:∀ l,l<=2->ordOk l xs3 = true:=fun l hl=>by
  have:=ord_odd (g:=3) (l:=l) (ys:=[]) l3 (by match l,hl with | 0,_=>rfl | 1,_=>rfl | 2,_=>rfl) g3 rfl rfl
  rwa [List.append_nil] at this
 have h2:∀ l,l<=1->ordOk l (xs2 ++ xs3) = true:=fun l hl=>ord_even (g:=2) rfl xs2 xs3 l (by match l,hl with | 0,_=>rfl | 1,_=>rfl) g2 (h3 l (by omega)) (h3 2 (by omega))
 have h1:ordOk 0 (xs1 ++ (xs2 ++ xs3)) = true:=ord_odd (g:=1) l1 rfl g1 (h2 0 (by omega)) (h2 1 (by omega))
 exact ord_even (g:=0) rfl xs0 _ 0 rfl g0 h1 h1
theorem grp_nm {k:Nat} (hk:k < 5) (h:byNm k = true):grp k = 0\/grp k = 2:=by
 rcases lt5 hk with rfl | rfl | rfl | rfl | rfl <;> first | (exact .inl rfl) | (exact .inr rfl) | (cases h)
theorem nms_nil {xs:List Rw} {g:Nat} (hg:∀ r ∈ xs,r.ok/\grp r.k = g) (h:g % 2 = 1):nms xs = []:=by
 unfold nms
 rw [List.filter_eq_nil_iff.mpr (fun r hr e=>?_)]
 ·rfl
 ·obtain ⟨ho,q⟩:=hg r hr
  rcases grp_nm ho.1 e with z | z <;> rw [z] at q <;> rw [<- q] at h <;> cases h
structure FS where
 (P T G B:List Rw) (L:List Str)
def FS.add (S:FS) (k:Nat) (z:Str) (b:Bool):FS:=match k with
 | 0=>{ S with P:=S.P ++ [⟨0,z,b⟩] }
 | 1=>{ S with P:=S.P ++ [⟨1,z,b⟩],L:=S.L ++ [z] }
 | 2=>{ S with T:=[⟨2,z,b⟩] }
 | 3=>{ S with G:=S.G ++ [⟨3,z,b⟩],L:=S.L ++ [z] }
 | _=>{ S with B:=[⟨4,z,b⟩] }
structure FM (i:Nat) (S:FS):Prop where
 okP:∀ r ∈ S.P,r.ok/\grp r.k = 0
 okT:∀ r ∈ S.T,r.ok/\grp r.k = 1
 okG:∀ r ∈ S.G,r.ok/\grp r.k = 2
 okB:∀ r ∈ S.B,r.ok/\grp r.k = 3
 lT:S.T.length<=1
 lB:S.B.length<=1
 nd:(nms S.P ++ nms S.G).Nodup
 sn:∀ z ∈ nms S.P ++ nms S.G,z ∈ S.L
 ln:S.P.length + S.T.length + S.G.length + S.B.length<=i
 lL:S.L.length<=i
theorem mem_snoc {α : Type} {xs:List α} {y : α} {p : α->Prop} (h:∀ x ∈ xs,p x) (hy:p y):∀ x ∈ xs ++ [y],p x:=fun x hx=>by
 rcases List.mem_append.mp hx with hx | hx
 ·exact h x hx
 ·rw [List.mem_singleton.mp hx]; exact hy
theorem FM.zero:FM 0 ⟨[],[],[],[],[]⟩:=by
 refine ⟨?_,?_,?_,?_,?_,?_,?_,?_,?_,?_⟩ <;> first | exact (fun _ h=>nomatch h) | exact Nat.zero_le _ | exact List.nodup_nil | exact Nat.le_refl _
theorem nd_mid {a b:List Str} {z:Str} (h:(a ++ b).Nodup) (hz:z ∉ a ++ b):(a ++ [z] ++ b).Nodup:=by
 have p:(a ++ [z] ++ b).Perm (z :: (a ++ b)):=by
  rw [List.append_assoc]
  exact List.perm_middle
 exact p.nodup_iff.mpr (List.nodup_cons.mpr ⟨hz,h⟩)
theorem FM.add {i:Nat} {S:FS} {k:Nat} {z:Str} {b:Bool} (h:FM i S) (hk:k < 5) (hz:nameB z = true) (hn:byNm k = true->z ∉ S.L):FM (i + 1) (S.add k z b):=by
 have ln:=h.ln
 have lL:=h.lL
 have lT:=h.lT
 have lB:=h.lB
 match k,hk with
 | 0,_=>
  have e:nms (S.P ++ [⟨0,z,b⟩]) = nms S.P:=by rw [nms_app,nms_one]; simp [byNm]
  exact ⟨mem_snoc h.okP ⟨⟨Nat.lt_of_sub_eq_succ rfl,hz⟩,rfl⟩,h.okT,h.okG,h.okB,h.lT,h.lB,by show (nms (S.P ++ _) ++ nms S.G).Nodup; rw [e]; exact h.nd,by show ∀ y ∈ nms (S.P ++ _) ++ nms S.G,y ∈ S.L; rw [e]; exact h.sn,
   by show (S.P ++ [_]).length + S.T.length + S.G.length + S.B.length<=i + 1; rw [List.length_append,List.length_singleton]; omega,Nat.le_succ_of_le h.lL⟩
 | 1,_=>
  have e:nms (S.P ++ [⟨1,z,b⟩]) = nms S.P ++ [z]:=by rw [nms_app,nms_one]; simp [byNm]
  have nz:z ∉ nms S.P ++ nms S.G:=fun m=>hn rfl (h.sn z m)
  refine ⟨mem_snoc h.okP ⟨⟨Nat.lt_of_sub_eq_succ rfl,hz⟩,rfl⟩,h.okT,h.okG,h.okB,h.lT,h.lB,by show (nms (S.P ++ _) ++ nms S.G).Nodup; rw [e]; exact nd_mid h.nd nz,?_,
   by show (S.P ++ [_]).length + S.T.length + S.G.length + S.B.length<=i + 1; rw [List.length_append,List.length_singleton]; omega,by show (S.L ++ [_]).length<=i + 1; rw [List.length_append,List.length_singleton]; omega⟩
  show ∀ y ∈ nms (S.P ++ _) ++ nms S.G,y ∈ S.L ++ [z]
  rw [e]
  intro y hy
  rw [List.mem_append,List.mem_append] at hy
  rcases hy with (hy | hy) | hy
  ·exact List.mem_append_left _ (h.sn y (List.mem_append_left _ hy))
  ·exact List.mem_append_right _ hy
  ·exact List.mem_append_left _ (h.sn y (List.mem_append_right _ hy))
 | 2,_=>
  refine ⟨h.okP,fun r hr=>?_,h.okG,h.okB,Nat.le_refl _,h.lB,h.nd,h.sn,?_,Nat.le_succ_of_le h.lL⟩
  ·rw [List.mem_singleton.mp hr]; exact ⟨⟨Nat.lt_of_sub_eq_succ rfl,hz⟩,rfl⟩
  ·show S.P.length + 1 + S.G.length + S.B.length<=i + 1
   omega
 | 3,_=>
  have e:nms (S.G ++ [⟨3,z,b⟩]) = nms S.G ++ [z]:=by rw [nms_app,nms_one]; simp [byNm]
  have nz:z ∉ nms S.P ++ nms S.G:=fun m=>hn rfl (h.sn z m)
  refine ⟨h.okP,h.okT,mem_snoc h.okG ⟨⟨Nat.lt_of_sub_eq_succ rfl,hz⟩,rfl⟩,h.okB,h.lT,h.lB,?_,?_,
   by show S.P.length + S.T.length + (S.G ++ [_]).length + S.B.length<=i + 1; rw [List.length_append,List.length_singleton]; omega,by show (S.L ++ [_]).length<=i + 1; rw [List.length_append,List.length_singleton]; omega⟩
  ·show (nms S.P ++ nms (S.G ++ _)).Nodup
   rw [e,<- List.append_assoc]
   have:=nd_mid (a:=nms S.P ++ nms S.G) (b:=[]) (z:=z) (by rw [List.append_nil]; exact h.nd) (by rw [List.append_nil]; exact nz)
   rwa [List.append_nil] at this
  ·show ∀ y ∈ nms S.P ++ nms (S.G ++ _),y ∈ S.L ++ [z]
   rw [e]
   intro y hy
   rw [List.mem_append,List.mem_append] at hy
   rcases hy with hy | hy | hy
   ·exact List.mem_append_left _ (h.sn y (List.mem_append_left _ hy))
   ·exact List.mem_append_left _ (h.sn y (List.mem_append_right _ hy))
   ·exact List.mem_append_right _ hy
 | 4,_=>
  refine ⟨h.okP,h.okT,h.okG,fun r hr=>?_,h.lT,Nat.le_refl _,h.nd,h.sn,?_,Nat.le_succ_of_le h.lL⟩
  ·rw [List.mem_singleton.mp hr]; exact ⟨⟨Nat.lt_of_sub_eq_succ rfl,hz⟩,rfl⟩
  ·show S.P.length + S.T.length + S.G.length + 1<=i + 1
   omega
def FS.rows (S:FS):List Rw:=S.P ++ S.T ++ S.G ++ S.B
theorem FM.valid {i:Nat} {S:FS} {bars:List Str} (h:FM i S) (hi:i<=24) (lb:bars.length<=60) (bn:∀ z ∈ bars,nameB z = true) (bd:bars.Nodup) (bl:∀ z ∈ bars,z ∉ S.L):Valid S.rows bars:=by
 have en:nms S.rows = nms S.P ++ nms S.G:=by
  unfold FS.rows
  rw [nms_app,nms_app,nms_app,nms_nil h.okT rfl,nms_nil h.okB rfl,List.append_nil,List.append_nil]
 refine ⟨fun r hr=>?_,?_,lb,?_,bn,?_⟩
 ·unfold FS.rows at hr
  rw [List.mem_append,List.mem_append,List.mem_append] at hr
  rcases hr with ((hr | hr) | hr) | hr
  ·exact (h.okP r hr).1
  ·exact (h.okT r hr).1
  ·exact (h.okG r hr).1
  ·exact (h.okB r hr).1
 ·unfold FS.rows
  have:=h.ln
  simp only [List.length_append]
  omega
 ·unfold FS.rows
  rw [List.append_assoc,List.append_assoc]
  exact ord_all (fun r hr=>(h.okP r hr).2) (fun r hr=>(h.okT r hr).2) h.lT (fun r hr=>(h.okG r hr).2) (fun r hr=>(h.okB r hr).2) h.lB
 ·rw [en]
  exact List.nodup_append.mpr ⟨h.nd,bd,fun x hx y hy e=>bl y hy (e ▸ h.sn x hx)⟩
theorem TAt.keep {H:Hp} {v D:Addr} {r:Rw} {o:HO} (h:TAt H v r) (hD:∀ vs,H D ≠ some (.tup vs)):TAt (upd H D o) v r:=by
 show upd H D o v = _
 rw [upd_ne (fun e=>by subst e; exact hD _ h)]
 exact h
def LsAt (H:Hp) (l:Addr) (rows:List Rw):Prop:=∃ us:List Addr,H l = some (.lst (us.map V.ref))/\Paired (TAt H) us rows
theorem LsAt.same {H H':Hp} {l:Addr} {rows:List Rw} (h:LsAt H l rows) (s:Same H H'):LsAt H' l rows:=let ⟨us,h1,h2⟩:=h; ⟨us,s _ _ h1,tats_same s h2⟩
theorem LsAt.keep {H:Hp} {l D:Addr} {rows:List Rw} {o:HO} (h:LsAt H l rows) (ne:l ≠ D) (hD:∀ vs,H D ≠ some (.tup vs)):LsAt (upd H D o) l rows:=
 let ⟨us,h1,h2⟩:=h
 ⟨us,by rw [upd_ne ne]; exact h1,Paired.imp' (fun _ _ z=>z.keep hD) h2⟩
theorem LsAt.snoc {H:Hp} {l u:Addr} {rows:List Rw} {r:Rw} {us:List Addr} (h1:H l = some (.lst (us.map V.ref))) (h2:Paired (TAt H) us rows) (hu:TAt H u r):LsAt (upd H l (.lst (us.map V.ref ++ [.ref u]))) l (rows ++ [r]):=by
 have hD:∀ vs,H l ≠ some (.tup vs):=fun vs e=>by rw [h1] at e; cases e
 refine ⟨us ++ [u],by rw [upd_same,List.map_append]; rfl,Paired.snoc (Paired.imp' (fun _ _ z=>z.keep hD) h2) (hu.keep hD)⟩
structure FI (H H':Hp) (lg g0 g1 g2 g3 ll:Addr) (S:FS):Prop where
 sm:Same H H'
 gg:H' lg = some (.lst [.ref g0,.ref g1,.ref g2,.ref g3])
 h0:LsAt H' g0 S.P
 h1:LsAt H' g1 S.T
 h2:LsAt H' g2 S.G
 h3:LsAt H' g3 S.B
 hl:H' ll = some (.lst (S.L.map V.str))
 nd:[lg,g0,g1,g2,g3,ll].Nodup
 fr:∀ x ∈ [lg,g0,g1,g2,g3,ll],H x = none
section
variable {H H' H'':Hp} {lg g0 g1 g2 g3 ll u:Addr} {S:FS} {r:Rw} {z:Str} {b:Bool} {us:List Addr}
theorem FI.same (h:FI H H' lg g0 g1 g2 g3 ll S) (s:Same H' H''):FI H H'' lg g0 g1 g2 g3 ll S:=⟨h.sm.trans s,s _ _ h.gg,h.h0.same s,h.h1.same s,h.h2.same s,h.h3.same s,s _ _ h.hl,h.nd,h.fr⟩
theorem FI.smU (h:FI H H' lg g0 g1 g2 g3 ll S) {l:Addr} (hl:H l = none) {o:HO}:Same H (upd H' l o):=fun b u e=>by rw [upd_ne (ne_of_none e hl)]; exact h.sm _ _ e
theorem FI.ne (h:FI H H' lg g0 g1 g2 g3 ll S):lg ≠ g0/\lg ≠ g1/\lg ≠ g2/\lg ≠ g3/\lg ≠ ll/\g0 ≠ g1/\g0 ≠ g2/\g0 ≠ g3/\g0 ≠ ll/\g1 ≠ g2/\g1 ≠ g3/\g1 ≠ ll/\g2 ≠ g3/\g2 ≠ ll/\g3 ≠ ll:=by
 have:=h.nd
 simp only [List.nodup_cons,List.mem_cons,List.not_mem_nil,or_false,not_or] at this
 obtain ⟨⟨a1,a2,a3,a4,a5⟩,⟨b1,b2,b3,b4⟩,⟨c1,c2,c3⟩,⟨d1,d2⟩,e1,_⟩:=this
 exact ⟨a1,a2,a3,a4,a5,b1,b2,b3,b4,c1,c2,c3,d1,d2,e1⟩
theorem FI.addL (h:FI H H' lg g0 g1 g2 g3 ll S):FI H (upd H' ll (.lst (S.L.map V.str ++ [.str z]))) lg g0 g1 g2 g3 ll { S with L:=S.L ++ [z] }:=by
 have hD:∀ vs,H' ll ≠ some (.tup vs):=fun vs e=>by rw [h.hl] at e; cases e
 obtain ⟨a1,a2,a3,a4,a5,b1,b2,b3,b4,c1,c2,c3,d1,d2,e1⟩:=h.ne
 exact ⟨h.smU (h.fr ll (by simp)),by rw [upd_ne a5]; exact h.gg,h.h0.keep b4 hD,h.h1.keep c3 hD,h.h2.keep d2 hD,h.h3.keep e1 hD,by rw [upd_same,List.map_append]; rfl,h.nd,h.fr⟩
theorem FI.add0 (h:FI H H' lg g0 g1 g2 g3 ll S) (hh:H' g0 = some (.lst (us.map V.ref))) (h2:Paired (TAt H') us S.P) (hu:TAt H' u r):FI H (upd H' g0 (.lst (us.map V.ref ++ [.ref u]))) lg g0 g1 g2 g3 ll { S with P:=S.P ++ [r] }:=by
 have hD:∀ vs,H' g0 ≠ some (.tup vs):=fun vs e=>by rw [hh] at e; cases e
 obtain ⟨a1,a2,a3,a4,a5,b1,b2,b3,b4,c1,c2,c3,d1,d2,e1⟩:=h.ne
 exact ⟨h.smU (h.fr g0 (by simp)),by rw [upd_ne a1]; exact h.gg,.snoc hh h2 hu,h.h1.keep b1.symm hD,h.h2.keep b2.symm hD,h.h3.keep b3.symm hD,by rw [upd_ne b4.symm]; exact h.hl,h.nd,h.fr⟩
theorem FI.add2 (h:FI H H' lg g0 g1 g2 g3 ll S) (hh:H' g2 = some (.lst (us.map V.ref))) (h2:Paired (TAt H') us S.G) (hu:TAt H' u r):FI H (upd H' g2 (.lst (us.map V.ref ++ [.ref u]))) lg g0 g1 g2 g3 ll { S with G:=S.G ++ [r] }:=by
 have hD:∀ vs,H' g2 ≠ some (.tup vs):=fun vs e=>by rw [hh] at e; cases e
 obtain ⟨a1,a2,a3,a4,a5,b1,b2,b3,b4,c1,c2,c3,d1,d2,e1⟩:=h.ne
 exact ⟨h.smU (h.fr g2 (by simp)),by rw [upd_ne a3]; exact h.gg,h.h0.keep b2 hD,h.h1.keep c1 hD,.snoc hh h2 hu,h.h3.keep d1.symm hD,by rw [upd_ne d2.symm]; exact h.hl,h.nd,h.fr⟩
theorem FI.add1 (h:FI H H' lg g0 g1 g2 g3 ll S) (hT:S.T = []) (hu:TAt H' u r):FI H (upd H' g1 (.lst [.ref u])) lg g0 g1 g2 g3 ll { S with T:=[r] }:=by
 obtain ⟨us,hh,h2⟩:=h.h1
 rw [hT] at h2
 cases h2
 have hD:∀ vs,H' g1 ≠ some (.tup vs):=fun vs e=>by rw [hh] at e; cases e
 obtain ⟨a1,a2,a3,a4,a5,b1,b2,b3,b4,c1,c2,c3,d1,d2,e1⟩:=h.ne
 have sn:=LsAt.snoc hh .nil hu
 exact ⟨h.smU (h.fr g1 (by simp)),by rw [upd_ne a2]; exact h.gg,h.h0.keep b1 hD,sn,h.h2.keep c1.symm hD,h.h3.keep c2.symm hD,by rw [upd_ne c3.symm]; exact h.hl,h.nd,h.fr⟩
theorem FI.add3 (h:FI H H' lg g0 g1 g2 g3 ll S) (hT:S.B = []) (hu:TAt H' u r):FI H (upd H' g3 (.lst [.ref u])) lg g0 g1 g2 g3 ll { S with B:=[r] }:=by
 obtain ⟨us,hh,h2⟩:=h.h3
 rw [hT] at h2
 cases h2
 have hD:∀ vs,H' g3 ≠ some (.tup vs):=fun vs e=>by rw [hh] at e; cases e
 obtain ⟨a1,a2,a3,a4,a5,b1,b2,b3,b4,c1,c2,c3,d1,d2,e1⟩:=h.ne
 have sn:=LsAt.snoc hh .nil hu
 exact ⟨h.smU (h.fr g3 (by simp)),by rw [upd_ne a4]; exact h.gg,h.h0.keep b3 hD,h.h1.keep c2 hD,h.h2.keep d1 hD,sn,by rw [upd_ne e1.symm]; exact h.hl,h.nd,h.fr⟩
end
structure VR (rows:List Rw):Prop where
 ok:∀ r ∈ rows,r.ok
 l24:rows.length<=24
 ord:ordOk 0 rows = true
 nd:(nms rows).Nodup
theorem FM.vr {i:Nat} {S:FS} (h:FM i S) (hi:i<=24):VR S.rows:=by
 have v:=h.valid (bars:=[]) hi (Nat.zero_le _) (fun _ h=>nomatch h) List.nodup_nil (fun _ h=>nomatch h)
 exact ⟨v.ok,v.l24,v.ord,by have:=v.nd; rwa [List.append_nil] at this⟩
def spSpecs (K:PySem.W.Frag):Sp:=fun vs H Q _=>∃ (a pa:Addr) (cs:List Int) (zs:List Str),vs = [.ref a,.ref pa]/\SqL K H a (cs.map V.int)/\cs.length<=20/\H pa = some (.lst (zs.map V.str))/\0 < zs.length/\(∀ z ∈ zs,nameB z = true)/\
 ∀ (la:Addr) (us:List Addr) (rows:List Rw) (H':Hp),Same H H'->H la = none->H' la = some (.lst (us.map V.ref))->Paired (TAt H') us rows->VR rows->Q (.ref la) H'
section
variable {P:Program} {w:World} {K:PySem.W.Frag} {mg:Str->Option Value} {base:Heap} {f:Addr} {fd:FuncData}
theorem scSpecs:FnScope ["_law_cells","_law_pool_here","_law_groups","_law_seen","_law_cell","_law_kind","_law_name","_law_loose"] ["_law_cells","_law_pool_here"] (defScope sSpecs):=⟨rfl,rfl,rfl,by decide +kernel,rfl,by decide +kernel,by decide +kernel⟩
theorem ok_specs (F:Fun K "_law_specs" "_law_specs" sSpecs f fd) (T:TxtL mg):FnOk P w K mg base CX0 1 f fd ["_law_cells","_law_pool_here"] (spSpecs K):=by
 refine F.ok scSpecs (fun vs H Q E h=>?_) (fun cdv A outer s H vs Q E hr h=>?_)
 ·obtain ⟨a,pa,cs,zs,rfl,_⟩:=h
  rfl
 obtain ⟨a,pa,cs,zs,rfl,hS,l20,hpa,z0,hzn,q⟩:=h
 have hU:=hr.units
 have hU0:=hr.units0
 refine ⟨_,pss_cons (ps_set (i:=2) scSpecs.nd rfl (Or.inl rfl) (pe_lst (ac (pe_lst pa_nil) (ac (pe_lst pa_nil) (ac (pe_lst pa_nil) (ac (pe_lst pa_nil) pa_nil))))))
  (pss_cons (ps_set (i:=3) scSpecs.nd rfl (Or.inl rfl) (pe_lst pa_nil))
  (pss_cons (ps_for PassesOwn.never rfl (pi_list (pv 0)) (pg_name (i:=4) scSpecs.nd rfl (Or.inl rfl))
   (pss_cons (ps_set (i:=5) scSpecs.nd rfl (Or.inl rfl) (pe_op op_mod (pv 4) pe_int))
   (pss_cons (ps_set (i:=6) scSpecs.nd rfl (Or.inl rfl) (pe_ix ix_list (pv 1) (pe_op op_mod (pe_op op_fdiv (pv 4) pe_int) (cB call_len_seq T.len PySem.boot_len (ac (pv 1) pa_nil))) (fun _ _=>rfl)))
   (pss_cons (ps_set (i:=7) scSpecs.nd rfl (Or.inl rfl) (pe_cmpR op_eq (pe_op op_mod (pe_op op_fdiv (pv 4) pe_int) pe_int) pe_int (nomark _)))
   (pss_one (ps_if (pt_cmpR op_lt (pv 5) pe_int (nomark _)) (pss_one (ps_expr (pe_bm PySem.F.plainAttrs_list PySem.F.slot_list_append PySem.F.type_list_append mt_append (pe_ix ix_list (pv 2) pe_int (fun _ _=>rfl)) (ac (pe_tup (ac pe_str (ac (pv 6) (ac (pv 7) pa_nil)))) pa_nil))))
    (pss_one (ps_if (PW.pt (pw_and (pt_cmpR op_eq (pv 5) pe_int (nomark _)) (pw_and1 (pt_cmpR (OpR.or (op_eqS hU) (op_eqLen hU0)) (pe_ix ix_list (pv 2) pe_int (fun _ _=>rfl)) (pe_lst pa_nil) (nomark _))))) (pss_one (ps_expr (pe_bm PySem.F.plainAttrs_list PySem.F.slot_list_append PySem.F.type_list_append mt_append (pe_ix ix_list (pv 2) pe_int (fun _ _=>rfl)) (ac (pe_tup (ac pe_str (ac (pv 6) pa_nil))) pa_nil))))
     (pss_one (ps_if (PW.pt (pw_and (pt_cmpR op_eq (pv 5) pe_int (nomark _)) (pw_and1 (pt_cmpR (OpR.or (op_eqS hU) (op_eqLen hU0)) (pe_ix ix_list (pv 2) pe_int (fun _ _=>rfl)) (pe_lst pa_nil) (nomark _))))) (pss_one (ps_expr (pe_bm PySem.F.plainAttrs_list PySem.F.slot_list_append PySem.F.type_list_append mt_append (pe_ix ix_list (pv 2) pe_int (fun _ _=>rfl)) (ac (pe_tup (ac pe_str (ac (pv 6) pa_nil))) pa_nil))))
      (pss_one (ps_if (PW.pt (pw_and (pt_cmpR op_in_seq (pv 5) (pe_tup (ac pe_int (ac pe_int (ac pe_int pa_nil)))) (by with_unfolding_all rfl)) (pw_and1 (pt_cmpR op_notIn_seq (pv 6) (pv 3) (by with_unfolding_all rfl))))) (pss_cons (ps_expr (pe_bm PySem.F.plainAttrs_list PySem.F.slot_list_append PySem.F.type_list_append mt_append (pe_ix ix_list (pv 2) pe_int (fun _ _=>rfl)) (ac (pe_tup (ac pe_str (ac (pv 6) (ac (pv 7) pa_nil)))) pa_nil))) (pss_one (ps_expr (pe_bm PySem.F.plainAttrs_list PySem.F.slot_list_append PySem.F.type_list_append mt_append (pv 3) (ac (pv 6) pa_nil)))))
       (pss_one (ps_if (PW.pt (pw_and (pt_cmpR op_in_seq (pv 5) (pe_tup (ac pe_int (ac pe_int pa_nil))) (by with_unfolding_all rfl)) (pw_and1 (pt_cmpR op_notIn_seq (pv 6) (pv 3) (by with_unfolding_all rfl))))) (pss_cons (ps_expr (pe_bm PySem.F.plainAttrs_list PySem.F.slot_list_append PySem.F.type_list_append mt_append (pe_ix ix_list (pv 2) pe_int (fun _ _=>rfl)) (ac (pe_tup (ac pe_str (ac (pv 6) (ac (pv 7) pa_nil)))) pa_nil))) (pss_one (ps_expr (pe_bm PySem.F.plainAttrs_list PySem.F.slot_list_append PySem.F.type_list_append mt_append (pv 3) (ac (pv 6) pa_nil))))) pss_nil))))))))))))))
  (pss_one (ps_ret (pe_op op_cat (pe_op op_cat (pe_op op_cat (pe_ix ix_list (pv 2) pe_int (fun _ _=>rfl)) (pe_ix ix_list (pv 2) pe_int (fun _ _=>rfl))) (pe_ix ix_list (pv 2) pe_int (fun _ _=>rfl))) (pe_ix ix_list (pv 2) pe_int (fun _ _=>rfl))))))),?_⟩
 refine ⟨(by show 0<=sizeLine; decide),fun g0 h0=>?_⟩
 have s0:=same_new h0 (.lst [])
 have e0:upd H g0 (.lst []) g0 = some (.lst []):=upd_same
 generalize upd H g0 (.lst []) = H0 at s0 e0 |-
 refine ⟨(by show 0<=sizeLine; decide),fun g1 h1=>?_⟩
 have s1:=same_new h1 (.lst [])
 have e1:upd H0 g1 (.lst []) g1 = some (.lst []):=upd_same
 generalize upd H0 g1 (.lst []) = H1 at s1 e1 |-
 refine ⟨(by show 0<=sizeLine; decide),fun g2 h2=>?_⟩
 have s2:=same_new h2 (.lst [])
 have e2:upd H1 g2 (.lst []) g2 = some (.lst []):=upd_same
 generalize upd H1 g2 (.lst []) = H2 at s2 e2 |-
 refine ⟨(by show 0<=sizeLine; decide),fun g3 h3=>?_⟩
 have s3:=same_new h3 (.lst [])
 have e3:upd H2 g3 (.lst []) g3 = some (.lst []):=upd_same
 generalize upd H2 g3 (.lst []) = H3 at s3 e3 |-
 refine ⟨(by show 4<=sizeLine; decide),fun lg h4=>?_⟩
 have s4:=same_new h4 (.lst [.ref g0,.ref g1,.ref g2,.ref g3])
 have e4:upd H3 lg (.lst [.ref g0,.ref g1,.ref g2,.ref g3]) lg = some (.lst [.ref g0,.ref g1,.ref g2,.ref g3]):=upd_same
 dsimp only [gName]
 generalize upd H3 lg (.lst [.ref g0,.ref g1,.ref g2,.ref g3]) = H4 at s4 e4 |-
 refine ⟨(by show 0<=sizeLine; decide),fun ll h5=>?_⟩
 have s5:=same_new h5 (.lst [])
 have e5:upd H4 ll (.lst []) ll = some (.lst []):=upd_same
 dsimp only [gName]
 generalize upd H4 ll (.lst []) = H5 at s5 e5 |-
 have s01:=s0.trans s1
 have s02:=s01.trans s2
 have s03:=s02.trans s3
 have s04:=s03.trans s4
 have I0:FI H H5 lg g0 g1 g2 g3 ll ⟨[],[],[],[],[]⟩:=by
  have s15:=s2.trans (s3.trans (s4.trans s5))
  refine ⟨s04.trans s5,s5 _ _ e4,⟨[],s15 _ _ (s1 _ _ e0),.nil⟩,⟨[],s15 _ _ e1,.nil⟩,⟨[],s5 _ _ (s4 _ _ (s3 _ _ e2)),.nil⟩,⟨[],s5 _ _ (s4 _ _ e3),.nil⟩,e5,?_,?_⟩
  ·simp only [List.nodup_cons,List.mem_cons,List.not_mem_nil,or_false,not_or,List.nodup_nil,not_false_iff,and_true]
   exact ⟨⟨(ne_of_none (s3 _ _ (s2 _ _ (s1 _ _ e0))) h4).symm,(ne_of_none (s3 _ _ (s2 _ _ e1)) h4).symm,(ne_of_none (s3 _ _ e2) h4).symm,(ne_of_none e3 h4).symm,ne_of_none e4 h5⟩,⟨ne_of_none e0 h1,ne_of_none (s1 _ _ e0) h2,ne_of_none (s2 _ _ (s1 _ _ e0)) h3,ne_of_none (s4 _ _ (s3 _ _ (s2 _ _ (s1 _ _ e0)))) h5⟩,⟨ne_of_none e1 h2,ne_of_none (s2 _ _ e1) h3,ne_of_none (s4 _ _ (s3 _ _ (s2 _ _ e1))) h5⟩,⟨ne_of_none e2 h3,ne_of_none (s4 _ _ (s3 _ _ e2)) h5⟩,ne_of_none (s4 _ _ e3) h5⟩
  ·intro x hx
   simp only [List.mem_cons,List.not_mem_nil,or_false] at hx
   rcases hx with rfl | rfl | rfl | rfl | rfl | rfl
   ·exact s03.free h4
   ·exact h0
   ·exact s0.free h1
   ·exact s01.free h2
   ·exact s02.free h3
   ·exact s04.free h5
 have lz:((zs.map V.str).length:Int) = (zs.length:Int):=by rw [List.length_map]
 refine ⟨_,rfl,a,rfl,⟨_,I0.sm.seq hS⟩,for_list (K:=K) (a:=a) (xs:=cs.map V.int) (fun i σ H'=>∃ (S:FS) (v4 v5 v6 v7:Option V),σ = [some (.ref a),some (.ref pa),some (.ref lg),some (.ref ll),v4,v5,v6,v7]/\FI H H' lg g0 g1 g2 g3 ll S/\FM i S)
  ⟨_,_,_,_,_,rfl,I0,FM.zero⟩ (fun i σ H' _ ⟨_,_,_,_,_,_,h,_⟩=>h.sm.seq hS) ?_ ?_⟩
 ·rintro i x σ H6 hx ⟨S,v4,v5,v6,v7,rfl,I6,M6⟩
  obtain ⟨n,hn,rfl⟩:∃ n,cs[i]? = some n/\x = .int n:=by
   rw [List.getElem?_map] at hx
   cases e:cs[i]? with
   | none=>rw [e] at hx; cases hx
   | some n=>rw [e] at hx; cases hx; exact ⟨n,rfl,rfl⟩
  have hi:i < cs.length:=(List.getElem?_eq_some_iff.mp hn).1
  refine ⟨_,rfl,_,_,rfl,rfl,(by show (0:Int) < 9; decide),?_⟩
  have d0 : 0<=n / 9 % (zs.length:Int):=Int.emod_nonneg _ (by omega)
  have d1:n / 9 % (zs.length:Int) < (zs.length:Int):=Int.emod_lt_of_pos _ (by omega)
  obtain ⟨j,hj⟩:=Int.eq_ofNat_of_zero_le d0
  have hjl:j < zs.length:=by omega
  have hpa6:=I6.sm _ _ hpa
  refine ⟨_,rfl,_,rfl,_,_,rfl,rfl,⟨by decide,by decide⟩,_,rfl,pa,_,rfl,.inl (SqL.of hpa6),_,_,rfl,rfl,(by rw [lz]; omega),pa,_,_,.str zs[j],rfl,rfl,SqL.of hpa6,(by rw [lz,hj]; exact atI_nat (by rw [List.getElem?_map,List.getElem?_eq_getElem hjl]; rfl)),?_⟩
  have hz:=hzn _ (List.getElem_mem hjl)
  generalize zs[j] = z at hz |-
  refine ⟨_,rfl,_,_,rfl,rfl,⟨by decide,by decide⟩,_,_,rfl,rfl,(by show (0:Int) < 2; decide),rfl,?_⟩
  dsimp only [gName]
  generalize decide (V.int (n / 108 % 2) = V.int 1) = fb
  have lnS:=M6.ln
  have lL:=M6.lL
  have skip:∀ {H':Hp},FI H H' lg g0 g1 g2 g3 ll S->∃ (S:FS) (v4 v5 v6 v7:Option V),([some (.ref a),some (.ref pa),some (.ref lg),some (.ref ll),some (.int n),some (.int (n % 9)),some (.str z),some (.bl fb)]:L2.St) = [some (.ref a),some (.ref pa),some (.ref lg),some (.ref ll),v4,v5,v6,v7]/\FI H H' lg g0 g1 g2 g3 ll S/\FM (i + 1) S:=fun I=>⟨S,_,_,_,_,rfl,I,⟨M6.okP,M6.okT,M6.okG,M6.okB,M6.lT,M6.lB,M6.nd,M6.sn,Nat.le_succ_of_le M6.ln,Nat.le_succ_of_le M6.lL⟩⟩
  have fin:∀ {k:Nat} {H':Hp} {b:Bool},FI H H' lg g0 g1 g2 g3 ll (S.add k z b)->k < 5->(byNm k = true->z ∉ S.L)->∃ (S:FS) (v4 v5 v6 v7:Option V),([some (.ref a),some (.ref pa),some (.ref lg),some (.ref ll),some (.int n),some (.int (n % 9)),some (.str z),some (.bl fb)]:L2.St) = [some (.ref a),some (.ref pa),some (.ref lg),some (.ref ll),v4,v5,v6,v7]/\FI H H' lg g0 g1 g2 g3 ll S/\FM (i + 1) S:=fun {k H' b} I hk hn'=>⟨S.add k z b,_,_,_,_,rfl,I,M6.add hk hz hn'⟩
  refine ⟨_,rfl,_,_,rfl,rfl,_,rfl,?_⟩
  refine ite2 (fun _=>?_) (fun _=>?_)
  ·obtain ⟨us,w1,w2⟩:=I6.h0
   have hlu:us.length<=24:=by rw [w2.length]; omega
   refine ⟨_,rfl,lg,_,0,.ref g0,rfl,rfl,SqL.of I6.gg,rfl,.inl ⟨rfl,_,SqL.of w1⟩,_,rfl,_,rfl,(by show 3<=sizeLine; decide),fun u hu=>?_⟩
   have s7:=same_new hu (.tup [.str "seat",.str z,.bl fb])
   have tu:TAt (upd H6 u (.tup [.str "seat",.str z,.bl fb])) u ⟨0,z,fb⟩:=upd_same
   refine ⟨g0,_,_,rfl,rfl,s7 _ _ w1,small1000 (by rw [List.length_map]; omega),?_⟩
   exact fin (k:=0) ((I6.same s7).add0 (s7 _ _ w1) (tats_same s7 w2) tu) (by decide) (fun e=>by cases e)
  rename_i hlt
  have hge:¬ n % 9 < 2:=fun e=>hlt (decide_eq_true e)
  have hcase:n % 9 = 2\/n % 9 = 3\/n % 9 = 4\/n % 9 = 5\/n % 9 = 6\/n % 9 = 7\/n % 9 = 8:=by omega
  rcases hcase with hv | hv | hv | hv | hv | hv | hv
  ·
   refine ⟨_,rfl,rfl,_,rfl,?_⟩
   refine dF (fun e'=>by have:=V.int.inj e'; omega) ?_
   refine iteF ?_
   refine ⟨_,rfl,rfl,_,rfl,?_⟩
   refine dF (fun e'=>by have:=V.int.inj e'; omega) ?_
   refine iteF ?_
   refine ⟨_,rfl,(by show 3<=sizeLine; decide),fun tH7 htH7=>?_⟩
   have sH7:=same_new htH7 (.tup [.int 2,.int 3,.int 4])
   have I7:=I6.same sH7
   refine ⟨tH7,_,rfl,.inr (SqT.of upd_same),rfl,rfl,_,rfl,?_⟩
   generalize upd H6 tH7 (.tup [.int 2,.int 3,.int 4]) = H7 at sH7 I7 |-
   refine iteB (by rw [if_neg Bool.false_ne_true,hv]; decide +kernel) ?_
   refine ⟨_,rfl,_,rfl,ll,_,rfl,.inl (SqL.of I7.hl),rfl,flatStrs,_,rfl,?_⟩
   by_cases hm:z ∈ S.L
   ·refine iteC (by rw [if_pos rfl,inStrs,decide_eq_true hm]; rfl) ?_
    refine ⟨_,rfl,(by show 2<=sizeLine; decide),fun tH8 htH8=>?_⟩
    have sH8:=same_new htH8 (.tup [.int 6,.int 7])
    have I8:=I7.same sH8
    refine ⟨tH8,_,rfl,.inr (SqT.of upd_same),rfl,rfl,_,rfl,?_⟩
    generalize upd H7 tH8 (.tup [.int 6,.int 7]) = H8 at sH8 I8 |-
    refine iteC (by rw [if_neg Bool.false_ne_true,hv]; decide +kernel) ?_
    refine iteF ?_
    exact skip I8
   refine iteB (by rw [if_pos rfl,inStrs,decide_eq_false hm]; rfl) ?_
   obtain ⟨us,w1,w2⟩:=I7.h0
   have hlu:us.length<=24:=by rw [w2.length]; omega
   refine ⟨_,rfl,lg,_,0,.ref g0,rfl,rfl,SqL.of I7.gg,rfl,.inl ⟨rfl,_,SqL.of w1⟩,_,rfl,_,rfl,(by show 3<=sizeLine; decide),fun u hu=>?_⟩
   have s9:=same_new hu (.tup [.str "both",.str z,.bl fb])
   have tu:TAt (upd H7 u (.tup [.str "both",.str z,.bl fb])) u ⟨1,z,fb⟩:=upd_same
   refine ⟨g0,_,_,rfl,rfl,s9 _ _ w1,small1000 (by rw [List.length_map]; omega),?_⟩
   have J:=(I7.same s9).add0 (s9 _ _ w1) (tats_same s9 w2) tu
   dsimp only [tNext]
   generalize upd (upd H7 u (.tup [.str "both",.str z,.bl fb])) g0 (.lst (us.map V.ref ++ [.ref u])) = HJ at J |-
   refine ⟨_,rfl,.inl ⟨rfl,_,SqL.of J.hl⟩,_,rfl,ll,_,_,rfl,rfl,J.hl,small1000 (by rw [List.length_map]; show S.L.length<=1000; omega),?_⟩
   exact fin (k:=1) J.addL (by decide) (fun _=>hm)
  ·
   refine ⟨_,rfl,rfl,_,rfl,?_⟩
   refine dF (fun e'=>by have:=V.int.inj e'; omega) ?_
   refine iteF ?_
   refine ⟨_,rfl,rfl,_,rfl,?_⟩
   refine dF (fun e'=>by have:=V.int.inj e'; omega) ?_
   refine iteF ?_
   refine ⟨_,rfl,(by show 3<=sizeLine; decide),fun tH7 htH7=>?_⟩
   have sH7:=same_new htH7 (.tup [.int 2,.int 3,.int 4])
   have I7:=I6.same sH7
   refine ⟨tH7,_,rfl,.inr (SqT.of upd_same),rfl,rfl,_,rfl,?_⟩
   generalize upd H6 tH7 (.tup [.int 2,.int 3,.int 4]) = H7 at sH7 I7 |-
   refine iteB (by rw [if_neg Bool.false_ne_true,hv]; decide +kernel) ?_
   refine ⟨_,rfl,_,rfl,ll,_,rfl,.inl (SqL.of I7.hl),rfl,flatStrs,_,rfl,?_⟩
   by_cases hm:z ∈ S.L
   ·refine iteC (by rw [if_pos rfl,inStrs,decide_eq_true hm]; rfl) ?_
    refine ⟨_,rfl,(by show 2<=sizeLine; decide),fun tH8 htH8=>?_⟩
    have sH8:=same_new htH8 (.tup [.int 6,.int 7])
    have I8:=I7.same sH8
    refine ⟨tH8,_,rfl,.inr (SqT.of upd_same),rfl,rfl,_,rfl,?_⟩
    generalize upd H7 tH8 (.tup [.int 6,.int 7]) = H8 at sH8 I8 |-
    refine iteC (by rw [if_neg Bool.false_ne_true,hv]; decide +kernel) ?_
    refine iteF ?_
    exact skip I8
   refine iteB (by rw [if_pos rfl,inStrs,decide_eq_false hm]; rfl) ?_
   obtain ⟨us,w1,w2⟩:=I7.h0
   have hlu:us.length<=24:=by rw [w2.length]; omega
   refine ⟨_,rfl,lg,_,0,.ref g0,rfl,rfl,SqL.of I7.gg,rfl,.inl ⟨rfl,_,SqL.of w1⟩,_,rfl,_,rfl,(by show 3<=sizeLine; decide),fun u hu=>?_⟩
   have s9:=same_new hu (.tup [.str "both",.str z,.bl fb])
   have tu:TAt (upd H7 u (.tup [.str "both",.str z,.bl fb])) u ⟨1,z,fb⟩:=upd_same
   refine ⟨g0,_,_,rfl,rfl,s9 _ _ w1,small1000 (by rw [List.length_map]; omega),?_⟩
   have J:=(I7.same s9).add0 (s9 _ _ w1) (tats_same s9 w2) tu
   dsimp only [tNext]
   generalize upd (upd H7 u (.tup [.str "both",.str z,.bl fb])) g0 (.lst (us.map V.ref ++ [.ref u])) = HJ at J |-
   refine ⟨_,rfl,.inl ⟨rfl,_,SqL.of J.hl⟩,_,rfl,ll,_,_,rfl,rfl,J.hl,small1000 (by rw [List.length_map]; show S.L.length<=1000; omega),?_⟩
   exact fin (k:=1) J.addL (by decide) (fun _=>hm)
  ·
   refine ⟨_,rfl,rfl,_,rfl,?_⟩
   refine dF (fun e'=>by have:=V.int.inj e'; omega) ?_
   refine iteF ?_
   refine ⟨_,rfl,rfl,_,rfl,?_⟩
   refine dF (fun e'=>by have:=V.int.inj e'; omega) ?_
   refine iteF ?_
   refine ⟨_,rfl,(by show 3<=sizeLine; decide),fun tH7 htH7=>?_⟩
   have sH7:=same_new htH7 (.tup [.int 2,.int 3,.int 4])
   have I7:=I6.same sH7
   refine ⟨tH7,_,rfl,.inr (SqT.of upd_same),rfl,rfl,_,rfl,?_⟩
   generalize upd H6 tH7 (.tup [.int 2,.int 3,.int 4]) = H7 at sH7 I7 |-
   refine iteB (by rw [if_neg Bool.false_ne_true,hv]; decide +kernel) ?_
   refine ⟨_,rfl,_,rfl,ll,_,rfl,.inl (SqL.of I7.hl),rfl,flatStrs,_,rfl,?_⟩
   by_cases hm:z ∈ S.L
   ·refine iteC (by rw [if_pos rfl,inStrs,decide_eq_true hm]; rfl) ?_
    refine ⟨_,rfl,(by show 2<=sizeLine; decide),fun tH8 htH8=>?_⟩
    have sH8:=same_new htH8 (.tup [.int 6,.int 7])
    have I8:=I7.same sH8
    refine ⟨tH8,_,rfl,.inr (SqT.of upd_same),rfl,rfl,_,rfl,?_⟩
    generalize upd H7 tH8 (.tup [.int 6,.int 7]) = H8 at sH8 I8 |-
    refine iteC (by rw [if_neg Bool.false_ne_true,hv]; decide +kernel) ?_
    refine iteF ?_
    exact skip I8
   refine iteB (by rw [if_pos rfl,inStrs,decide_eq_false hm]; rfl) ?_
   obtain ⟨us,w1,w2⟩:=I7.h0
   have hlu:us.length<=24:=by rw [w2.length]; omega
   refine ⟨_,rfl,lg,_,0,.ref g0,rfl,rfl,SqL.of I7.gg,rfl,.inl ⟨rfl,_,SqL.of w1⟩,_,rfl,_,rfl,(by show 3<=sizeLine; decide),fun u hu=>?_⟩
   have s9:=same_new hu (.tup [.str "both",.str z,.bl fb])
   have tu:TAt (upd H7 u (.tup [.str "both",.str z,.bl fb])) u ⟨1,z,fb⟩:=upd_same
   refine ⟨g0,_,_,rfl,rfl,s9 _ _ w1,small1000 (by rw [List.length_map]; omega),?_⟩
   have J:=(I7.same s9).add0 (s9 _ _ w1) (tats_same s9 w2) tu
   dsimp only [tNext]
   generalize upd (upd H7 u (.tup [.str "both",.str z,.bl fb])) g0 (.lst (us.map V.ref ++ [.ref u])) = HJ at J |-
   refine ⟨_,rfl,.inl ⟨rfl,_,SqL.of J.hl⟩,_,rfl,ll,_,_,rfl,rfl,J.hl,small1000 (by rw [List.length_map]; show S.L.length<=1000; omega),?_⟩
   exact fin (k:=1) J.addL (by decide) (fun _=>hm)
  ·
   refine ⟨_,rfl,rfl,_,rfl,?_⟩
   refine dT (congrArg V.int hv) ?_
   obtain ⟨us,w1,w2⟩:=I6.h1
   refine ⟨_,rfl,lg,_,1,.ref g1,rfl,rfl,SqL.of I6.gg,rfl,(by show 0<=sizeLine; decide),fun l0 hl0=>?_⟩
   have s7:=same_new hl0 (.lst [])
   have e7:upd H6 l0 (.lst []) l0 = some (.lst []):=upd_same
   have I7:=I6.same s7
   have w1:=s7 _ _ w1
   have w2:=tats_same s7 w2
   generalize upd H6 l0 (.lst []) = H7 at s7 e7 I7 w1 w2 |-
   by_cases hT:S.T = []
   ·rw [hT] at w2
    cases w2
    refine .inl ⟨g1,l0,0,.lst [],fun _=>True,fun _=>True,rfl,rfl,by decide,Says.lst True.intro w1 .nil,Says.lst True.intro e7 .nil,_,rfl,?_⟩
    refine iteT ?_
    refine ⟨_,rfl,lg,_,1,.ref g1,rfl,rfl,SqL.of I7.gg,rfl,.inl ⟨rfl,_,SqL.of w1⟩,_,rfl,(by show 2<=sizeLine; decide),fun u hu=>?_⟩
    have s9:=same_new hu (.tup [.str "tail",.str z])
    have tu:TAt (upd H7 u (.tup [.str "tail",.str z])) u ⟨2,z,fb⟩:=upd_same
    refine ⟨g1,_,_,rfl,rfl,s9 _ _ w1,small1000 (by show 0<=1000; decide),?_⟩
    exact fin (k:=2) ((I7.same s9).add1 hT tu) (by decide) (fun e=>by cases e)
   refine .inr ⟨g1,l0,_,_,rfl,rfl,w1,e7,(by rw [List.length_map,w2.length]; exact fun e=>hT (List.eq_nil_of_length_eq_zero e)),_,rfl,?_⟩
   refine iteF ?_
   refine ⟨_,rfl,rfl,_,rfl,?_⟩
   refine dF (fun e'=>by have:=V.int.inj e'; omega) ?_
   refine iteF ?_
   refine ⟨_,rfl,(by show 3<=sizeLine; decide),fun tH8 htH8=>?_⟩
   have sH8:=same_new htH8 (.tup [.int 2,.int 3,.int 4])
   have I8:=I7.same sH8
   refine ⟨tH8,_,rfl,.inr (SqT.of upd_same),rfl,rfl,_,rfl,?_⟩
   generalize upd H7 tH8 (.tup [.int 2,.int 3,.int 4]) = H8 at sH8 I8 |-
   refine iteC (by rw [if_neg Bool.false_ne_true,hv]; decide +kernel) ?_
   refine iteF ?_
   refine ⟨_,rfl,(by show 2<=sizeLine; decide),fun tH9 htH9=>?_⟩
   have sH9:=same_new htH9 (.tup [.int 6,.int 7])
   have I9:=I8.same sH9
   refine ⟨tH9,_,rfl,.inr (SqT.of upd_same),rfl,rfl,_,rfl,?_⟩
   generalize upd H8 tH9 (.tup [.int 6,.int 7]) = H9 at sH9 I9 |-
   refine iteC (by rw [if_neg Bool.false_ne_true,hv]; decide +kernel) ?_
   refine iteF ?_
   exact skip I9
  ·
   refine ⟨_,rfl,rfl,_,rfl,?_⟩
   refine dF (fun e'=>by have:=V.int.inj e'; omega) ?_
   refine iteF ?_
   refine ⟨_,rfl,rfl,_,rfl,?_⟩
   refine dF (fun e'=>by have:=V.int.inj e'; omega) ?_
   refine iteF ?_
   refine ⟨_,rfl,(by show 3<=sizeLine; decide),fun tH7 htH7=>?_⟩
   have sH7:=same_new htH7 (.tup [.int 2,.int 3,.int 4])
   have I7:=I6.same sH7
   refine ⟨tH7,_,rfl,.inr (SqT.of upd_same),rfl,rfl,_,rfl,?_⟩
   generalize upd H6 tH7 (.tup [.int 2,.int 3,.int 4]) = H7 at sH7 I7 |-
   refine iteC (by rw [if_neg Bool.false_ne_true,hv]; decide +kernel) ?_
   refine iteF ?_
   refine ⟨_,rfl,(by show 2<=sizeLine; decide),fun tH8 htH8=>?_⟩
   have sH8:=same_new htH8 (.tup [.int 6,.int 7])
   have I8:=I7.same sH8
   refine ⟨tH8,_,rfl,.inr (SqT.of upd_same),rfl,rfl,_,rfl,?_⟩
   generalize upd H7 tH8 (.tup [.int 6,.int 7]) = H8 at sH8 I8 |-
   refine iteB (by rw [if_neg Bool.false_ne_true,hv]; decide +kernel) ?_
   refine ⟨_,rfl,_,rfl,ll,_,rfl,.inl (SqL.of I8.hl),rfl,flatStrs,_,rfl,?_⟩
   by_cases hm:z ∈ S.L
   ·refine iteC (by rw [if_pos rfl,inStrs,decide_eq_true hm]; rfl) ?_
    exact skip I8
   refine iteB (by rw [if_pos rfl,inStrs,decide_eq_false hm]; rfl) ?_
   obtain ⟨us,w1,w2⟩:=I8.h2
   have hlu:us.length<=24:=by rw [w2.length]; omega
   refine ⟨_,rfl,lg,_,2,.ref g2,rfl,rfl,SqL.of I8.gg,rfl,.inl ⟨rfl,_,SqL.of w1⟩,_,rfl,_,rfl,(by show 3<=sizeLine; decide),fun u hu=>?_⟩
   have s9:=same_new hu (.tup [.str "tag",.str z,.bl fb])
   have tu:TAt (upd H8 u (.tup [.str "tag",.str z,.bl fb])) u ⟨3,z,fb⟩:=upd_same
   refine ⟨g2,_,_,rfl,rfl,s9 _ _ w1,small1000 (by rw [List.length_map]; omega),?_⟩
   have J:=(I8.same s9).add2 (s9 _ _ w1) (tats_same s9 w2) tu
   dsimp only [tNext]
   generalize upd (upd H8 u (.tup [.str "tag",.str z,.bl fb])) g2 (.lst (us.map V.ref ++ [.ref u])) = HJ at J |-
   refine ⟨_,rfl,.inl ⟨rfl,_,SqL.of J.hl⟩,_,rfl,ll,_,_,rfl,rfl,J.hl,small1000 (by rw [List.length_map]; show S.L.length<=1000; omega),?_⟩
   exact fin (k:=3) J.addL (by decide) (fun _=>hm)
  ·
   refine ⟨_,rfl,rfl,_,rfl,?_⟩
   refine dF (fun e'=>by have:=V.int.inj e'; omega) ?_
   refine iteF ?_
   refine ⟨_,rfl,rfl,_,rfl,?_⟩
   refine dF (fun e'=>by have:=V.int.inj e'; omega) ?_
   refine iteF ?_
   refine ⟨_,rfl,(by show 3<=sizeLine; decide),fun tH7 htH7=>?_⟩
   have sH7:=same_new htH7 (.tup [.int 2,.int 3,.int 4])
   have I7:=I6.same sH7
   refine ⟨tH7,_,rfl,.inr (SqT.of upd_same),rfl,rfl,_,rfl,?_⟩
   generalize upd H6 tH7 (.tup [.int 2,.int 3,.int 4]) = H7 at sH7 I7 |-
   refine iteC (by rw [if_neg Bool.false_ne_true,hv]; decide +kernel) ?_
   refine iteF ?_
   refine ⟨_,rfl,(by show 2<=sizeLine; decide),fun tH8 htH8=>?_⟩
   have sH8:=same_new htH8 (.tup [.int 6,.int 7])
   have I8:=I7.same sH8
   refine ⟨tH8,_,rfl,.inr (SqT.of upd_same),rfl,rfl,_,rfl,?_⟩
   generalize upd H7 tH8 (.tup [.int 6,.int 7]) = H8 at sH8 I8 |-
   refine iteB (by rw [if_neg Bool.false_ne_true,hv]; decide +kernel) ?_
   refine ⟨_,rfl,_,rfl,ll,_,rfl,.inl (SqL.of I8.hl),rfl,flatStrs,_,rfl,?_⟩
   by_cases hm:z ∈ S.L
   ·refine iteC (by rw [if_pos rfl,inStrs,decide_eq_true hm]; rfl) ?_
    exact skip I8
   refine iteB (by rw [if_pos rfl,inStrs,decide_eq_false hm]; rfl) ?_
   obtain ⟨us,w1,w2⟩:=I8.h2
   have hlu:us.length<=24:=by rw [w2.length]; omega
   refine ⟨_,rfl,lg,_,2,.ref g2,rfl,rfl,SqL.of I8.gg,rfl,.inl ⟨rfl,_,SqL.of w1⟩,_,rfl,_,rfl,(by show 3<=sizeLine; decide),fun u hu=>?_⟩
   have s9:=same_new hu (.tup [.str "tag",.str z,.bl fb])
   have tu:TAt (upd H8 u (.tup [.str "tag",.str z,.bl fb])) u ⟨3,z,fb⟩:=upd_same
   refine ⟨g2,_,_,rfl,rfl,s9 _ _ w1,small1000 (by rw [List.length_map]; omega),?_⟩
   have J:=(I8.same s9).add2 (s9 _ _ w1) (tats_same s9 w2) tu
   dsimp only [tNext]
   generalize upd (upd H8 u (.tup [.str "tag",.str z,.bl fb])) g2 (.lst (us.map V.ref ++ [.ref u])) = HJ at J |-
   refine ⟨_,rfl,.inl ⟨rfl,_,SqL.of J.hl⟩,_,rfl,ll,_,_,rfl,rfl,J.hl,small1000 (by rw [List.length_map]; show S.L.length<=1000; omega),?_⟩
   exact fin (k:=3) J.addL (by decide) (fun _=>hm)
  ·
   refine ⟨_,rfl,rfl,_,rfl,?_⟩
   refine dF (fun e'=>by have:=V.int.inj e'; omega) ?_
   refine iteF ?_
   refine ⟨_,rfl,rfl,_,rfl,?_⟩
   refine dT (congrArg V.int hv) ?_
   obtain ⟨us,w1,w2⟩:=I6.h3
   refine ⟨_,rfl,lg,_,3,.ref g3,rfl,rfl,SqL.of I6.gg,rfl,(by show 0<=sizeLine; decide),fun l0 hl0=>?_⟩
   have s7:=same_new hl0 (.lst [])
   have e7:upd H6 l0 (.lst []) l0 = some (.lst []):=upd_same
   have I7:=I6.same s7
   have w1:=s7 _ _ w1
   have w2:=tats_same s7 w2
   generalize upd H6 l0 (.lst []) = H7 at s7 e7 I7 w1 w2 |-
   by_cases hT:S.B = []
   ·rw [hT] at w2
    cases w2
    refine .inl ⟨g3,l0,0,.lst [],fun _=>True,fun _=>True,rfl,rfl,by decide,Says.lst True.intro w1 .nil,Says.lst True.intro e7 .nil,_,rfl,?_⟩
    refine iteT ?_
    refine ⟨_,rfl,lg,_,3,.ref g3,rfl,rfl,SqL.of I7.gg,rfl,.inl ⟨rfl,_,SqL.of w1⟩,_,rfl,(by show 2<=sizeLine; decide),fun u hu=>?_⟩
    have s9:=same_new hu (.tup [.str "bag",.str z])
    have tu:TAt (upd H7 u (.tup [.str "bag",.str z])) u ⟨4,z,fb⟩:=upd_same
    refine ⟨g3,_,_,rfl,rfl,s9 _ _ w1,small1000 (by show 0<=1000; decide),?_⟩
    exact fin (k:=4) ((I7.same s9).add3 hT tu) (by decide) (fun e=>by cases e)
   refine .inr ⟨g3,l0,_,_,rfl,rfl,w1,e7,(by rw [List.length_map,w2.length]; exact fun e=>hT (List.eq_nil_of_length_eq_zero e)),_,rfl,?_⟩
   refine iteF ?_
   refine ⟨_,rfl,(by show 3<=sizeLine; decide),fun tH8 htH8=>?_⟩
   have sH8:=same_new htH8 (.tup [.int 2,.int 3,.int 4])
   have I8:=I7.same sH8
   refine ⟨tH8,_,rfl,.inr (SqT.of upd_same),rfl,rfl,_,rfl,?_⟩
   generalize upd H7 tH8 (.tup [.int 2,.int 3,.int 4]) = H8 at sH8 I8 |-
   refine iteC (by rw [if_neg Bool.false_ne_true,hv]; decide +kernel) ?_
   refine iteF ?_
   refine ⟨_,rfl,(by show 2<=sizeLine; decide),fun tH9 htH9=>?_⟩
   have sH9:=same_new htH9 (.tup [.int 6,.int 7])
   have I9:=I8.same sH9
   refine ⟨tH9,_,rfl,.inr (SqT.of upd_same),rfl,rfl,_,rfl,?_⟩
   generalize upd H8 tH9 (.tup [.int 6,.int 7]) = H9 at sH9 I9 |-
   refine iteC (by rw [if_neg Bool.false_ne_true,hv]; decide +kernel) ?_
   refine iteF ?_
   exact skip I9
 ·rintro σ H6 ⟨S,v4,v5,v6,v7,rfl,I6,M6⟩
  rw [List.length_map] at M6
  have lnS:=M6.ln
  obtain ⟨u0,a0,b0⟩:=I6.h0
  obtain ⟨u1,a1,b1⟩:=I6.h1
  obtain ⟨u2,a2,b2⟩:=I6.h2
  obtain ⟨u3,a3,b3⟩:=I6.h3
  have c0:=b0.length
  have c1:=b1.length
  have c2:=b2.length
  have c3:=b3.length
  refine ⟨_,rfl,lg,_,0,.ref g0,rfl,rfl,SqL.of I6.gg,rfl,_,rfl,lg,_,1,.ref g1,rfl,rfl,SqL.of I6.gg,rfl,g0,g1,_,_,rfl,rfl,a0,a1,le1000 (by rw [List.length_map,List.length_map]; omega),fun p1 hp1=>?_⟩
  have t1:=same_new hp1 (.lst (u0.map V.ref ++ u1.map V.ref))
  have f1:upd H6 p1 (.lst (u0.map V.ref ++ u1.map V.ref)) p1 = some (.lst (u0.map V.ref ++ u1.map V.ref)):=upd_same
  generalize upd H6 p1 (.lst (u0.map V.ref ++ u1.map V.ref)) = H7 at t1 f1 |-
  refine ⟨_,rfl,lg,_,2,.ref g2,rfl,rfl,SqL.of (t1 _ _ I6.gg),rfl,p1,g2,_,_,rfl,rfl,f1,t1 _ _ a2,le1000 (by rw [List.length_append,List.length_map,List.length_map,List.length_map]; omega),fun p2 hp2=>?_⟩
  have t2:=same_new hp2 (.lst (u0.map V.ref ++ u1.map V.ref ++ u2.map V.ref))
  have f2:upd H7 p2 (.lst (u0.map V.ref ++ u1.map V.ref ++ u2.map V.ref)) p2 = some (.lst (u0.map V.ref ++ u1.map V.ref ++ u2.map V.ref)):=upd_same
  generalize upd H7 p2 (.lst (u0.map V.ref ++ u1.map V.ref ++ u2.map V.ref)) = H8 at t2 f2 |-
  have t12:=t1.trans t2
  refine ⟨_,rfl,lg,_,3,.ref g3,rfl,rfl,SqL.of (t12 _ _ I6.gg),rfl,p2,g3,_,_,rfl,rfl,f2,t12 _ _ a3,le1000 (by simp only [List.length_append,List.length_map]; omega),fun p3 hp3=>?_⟩
  have t3:=same_new hp3 (.lst (u0.map V.ref ++ u1.map V.ref ++ u2.map V.ref ++ u3.map V.ref))
  have t13:=t12.trans t3
  refine q p3 (u0 ++ u1 ++ u2 ++ u3) S.rows _ (I6.sm.trans t13) (I6.sm.free (t12.free hp3)) ?_ ?_ (M6.vr (by omega))
  ·rw [upd_same]
   simp only [List.map_append]
  ·have paired_app':∀ {α β : Type} {R : α->β->Prop} {a c:List α} {b d:List β},Paired R a b->Paired R c d->Paired R (a ++ c) (b ++ d):=by
    intro α β R a c b d h1 h2
    induction h1 with
    | nil=>exact h2
    | cons r t ih=>exact .cons r ih
   unfold FS.rows
   exact paired_app' (paired_app' (paired_app' (tats_same t13 b0) (tats_same t13 b1)) (tats_same t13 b2)) (tats_same t13 b3)
end
theorem row_at0 {r:Rw} (h:r.ok):atI (rv r) 0 = some (.str (kw r.k)):=by
 obtain ⟨k,z,b⟩:=r
 rcases lt5 h.1 with e | e | e | e | e <;> (cases e; rfl)
theorem row_at1 {r:Rw} (h:r.ok):atI (rv r) 1 = some (.str r.z):=by
 obtain ⟨k,z,b⟩:=r
 rcases lt5 h.1 with e | e | e | e | e <;> (cases e; rfl)
theorem in_nm' {k:Nat} (h:k < 5):inV (.str (kw k)) [.str "both",.str "tag"] = byNm k:=in_nm k h
theorem nms_zip {R:Addr->Rw->Prop} {us:List Addr} {rows:List Rw} (h:Paired R us rows):((us.zip rows).filter fun p=>byNm p.2.k).map (fun p=>V.str p.2.z) = (nms rows).map V.str:=by
 have:=zip_out h (fun r=>byNm r.k) (fun r=>V.str r.z)
 rw [this]
 unfold nms
 rw [List.map_map]
 rfl
def spLBars (K:PySem.W.Frag):Sp:=fun vs H Q _=>∃ (a pa la:Addr) (cs:List Int) (zs:List Str) (us:List Addr) (rows:List Rw),vs = [.ref a,.ref pa,.ref la]/\SqL K H a (cs.map V.int)/\cs.length<=20/\H pa = some (.lst (zs.map V.str))/\0 < zs.length/\(∀ z ∈ zs,nameB z = true)/\H la = some (.lst (us.map V.ref))/\Paired (TAt H) us rows/\VR rows/\
 ∀ (l:Addr) (bars:List Str) (H':Hp),Same H H'->H l = none->H' l = some (.lst (bars.map V.str))->Valid rows bars->Q (.ref l) H'
section
variable {P:Program} {w:World} {K:PySem.W.Frag} {mg:Str->Option Value} {base:Heap} {f:Addr} {fd:FuncData}
theorem ndOne:([Str.ofString "_law_one"]:List Str).Nodup:=by decide +kernel
theorem scLBars:FnScope ["_law_cells","_law_pool_here","_law_specs_here","_law_seen","_law_shut","_law_cell","_law_name"] ["_law_cells","_law_pool_here","_law_specs_here"] (defScope sBars):=⟨rfl,rfl,rfl,by decide +kernel,rfl,by decide +kernel,by decide +kernel⟩
theorem ok_lbars (F:Fun K "_law_bars" "_law_bars" sBars f fd) (T:TxtL mg):FnOk P w K mg base CX0 1 f fd ["_law_cells","_law_pool_here","_law_specs_here"] (spLBars K):=by
 refine F.ok scLBars (fun vs H Q E h=>?_) (fun cdv A outer s H vs Q E hr h=>?_)
 ·obtain ⟨a,pa,la,cs,zs,us,rows,rfl,_⟩:=h
  rfl
 obtain ⟨a,pa,la,cs,zs,us,rows,rfl,hS,l20,hpa,z0,hzn,hla,hu,V1,q⟩:=h
 refine ⟨_,pss_cons (ps_lc (i:=3) [] ["_law_one"] [none] scLBars.nd rfl (Or.inl rfl) rfl ⟨rfl,rfl,rfl,rfl⟩ (pi_list (pv 2)) (gown_name 0) rfl rfl rfl
   (fun pins fp s H C=>⟨pg_name (i:=0) ndOne rfl (Or.inl rfl) (.inr rfl),pif_one (pt_cmpR (r:=rIn K false) op_in_seq (pe_ix (r:=rIxT K) ix_tup (pv 0) pe_int (fun _ _=>rfl)) (pe_tup (ac pe_str (ac pe_str pa_nil))) (by with_unfolding_all rfl)),pe_ix (r:=rIxT K) ix_tup (pv 0) pe_int (fun _ _=>rfl)⟩))
  (pss_cons (ps_set (i:=4) scLBars.nd rfl (Or.inl rfl) (pe_lst pa_nil))
  (pss_cons (ps_for PassesOwn.never rfl (pi_list (pv 0)) (pg_name (i:=5) scLBars.nd rfl (Or.inl rfl))
   (pss_cons (ps_set (i:=6) scLBars.nd rfl (Or.inl rfl) (pe_ix ix_list (pv 1) (pe_op op_mod (pv 5) (cB call_len_seq T.len PySem.boot_len (ac (pv 1) pa_nil))) (fun _ _=>rfl)))
   (pss_one (ps_if (PW.pt (pw_and (pt_cmpR op_notIn_seq (pv 6) (pv 3) (by with_unfolding_all rfl)) (pw_and1 (pt_cmpR op_notIn_seq (pv 6) (pv 4) (by with_unfolding_all rfl))))) (pss_one (ps_expr (pe_bm PySem.F.plainAttrs_list PySem.F.slot_list_append PySem.F.type_list_append mt_append (pv 4) (ac (pv 6) pa_nil)))) pss_nil))))
  (pss_one (ps_ret (pv 4))))),?_⟩
 have l24:=V1.l24
 refine ⟨_,rfl,la,rfl,⟨_,SqL.of hla⟩,fun D hD=>?_⟩
 refine lc_zip (K:=K) TAt (fun r=>byNm r.k) (fun _ r=>.str r.z) hD hla hu (by omega) (fun i u r H' N S hu' hr' tr sH n1 s1=>?_) (fun H1 s1 hD1=>?_)
 ·have rk:=V1.ok r (List.mem_of_getElem? hr')
  have tu:=sH _ _ tr
  refine ⟨_,rfl,u,_,0,_,rfl,rfl,SqT.of tu,row_at0 rk,(by show 2<=sizeLine; decide),fun l hl=>?_⟩
  have s2:=same_new hl (.tup [.str "both",.str "tag"])
  refine ⟨l,_,rfl,.inr (SqT.of upd_same),rfl,rfl,_,rfl,?_⟩
  rw [if_neg Bool.false_ne_true,in_nm' rk.1]
  exact ⟨fun e=>⟨_,rfl,u,_,1,_,rfl,rfl,SqT.of (s2 _ _ tu),row_at1 rk,n1 _ s2 e⟩,fun e=>s1 _ s2 e⟩
 rw [nms_zip hu] at hD1
 refine ⟨(by show 0<=sizeLine; decide),fun fo hfo=>?_⟩
 have s2:=same_new hfo (.lst [])
 have g2:upd H1 fo (.lst []) fo = some (.lst []):=upd_same
 dsimp only [gName]
 generalize upd H1 fo (.lst []) = H2 at s2 g2 |-
 have s12:=s1.trans s2
 have nD:=s2 _ _ hD1
 have nfo:H fo = none:=s1.free hfo
 have neD:D ≠ fo:=ne_of_none hD1 hfo
 have lz:((zs.map V.str).length:Int) = (zs.length:Int):=by rw [List.length_map]
 refine ⟨_,rfl,a,rfl,⟨_,s12.seq hS⟩,for_list (K:=K) (a:=a) (xs:=cs.map V.int) (fun i σ H'=>∃ (bars:List Str) (v5 v6:Option V),σ = [some (.ref a),some (.ref pa),some (.ref la),some (.ref D),some (.ref fo),v5,v6]/\Same H H'/\H' D = some (.lst ((nms rows).map V.str))/\H' fo = some (.lst (bars.map V.str))/\bars.Nodup/\(∀ z ∈ bars,nameB z = true)/\(∀ z ∈ bars,z ∉ nms rows)/\bars.length<=i)
  ⟨[],_,_,rfl,s12,nD,g2,List.nodup_nil,(fun _ h=>nomatch h),(fun _ h=>nomatch h),Nat.le_refl _⟩ (fun i σ H' _ ⟨_,_,_,_,sH,_⟩=>sH.seq hS) ?_ ?_⟩
 ·rintro i x σ H3 hx ⟨bars,v5,v6,rfl,s3,eD,eF,nd,nm,nk,ln⟩
  obtain ⟨n,hn,rfl⟩:∃ n,cs[i]? = some n/\x = .int n:=by
   rw [List.getElem?_map] at hx
   cases e:cs[i]? with
   | none=>rw [e] at hx; cases hx
   | some n=>rw [e] at hx; cases hx; exact ⟨n,rfl,rfl⟩
  have hi:i < cs.length:=(List.getElem?_eq_some_iff.mp hn).1
  have d0 : 0<=n % (zs.length:Int):=Int.emod_nonneg _ (by omega)
  have d1:n % (zs.length:Int) < (zs.length:Int):=Int.emod_lt_of_pos _ (by omega)
  obtain ⟨j,hj⟩:=Int.eq_ofNat_of_zero_le d0
  have hjl:j < zs.length:=by omega
  have hpa3:=s3 _ _ hpa
  refine ⟨_,rfl,_,rfl,_,rfl,pa,_,rfl,.inl (SqL.of hpa3),_,_,rfl,rfl,(by rw [lz]; omega),pa,_,_,.str zs[j],rfl,rfl,SqL.of hpa3,(by rw [lz,hj]; exact atI_nat (by rw [List.getElem?_map,List.getElem?_eq_getElem hjl]; rfl)),?_⟩
  have hz:=hzn _ (List.getElem_mem hjl)
  generalize zs[j] = z at hz |-
  refine ⟨_,rfl,_,rfl,D,_,rfl,.inl (SqL.of eD),rfl,flatStrs,_,rfl,?_⟩
  by_cases hk:z ∈ nms rows
  ·refine iteC (by rw [if_pos rfl,inStrs,decide_eq_true hk]; rfl) ?_
   refine iteF ?_
   exact ⟨bars,_,_,rfl,s3,eD,eF,nd,nm,nk,Nat.le_succ_of_le ln⟩
  refine iteB (by rw [if_pos rfl,inStrs,decide_eq_false hk]; rfl) ?_
  refine ⟨_,rfl,_,rfl,fo,_,rfl,.inl (SqL.of eF),rfl,flatStrs,_,rfl,?_⟩
  by_cases hb:z ∈ bars
  ·refine iteC (by rw [if_pos rfl,inStrs,decide_eq_true hb]; rfl) ?_
   exact ⟨bars,_,_,rfl,s3,eD,eF,nd,nm,nk,Nat.le_succ_of_le ln⟩
  refine iteB (by rw [if_pos rfl,inStrs,decide_eq_false hb]; rfl) ?_
  refine ⟨_,rfl,.inl ⟨rfl,_,SqL.of eF⟩,_,rfl,fo,_,_,rfl,rfl,eF,small1000 (by rw [List.length_map]; omega),?_⟩
  refine ⟨bars ++ [z],_,_,rfl,fun b u e=>by rw [upd_ne (ne_of_none e nfo)]; exact s3 _ _ e,by rw [upd_ne neD]; exact eD,by rw [upd_same,List.map_append]; rfl,List.nodup_append.mpr ⟨nd,by simp,fun x hx y hy e=>hb (by rw [<- List.mem_singleton.mp hy,<- e]; exact hx)⟩,fun y hy=>?_,fun y hy=>?_,by rw [List.length_append]; exact Nat.succ_le_succ ln⟩
  ·rcases List.mem_append.mp hy with hy | hy
   ·exact nm y hy
   ·rw [List.mem_singleton.mp hy]; exact hz
  ·rcases List.mem_append.mp hy with hy | hy
   ·exact nk y hy
   ·rw [List.mem_singleton.mp hy]; exact hk
 ·rintro σ H3 ⟨bars,v5,v6,rfl,s3,eD,eF,nd,nm,nk,ln⟩
  rw [List.length_map] at ln
  exact ⟨_,rfl,q fo bars H3 s3 nfo eF ⟨V1.ok,V1.l24,by omega,V1.ord,nm,List.nodup_append.mpr ⟨V1.nd,nd,fun x hx y hy e=>nk y hy (e ▸ hx)⟩⟩⟩
def thingF (c:Int):Int:=if V.int (c % 2) = V.int 0 then c / 2 % 41 - 20 else c / 2 % (2 * 10 ^ (60:Int).toNat - 1) - (10 ^ (60:Int).toNat - 1)
def spThing:Sp:=fun vs H Q _=>∃ c:Int,vs = [.int c]/\Q (.int (thingF c)) H
theorem scThing:FnScope ["_law_cell"] ["_law_cell"] (defScope sThing):=⟨rfl,rfl,rfl,by decide +kernel,rfl,by decide +kernel,by decide +kernel⟩
theorem ok_thing (F:Fun K "_law_thing" "_law_thing" sThing f fd):FnOk P w K mg base CX0 1 f fd ["_law_cell"] spThing:=by
 refine F.ok scThing (fun vs H Q E h=>?_) (fun cdv A outer s H vs Q E hr h=>?_)
 ·obtain ⟨c,rfl,_⟩:=h
  rfl
 obtain ⟨c,rfl,q⟩:=h
 unfold thingF at q
 refine ⟨_,pss_cons (ps_if (pt_cmpR op_eq (pe_op op_mod (pv 0) pe_int) pe_int (nomark _)) (pss_one (ps_ret (pe_op op_sub (pe_op op_mod (pe_op op_fdiv (pv 0) pe_int) pe_int) pe_int))) pss_nil)
  (pss_one (ps_ret (pe_op op_sub (pe_op op_mod (pe_op op_fdiv (pv 0) pe_int) (pe_op op_sub (pe_op op_mul pe_int (pe_op op_pow pe_int pe_int)) pe_int)) (pe_op op_sub (pe_op op_pow pe_int pe_int) pe_int)))),?_⟩
 refine ⟨_,rfl,_,_,rfl,rfl,(by show (0:Int) < 2; decide),rfl,_,rfl,?_⟩
 refine ite2 (fun h=>?_) (fun h=>?_)
 ·rw [if_pos (of_decide_eq_true h)] at q
  exact ⟨_,rfl,_,_,rfl,rfl,⟨by decide,by decide⟩,_,_,rfl,rfl,(by show (0:Int) < 41; decide),_,_,rfl,rfl,q⟩
 ·rw [if_neg (fun z=>h (decide_eq_true z))] at q
  exact ⟨_,rfl,_,_,rfl,rfl,⟨by decide,by decide⟩,_,_,rfl,rfl,⟨by decide,by decide,by decide⟩,_,_,rfl,rfl,.inl ⟨by decide,by decide⟩,_,_,rfl,rfl,_,_,rfl,rfl,(by show (0:Int) < 2 * 10 ^ Int.toNat 60 - 1; decide +kernel),_,_,rfl,rfl,⟨by decide,by decide,by decide⟩,_,_,rfl,rfl,_,_,rfl,rfl,q⟩
def nmAt (zs:List Str) (i:Int):Str:=zs.getD (i % (zs.length:Int)).toNat ""
def rowF (rest:Int):List Int:=(List.range (rest % 5).toNat).map fun (k:Nat)=>thingF (rest + (k:Int) * (k:Int))
def namesF (zs:List Str) (rest:Int):List Str:=(List.range (rest % 4).toNat).map fun (k:Nat)=>nmAt zs (rest + (k:Int) * (1 + rest / 5 % 3))
def bookF (zs:List Str) (rest:Int):List (Str × Int):=(namesF zs rest).map fun z=>(z,thingF (rest / 5 + (z.length:Int)))
def itemF (zs:List Str) (c:Int):Item:=
 if c % 8 < 3 then .one (thingF (c / 8)) else if V.int (c % 8) = V.int 3 then .row (rowF (c / 8)) else if V.int (c % 8) = V.int 7 then .book (bookF zs (c / 8)) else .named (nmAt zs (c / 8)) (thingF (c / 8 / 3))
theorem nm_at {zs:List Str} (h : 0 < zs.length) (x:Int):atI (zs.map V.str) (x % ((zs.map V.str).length:Int)) = some (.str (nmAt zs x))/\nmAt zs x ∈ zs:=by
 have lz:(0:Int) < (zs.length:Int):=by omega
 have h0:=Int.emod_nonneg x (Int.ne_of_gt lz)
 have h1:=Int.emod_lt_of_pos x lz
 rw [List.length_map]
 obtain ⟨v,hv,hat,hg⟩:=atI_pos (xs:=zs.map V.str) h0 (by rw [List.length_map]; exact h1)
 rw [List.getElem?_map] at hg
 have hk:(x % (zs.length:Int)).toNat < zs.length:=by omega
 rw [List.getElem?_eq_getElem hk] at hg
 have e:nmAt zs x = zs[(x % (zs.length:Int)).toNat]:=by
  unfold nmAt
  rw [List.getD_eq_getElem?_getD,List.getElem?_eq_getElem hk]
  rfl
 rw [e]
 have e2:v = .str zs[(x % (zs.length:Int)).toNat]:=(Option.some.inj hg).symm
 rw [<- e2]
 exact ⟨hat,List.getElem_mem hk⟩
theorem item_small (zs:List Str) (c:Int):(itT (itemF zs c)).length<=4/\(itP (itemF zs c)).length<=3:=by
 have h5:(c / 8 % 5).toNat<=4:=by omega
 have h4:(c / 8 % 4).toNat<=3:=by omega
 unfold itemF
 split
 ·exact ⟨by show 1<=4; decide,by show 0<=3; decide⟩
 split
 ·refine ⟨?_,by show 0<=3; decide⟩
  show (rowF (c / 8)).length<=4
  unfold rowF
  rw [List.length_map,List.length_range]
  exact h5
 split
 ·refine ⟨by show 0<=4; decide,?_⟩
  show (bookF zs (c / 8)).length<=3
  unfold bookF namesF
  rw [List.length_map,List.length_map,List.length_range]
  exact h4
 ·exact ⟨by show 0<=4; decide,by show 1<=3; decide⟩
def spItems (K:PySem.W.Frag):Sp:=fun vs H Q _=>∃ (cs pl:Addr) (ns:List Int) (zs:List Str),vs = [.ref cs,.ref pl]/\SqL K H cs (ns.map V.int)/\ns.length<=63/\H pl = some (.lst (zs.map V.str))/\0 < zs.length/\(∀ z ∈ zs,z.length<=100)/\
 ∀ (r:Addr) (xs:List V) (H':Hp),Same H H'->H r = none->H' r = some (.lst xs)->Paired (Says K T' H' 3) xs ((ns.map (itemF zs)).map itemD)->Q (.ref r) H'
theorem ndK:([Str.ofString "_law_k",Str.ofString "_law_rest"]:List Str).Nodup:=by decide +kernel
theorem ndP:([Str.ofString "_law_k",Str.ofString "_law_pool_here",Str.ofString "_law_rest"]:List Str).Nodup:=by decide +kernel
theorem ndB:([Str.ofString "_law_name",Str.ofString "_law_rest"]:List Str).Nodup:=by decide +kernel
theorem scItems:FnScope ["_law_cells","_law_pool_here","_law_items_here","_law_cell","_law_kind","_law_rest","_law_names"] ["_law_cells","_law_pool_here"] (defScope sItems):=⟨rfl,rfl,rfl,by decide +kernel,rfl,by decide +kernel,by decide +kernel⟩
theorem ok_items {g:Addr} {gd:FuncData} (F:Fun K "_law_items" "_law_items" sItems f fd) (T:TxtL mg) (cT:Callee P w K mg base 1 "_law_thing" g gd ["_law_cell"] spThing):FnOk P w K mg base CX0 2 f fd ["_law_cells","_law_pool_here"] (spItems K):=by
 refine F.ok scItems (fun vs H Q E h=>?_) (fun cdv A outer s H vs Q E hr h=>?_)
 ·obtain ⟨cs,pl,ns,zs,rfl,_⟩:=h
  rfl
 obtain ⟨cs,pl,ns,zs,rfl,hS,h63,hpl,hz0,hz1,q⟩:=h
 refine ⟨_,pss_cons (ps_set (i:=2) scItems.nd rfl (Or.inl rfl) (pe_lst pa_nil))
  (pss_cons (ps_for PassesOwn.never rfl (pi_list (pv 0)) (pg_name (i:=3) scItems.nd rfl (Or.inl rfl))
   (pss_cons (ps_set (i:=4) scItems.nd rfl (Or.inl rfl) (pe_op op_mod (pv 3) pe_int))
   (pss_cons (ps_set (i:=5) scItems.nd rfl (Or.inr rfl) (pe_op op_fdiv (pv 3) pe_int))
   (pss_one (ps_if (pt_cmpR op_lt (pv 4) pe_int (nomark _))
    (pss_one (ps_expr (pe_bm PySem.F.plainAttrs_list PySem.F.slot_list_append PySem.F.type_list_append mt_append (pv 2) (ac (pe_tup (ac pe_str (ac (cF cT hr (ac (pv 5) pa_nil)) pa_nil))) pa_nil))))
    (pss_one (ps_if (pt_cmpR op_eq (pv 4) pe_int (nomark _))
     (pss_one (ps_expr (pe_bm PySem.F.plainAttrs_list PySem.F.slot_list_append PySem.F.type_list_append mt_append (pv 2) (ac (pe_tup (ac pe_str (ac (pe_lc ["_law_rest"] ["_law_k","_law_rest"] [none,some 5] rfl ⟨rfl,rfl,rfl,rfl⟩ (pi_range1 rfl T.range (ac (pe_op op_mod (pv 5) pe_int) pa_nil)) (gown_name 0) rfl rfl rfl
      (fun pins fp s H C=>⟨pg_name (i:=0) ndK rfl (Or.inl rfl) (.inr rfl),pif_nil,cF cT hr (ac (pe_op op_add (pv 1) (pe_op op_mul (pv 0) (pv 0))) pa_nil)⟩)) pa_nil))) pa_nil))))
     (pss_one (ps_if (pt_cmpR op_eq (pv 4) pe_int (nomark _))
      (pss_cons (ps_lc (i:=6) ["_law_rest","_law_pool_here"] ["_law_k","_law_pool_here","_law_rest"] [none,some 1,some 5] scItems.nd rfl (Or.inl rfl) rfl ⟨rfl,rfl,rfl,rfl⟩ (pi_range1 rfl T.range (ac (pe_op op_mod (pv 5) pe_int) pa_nil)) (gown_name 0) rfl rfl rfl
       (fun pins fp s H C=>⟨pg_name (i:=0) ndP rfl (Or.inl rfl) (.inr rfl),pif_nil,pe_ix (r:=rIxL K) ix_list (pv 1) (pe_op op_mod (pe_op op_add (pv 2) (pe_op op_mul (pv 0) (pe_op op_add pe_int (pe_op op_mod (pe_op op_fdiv (pv 2) pe_int) pe_int)))) (cB (r:=fun xs H Q=>∃ p ys,xs = [.ref p]/\(SqL K H p ys\/SqT K H p ys)/\Q (.int ys.length) H) call_len_seq T.len PySem.boot_len (ac (pv 1) pa_nil))) (fun _ _=>rfl)⟩))
      (pss_one (ps_expr (pe_bm PySem.F.plainAttrs_list PySem.F.slot_list_append PySem.F.type_list_append mt_append (pv 2) (ac (pe_tup (ac pe_str (ac (pe_lc ["_law_rest"] ["_law_name","_law_rest"] [none,some 5] rfl ⟨rfl,rfl,rfl,rfl⟩ (pi_list (pv 6)) (gown_name 0) rfl rfl rfl
       (fun pins fp s H C=>⟨pg_name (i:=0) ndB rfl (Or.inl rfl) (.inr rfl),pif_nil,pe_tup (ac (pv 0) (ac (cF cT hr (ac (pe_op op_add (pe_op op_fdiv (pv 1) pe_int) (cB call_len_str T.len PySem.boot_len (ac (pv 0) pa_nil))) pa_nil)) pa_nil))⟩)) pa_nil))) pa_nil)))))
      (pss_one (ps_expr (pe_bm PySem.F.plainAttrs_list PySem.F.slot_list_append PySem.F.type_list_append mt_append (pv 2) (ac (pe_tup (ac pe_str (ac (pe_ix ix_list (pv 1) (pe_op op_mod (pv 5) (cB call_len_seq T.len PySem.boot_len (ac (pv 1) pa_nil))) (fun _ _=>rfl)) (ac (cF cT hr (ac (pe_op op_fdiv (pv 5) pe_int) pa_nil)) pa_nil)))) pa_nil)))))))))))))
  (pss_one (ps_ret (pv 2)))),?_⟩
 refine ⟨(by show 0<=sizeLine; decide),fun r hrn=>?_⟩
 have sr:=same_new hrn (.lst [])
 refine ⟨_,rfl,cs,rfl,⟨_,sr.seq hS⟩,for_list (K:=K) (a:=cs) (xs:=ns.map V.int) (fun i σ H2=>∃ v3 v4 v5 v6 xs,σ = [some (.ref cs),some (.ref pl),some (.ref r),v3,v4,v5,v6]/\Same H H2/\H2 r = some (.lst xs)/\Paired (Says K (fun b=>b ≠ r) H2 3) xs (((ns.take i).map (itemF zs)).map itemD))
  ⟨_,_,_,_,[],rfl,sr,upd_same,.nil⟩ (fun i σ H2 _ ⟨_,_,_,_,_,_,s2,_⟩=>s2.seq hS) ?_ ?_⟩
 ·rintro i y σ H2 hi ⟨v3,v4,v5,v6,xs,rfl,s2,g,hx⟩
  obtain ⟨c,hc,rfl⟩:=int_get hi
  have hil:i < ns.length:=(List.getElem?_eq_some_iff.mp hc).1
  have lx:xs.length<=i:=by rw [hx.length,List.length_map,List.length_map,List.length_take]; omega
  have hpl2:=s2 _ _ hpl
  have fin:∀ {H3:Hp} {x:V} {v6:Option V},Same H2 H3->Says K (fun b=>b ≠ r) H3 3 x (itemD (itemF zs c))->∃ v3 v4 v5 v6' xs',[some (V.ref cs),some (.ref pl),some (.ref r),some (.int c),some (.int (c % 8)),some (.int (c / 8)),v6] = [some (V.ref cs),some (.ref pl),some (.ref r),v3,v4,v5,v6']/\Same H (upd H3 r (.lst (xs ++ [x])))/\upd H3 r (.lst (xs ++ [x])) r = some (.lst xs')/\Paired (Says K (fun b=>b ≠ r) (upd H3 r (.lst (xs ++ [x]))) 3) xs' (((ns.take (i + 1)).map (itemF zs)).map itemD):=by
   intro H3 x v6 s3 hsx
   refine ⟨_,_,_,_,xs ++ [x],rfl,same_upd (s2.trans s3) hrn _,upd_same,?_⟩
   rw [take_snocL hc,List.map_append,List.map_append]
   exact paired_app (Paired.imp' (fun _ _ z=>says_upd (.inr ⟨_,s3 _ _ g⟩) (fun b hb _=>⟨hb,hb⟩) (z.same s3)) hx) (.cons (says_upd (.inr ⟨_,s3 _ _ g⟩) (fun b hb _=>⟨hb,hb⟩) hsx) .nil)
  refine ⟨_,rfl,_,_,rfl,rfl,(by show (0:Int) < 8; decide),?_⟩
  refine ⟨_,rfl,_,_,rfl,rfl,⟨by decide,by decide⟩,?_⟩
  refine ⟨_,rfl,_,_,rfl,rfl,_,rfl,?_⟩
  refine ite2 (fun cc=>?_) (fun cc=>?_)
  ·have c1:c % 8 < 3:=of_decide_eq_true cc
   have e:itemF zs c = .one (thingF (c / 8)):=by unfold itemF; rw [if_pos c1]
   refine ⟨_,rfl,.inl ⟨rfl,_,SqL.of g⟩,_,rfl,c / 8,rfl,(by show 2<=sizeLine; decide),fun tp htp=>?_⟩
   have st:=same_new htp (.tup [.str "one",.int (thingF (c / 8))])
   refine ⟨r,_,_,rfl,rfl,st _ _ g,small1000 (by omega),?_⟩
   exact fin st (by rw [e]; exact .tup (SqT.of upd_same) (.cons .str (.cons .int .nil)))
  have c1:¬ c % 8 < 3:=fun z=>cc (decide_eq_true z)
  refine ⟨_,rfl,rfl,_,rfl,?_⟩
  refine ite2 (fun cc2=>?_) (fun cc2=>?_)
  ·have e:itemF zs c = .row (rowF (c / 8)):=by unfold itemF; rw [if_neg c1,if_pos (of_decide_eq_true cc2)]
   have m0 : 0<=c / 8 % 5:=Int.emod_nonneg _ (by decide)
   have m1:c / 8 % 5 < 5:=Int.emod_lt_of_pos _ (by decide)
   refine ⟨_,rfl,.inl ⟨rfl,_,SqL.of g⟩,_,rfl,_,_,rfl,rfl,(by show (0:Int) < 5; decide),c / 8 % 5,rfl,by omega,by omega,fun D hD=>?_⟩
   refine lc_range (n:=(c / 8 % 5).toNat) (fun j ys H'=>Same H2 H'/\H' D = some (.lst ys)/\ys = ((List.range j).map fun (k:Nat)=>thingF (c / 8 + (k:Int) * (k:Int))).map V.int) ⟨same_new hD _,upd_same,rfl⟩ ?_ ?_
   ·rintro j ys H' hj ⟨sH,hDy,ey⟩
    have e0:(0:Int) + (j:Int) = (j:Nat):=by omega
    rw [e0]
    refine ⟨fun _=>⟨_,rfl,_,rfl,_,rfl,_,_,rfl,rfl,.inl ⟨by omega,by omega⟩,_,_,rfl,rfl,_,rfl,lcN.mk hj (le1000 (by omega)) hDy (by rw [ey,List.length_map,List.length_map,List.length_range]; exact Nat.le_refl _) ⟨same_upd sH hD _,upd_same,?_⟩⟩,fun z=>absurd z (by decide)⟩
    rw [ey,List.range_succ,List.map_append,List.map_append]
    rfl
   rintro ys H3 ⟨s3,hDy,ey⟩
   refine ⟨(by show 2<=sizeLine; decide),fun tp htp=>?_⟩
   have st:=same_new htp (.tup [.str "row",.ref D])
   refine ⟨r,_,_,rfl,rfl,(s3.trans st) _ _ g,small1000 (by omega),?_⟩
   refine fin (s3.trans st) ?_
   rw [e]
   have hD3:=st _ _ hDy
   rw [ey] at hD3
   exact .tup (SqT.of upd_same) (.cons .str (.cons (.lst (ne_of_none g hD).symm hD3 (ints_says _)) .nil))
  refine ⟨_,rfl,rfl,_,rfl,?_⟩
  refine ite2 (fun cc3=>?_) (fun cc3=>?_)
  ·have e:itemF zs c = .book (bookF zs (c / 8)):=by unfold itemF; rw [if_neg c1,if_neg (fun z=>cc2 (decide_eq_true z)),if_pos (of_decide_eq_true cc3)]
   have m0 : 0<=c / 8 % 4:=Int.emod_nonneg _ (by decide)
   have m1:c / 8 % 4 < 4:=Int.emod_lt_of_pos _ (by decide)
   refine ⟨_,rfl,_,_,rfl,rfl,(by show (0:Int) < 4; decide),c / 8 % 4,rfl,by omega,by omega,fun D hD=>?_⟩
   refine lc_range (n:=(c / 8 % 4).toNat) (fun j ys H'=>Same H2 H'/\H' D = some (.lst ys)/\ys = ((List.range j).map fun (k:Nat)=>nmAt zs (c / 8 + (k:Int) * (1 + c / 8 / 5 % 3))).map V.str) ⟨same_new hD _,upd_same,rfl⟩ ?_ ?_
   ·rintro j ys H' hj ⟨sH,hDy,ey⟩
    have e0:(0:Int) + (j:Int) = (j:Nat):=by omega
    rw [e0]
    have lz:(0:Int) < ((zs.map V.str).length:Int):=by rw [List.length_map]; omega
    obtain ⟨hat,_⟩:=nm_at hz0 (c / 8 + (j:Int) * (1 + c / 8 / 5 % 3))
    refine ⟨fun _=>⟨_,rfl,_,rfl,_,rfl,_,rfl,_,_,rfl,rfl,⟨by decide,by decide⟩,_,_,rfl,rfl,(by show (0:Int) < 3; decide),_,_,rfl,rfl,_,_,rfl,rfl,.inl ⟨by omega,by omega⟩,_,_,rfl,rfl,_,rfl,pl,_,rfl,.inl (SqL.of (sH _ _ hpl2)),_,_,rfl,rfl,lz,pl,_,_,_,rfl,rfl,SqL.of (sH _ _ hpl2),hat,
     lcN.mk hj (le1000 (by omega)) hDy (by rw [ey,List.length_map,List.length_map,List.length_range]; exact Nat.le_refl _) ⟨same_upd sH hD _,upd_same,?_⟩⟩,fun z=>absurd z (by decide)⟩
    rw [ey,List.range_succ,List.map_append,List.map_append]
    rfl
   rintro ys H3 ⟨s3,hDy,ey⟩
   have ey':ys = (namesF zs (c / 8)).map V.str:=ey
   have ln:(namesF zs (c / 8)).length<=3:=by unfold namesF; rw [List.length_map,List.length_range]; omega
   have hmem:∀ z ∈ namesF zs (c / 8),z.length<=100:=fun z hz=>by
    unfold namesF at hz
    obtain ⟨k,_,rfl⟩:=List.mem_map.mp hz
    exact hz1 _ (nm_at hz0 _).2
   subst ey'
   refine ⟨_,rfl,.inl ⟨rfl,_,SqL.of (s3 _ _ g)⟩,_,rfl,D,rfl,⟨_,SqL.of hDy⟩,fun D2 hD2=>?_⟩
   refine lc_list (K:=K) (xs:=(namesF zs (c / 8)).map V.str) (fun j ys H'=>Same H3 H'/\H' D2 = some (.lst ys)/\Paired (Says K T' H' 1) ys ((((namesF zs (c / 8)).take j).map fun z=>(z,thingF (c / 8 / 5 + (Str.length z:Int)))).map pairD)) ⟨same_new hD2 _,upd_same,.nil⟩ (fun j ys H' h=>SqL.of (h.1 _ _ hDy)) ?_ ?_
   ·rintro j x ys H' hj hx2 ⟨sH,hDy2,hp⟩
    rw [List.length_map] at hj |-
    obtain ⟨z,hz,rfl⟩:∃ z,(namesF zs (c / 8))[j]? = some z/\x = .str z:=by
     rw [List.getElem?_map,List.getElem?_eq_getElem hj] at hx2
     exact ⟨_,List.getElem?_eq_getElem hj,(Option.some.inj hx2).symm⟩
    have zl:=hmem z (List.mem_of_getElem? hz)
    have lys:ys.length = j:=by rw [hp.length,List.length_map,List.length_map,List.length_take]; omega
    refine ⟨fun _=>⟨_,rfl,_,rfl,_,_,rfl,rfl,⟨by decide,by decide⟩,_,rfl,z,rfl,le1000 (by omega),_,_,rfl,rfl,_,rfl,(by show 2<=sizeLine; decide),fun tp htp=>?_⟩,fun z=>absurd z (by decide)⟩
    have nD:=ne_of_none hDy2 htp
    refine lcN.mk hj (le1000 (by omega)) (by rw [upd_ne nD]; exact hDy2) (by omega) ⟨same_upd (same_upd sH (sH.free htp) _) hD2 _,upd_same,?_⟩
    rw [take_snocL hz,List.map_append,List.map_append]
    refine paired_app (pairs_keep (.inr ⟨_,by rw [upd_ne nD]; exact hDy2⟩) (pairs_keep (.inl htp) hp)) (.cons (.tup (xs:=[.str z,.int (thingF (c / 8 / 5 + (z.length:Int)))]) (SqT.of ?_) (.cons .str (.cons .int .nil))) .nil)
    rw [upd_ne nD.symm,upd_same]
   rintro ys H4 ⟨s4,hDy2,hp⟩
   rw [List.length_map,List.take_length] at hp
   have hp:Paired (Says K T' H4 1) ys ((bookF zs (c / 8)).map pairD):=hp
   refine ⟨(by show 2<=sizeLine; decide),fun tp htp=>?_⟩
   have st:=same_new htp (.tup [.str "book",.ref D2])
   refine ⟨r,_,_,rfl,rfl,(s3.trans (s4.trans st)) _ _ g,small1000 (by omega),?_⟩
   refine fin (s3.trans (s4.trans st)) ?_
   rw [e]
   exact .tup (SqT.of upd_same) (.cons .str (.cons (.lst (ne_of_none (s3 _ _ g) hD2).symm (st _ _ hDy2) (pairs_ok (pairs_same st hp))) .nil))
  ·have e:itemF zs c = .named (nmAt zs (c / 8)) (thingF (c / 8 / 3)):=by unfold itemF; rw [if_neg c1,if_neg (fun z=>cc2 (decide_eq_true z)),if_neg (fun z=>cc3 (decide_eq_true z))]
   have lz:(0:Int) < ((zs.map V.str).length:Int):=by rw [List.length_map]; omega
   obtain ⟨hat,_⟩:=nm_at hz0 (c / 8)
   refine ⟨_,rfl,.inl ⟨rfl,_,SqL.of g⟩,_,rfl,_,rfl,_,rfl,pl,_,rfl,.inl (SqL.of hpl2),_,_,rfl,rfl,lz,pl,_,_,_,rfl,rfl,SqL.of hpl2,hat,_,rfl,_,_,rfl,rfl,⟨by decide,by decide⟩,_,rfl,(by show 3<=sizeLine; decide),fun tp htp=>?_⟩
   have st:=same_new htp (.tup [.str "named",.str (nmAt zs (c / 8)),.int (thingF (c / 8 / 3))])
   refine ⟨r,_,_,rfl,rfl,st _ _ g,small1000 (by omega),?_⟩
   exact fin st (by rw [e]; exact .tup (SqT.of upd_same) (.cons .str (.cons .str (.cons .int .nil))))
 ·rintro σ H2 ⟨v3,v4,v5,v6,xs,rfl,s2,g,hx⟩
  rw [List.length_map,List.take_length] at hx
  exact ⟨_,rfl,q r xs H2 s2 hrn g (Paired.imp' (fun _ _ z=>says_ok (fun _ _ _=>True.intro) z) hx)⟩
theorem scLaid2:FnScope ["_law_items_here","_law_things","_law_pairs","_law_item"] ["_law_items_here"] (defScope sLaid2):=⟨rfl,rfl,rfl,by decide +kernel,rfl,by decide +kernel,by decide +kernel⟩
theorem ok_laid2 (F:Fun K "_law_laid" "_law_laid" sLaid2 f fd):FnOk P w K mg base CX0 1 f fd ["_law_items_here"] (spLaid K):=by
 refine F.ok scLaid2 (fun vs H Q E h=>?_) (fun cdv A outer s H vs Q E hr h=>?_)
 ·obtain ⟨a,c,xs,rfl,_⟩:=h
  rfl
 obtain ⟨a,c,xs,rfl,hS,hc,hT,hP,q⟩:=h
 refine ⟨_,pss_cons (ps_set (i:=1) scLaid2.nd rfl (Or.inl rfl) (pe_lst pa_nil)) (pss_cons (ps_set (i:=2) scLaid2.nd rfl (Or.inl rfl) (pe_lst pa_nil))
  (pss_cons (ps_for PassesOwn.never rfl (pi_list (pv 0)) (pg_name (i:=3) scLaid2.nd rfl (Or.inl rfl))
   (pss_one (ps_if (pt_cmpR op_eq (pe_ix ix_tup (pv 3) pe_int (fun _ _=>rfl)) pe_str (nomark _)) (pss_one (ps_set (i:=1) scLaid2.nd rfl (Or.inl rfl) (pe_op op_cat (pv 1) (pe_lst (ac (pe_ix ix_tup (pv 3) pe_int (fun _ _=>rfl)) pa_nil)))))
   (pss_one (ps_if (pt_cmpR op_eq (pe_ix ix_tup (pv 3) pe_int (fun _ _=>rfl)) pe_str (nomark _)) (pss_one (ps_set (i:=1) scLaid2.nd rfl (Or.inl rfl) (pe_op op_cat (pv 1) (pe_ix ix_tup (pv 3) pe_int (fun _ _=>rfl)))))
   (pss_one (ps_if (pt_cmpR op_eq (pe_ix ix_tup (pv 3) pe_int (fun _ _=>rfl)) pe_str (nomark _)) (pss_one (ps_set (i:=2) scLaid2.nd rfl (Or.inl rfl) (pe_op op_cat (pv 2) (pe_lst (ac (pe_tup (ac (pe_ix ix_tup (pv 3) pe_int (fun _ _=>rfl)) (ac (pe_ix ix_tup (pv 3) pe_int (fun _ _=>rfl)) pa_nil))) pa_nil)))))
   (pss_one (ps_set (i:=2) scLaid2.nd rfl (Or.inl rfl) (pe_op op_cat (pv 2) (pe_ix ix_tup (pv 3) pe_int (fun _ _=>rfl))))))))))))
  (pss_one (ps_ret (pe_tup (ac (pv 1) (ac (pv 2) pa_nil))))))),?_⟩
 refine ⟨(by show 0<=sizeLine; decide),fun l1 h1=>?_⟩
 refine ⟨(by show 0<=sizeLine; decide),fun l2 h2=>?_⟩
 have n12:l1 ≠ l2:=ne_of_none upd_same h2
 have s0:Same H (upd (upd H l1 (.lst [])) l2 (.lst [])):=(same_new h1 _).trans (same_new h2 _)
 refine ⟨_,rfl,a,rfl,⟨_,s0.seq hS⟩,for_list (K:=K) (a:=a) (xs:=xs) (fun i σ H2=>∃ l1 l2 v3 ys,σ = [some (.ref a),some (.ref l1),some (.ref l2),v3]/\Same H H2/\H l1 = none/\H l2 = none/\l1 ≠ l2/\H2 l1 = some (.lst ((laidT (c.take i)).map V.int))/\H2 l2 = some (.lst ys)/\Paired (Says K T' H2 1) ys ((laidP (c.take i)).map pairD))
  ⟨l1,l2,_,[],rfl,s0,h1,(same_new h1 _).free h2,n12,by rw [upd_ne n12,upd_same]; rfl,upd_same,.nil⟩ (fun i σ H2 _ ⟨_,_,_,_,_,s2,_⟩=>s2.seq hS) ?_ ?_⟩
 ·rintro i y σ H2 hi ⟨l1,l2,v3,ys,rfl,s2,f1,f2,n12,g1,g2,gp⟩
  obtain ⟨d,hd,hy⟩:=Paired.get hc hi
  obtain ⟨it,hit,rfl⟩:=item_get hd
  have hy2:=hy.same s2
  have eT:=laidT_snoc c i it hit
  have eP:=laidP_snoc c i it hit
  have lT1:=laidT_le c (i + 1)
  have lP1:=laidP_le c (i + 1)
  have lys:ys.length = (laidP (c.take i)).length:=by rw [gp.length,List.length_map]
  cases it with
  | one t=>
   obtain ⟨b,rfl,hb⟩:=item_one hy2
   have e1:(laidT (c.take (i + 1))).length = (laidT (c.take i)).length + 1:=by rw [eT,List.length_append]; rfl
   refine ⟨_,rfl,b,_,_,.str "one",rfl,rfl,hb,rfl,rfl,_,rfl,?_⟩
   refine dT rfl ?_
   refine ⟨_,rfl,_,rfl,b,_,_,.int t,rfl,rfl,hb,rfl,(by show 1<=sizeLine; decide),fun p hp=>?_⟩
   have sp:=same_new hp (.lst [.int t])
   refine ⟨l1,p,_,_,rfl,rfl,sp _ _ g1,upd_same,(by rw [List.length_map]; show _ + 1<=sizeLine; exact le1000 (by omega)),fun l3 h3=>?_⟩
   have s3:=sp.trans (same_new h3 (.lst ((laidT (c.take i)).map V.int ++ [.int t])))
   refine ⟨l3,l2,_,ys,rfl,s2.trans s3,s2.free (sp.free h3),f2,(ne_of_none (sp _ _ g2) h3).symm,?_,s3 _ _ g2,?_⟩
   ·rw [upd_same,eT,List.map_append]; rfl
   ·rw [eP]; show Paired _ _ ((laidP (c.take i) ++ []).map pairD); rw [List.append_nil]; exact pairs_same s3 gp
  | row ts=>
   obtain ⟨b,bl,rfl,hb,_,hbl⟩:=item_row hy2
   have e1:(laidT (c.take (i + 1))).length = (laidT (c.take i)).length + ts.length:=by rw [eT,List.length_append]; rfl
   refine ⟨_,rfl,b,_,_,.str "row",rfl,rfl,hb,rfl,rfl,_,rfl,?_⟩
   refine dF ne1 ?_
   refine ⟨_,rfl,b,_,_,.str "row",rfl,rfl,hb,rfl,rfl,_,rfl,?_⟩
   refine dT rfl ?_
   refine ⟨_,rfl,_,rfl,b,_,_,.ref bl,rfl,rfl,hb,rfl,l1,bl,_,_,rfl,rfl,g1,hbl,(by rw [List.length_map,List.length_map]; exact le1000 (by omega)),fun l3 h3=>?_⟩
   have s3:=same_new h3 (.lst ((laidT (c.take i)).map V.int ++ ts.map V.int))
   refine ⟨l3,l2,_,ys,rfl,s2.trans s3,s2.free h3,f2,(ne_of_none g2 h3).symm,?_,s3 _ _ g2,?_⟩
   ·rw [upd_same,eT,List.map_append]; rfl
   ·rw [eP]; show Paired _ _ ((laidP (c.take i) ++ []).map pairD); rw [List.append_nil]; exact pairs_same s3 gp
  | named z t=>
   obtain ⟨b,rfl,hb⟩:=item_named hy2
   have e1:(laidP (c.take (i + 1))).length = (laidP (c.take i)).length + 1:=by rw [eP,List.length_append]; rfl
   refine ⟨_,rfl,b,_,_,.str "named",rfl,rfl,hb,rfl,rfl,_,rfl,?_⟩
   refine dF ne2 ?_
   refine ⟨_,rfl,b,_,_,.str "named",rfl,rfl,hb,rfl,rfl,_,rfl,?_⟩
   refine dF ne4 ?_
   refine ⟨_,rfl,b,_,_,.str "named",rfl,rfl,hb,rfl,rfl,_,rfl,?_⟩
   refine dT rfl ?_
   refine ⟨_,rfl,_,rfl,b,_,_,.str z,rfl,rfl,hb,rfl,_,rfl,b,_,_,.int t,rfl,rfl,hb,rfl,(by show 2<=sizeLine; decide),fun p hp=>?_⟩
   have sp:=same_new hp (.tup [.str z,.int t])
   refine ⟨(by show 1<=sizeLine; decide),fun p2 hp2=>?_⟩
   have sp2:=sp.trans (same_new hp2 (.lst [.ref p]))
   refine ⟨l2,p2,_,_,rfl,rfl,sp2 _ _ g2,upd_same,(by rw [lys]; show _ + 1<=sizeLine; exact le1000 (by omega)),fun l3 h3=>?_⟩
   have s3:=sp2.trans (same_new h3 (.lst (ys ++ [.ref p])))
   have hp3:=((same_new hp2 (.lst [.ref p])).trans (same_new h3 (.lst (ys ++ [.ref p])))) p (.tup [.str z,.int t]) upd_same
   refine ⟨l1,l3,_,ys ++ [.ref p],rfl,s2.trans s3,f1,s2.free (sp2.free h3),ne_of_none (sp2 _ _ g1) h3,?_,upd_same,?_⟩
   ·rw [s3 _ _ g1,eT]; show _ = some (HO.lst ((laidT (c.take i) ++ []).map V.int)); rw [List.append_nil]
   ·rw [eP,List.map_append]
    exact paired_app (pairs_same s3 gp) (.cons (.tup (xs:=[.str z,.int t]) (SqT.of hp3) (.cons .str (.cons .int .nil))) .nil)
  | book ps=>
   obtain ⟨b,bl,zs,rfl,hb,_,hbl,hz⟩:=item_book hy2
   have lz:zs.length = ps.length:=by rw [hz.length,List.length_map]
   have e1:(laidP (c.take (i + 1))).length = (laidP (c.take i)).length + ps.length:=by rw [eP,List.length_append]; rfl
   refine ⟨_,rfl,b,_,_,.str "book",rfl,rfl,hb,rfl,rfl,_,rfl,?_⟩
   refine dF ne3 ?_
   refine ⟨_,rfl,b,_,_,.str "book",rfl,rfl,hb,rfl,rfl,_,rfl,?_⟩
   refine dF ne5 ?_
   refine ⟨_,rfl,b,_,_,.str "book",rfl,rfl,hb,rfl,rfl,_,rfl,?_⟩
   refine dF ne6 ?_
   refine ⟨_,rfl,_,rfl,b,_,_,.ref bl,rfl,rfl,hb,rfl,l2,bl,_,_,rfl,rfl,g2,hbl,(by rw [lys,lz]; exact le1000 (by omega)),fun l3 h3=>?_⟩
   have s3:=same_new h3 (.lst (ys ++ zs))
   refine ⟨l1,l3,_,ys ++ zs,rfl,s2.trans s3,f1,s2.free h3,ne_of_none g1 h3,?_,upd_same,?_⟩
   ·rw [s3 _ _ g1,eT]; show _ = some (HO.lst ((laidT (c.take i) ++ []).map V.int)); rw [List.append_nil]
   ·rw [eP,List.map_append]
    exact paired_app (pairs_same s3 gp) (pairs_same s3 hz)
 ·rintro σ H2 ⟨l1,l2,v3,ys,rfl,s2,f1,f2,n12,g1,g2,gp⟩
  refine ⟨_,rfl,_,rfl,(by show 2<=sizeLine; decide),fun p hp=>?_⟩
  have hl:xs.length = c.length:=by rw [hc.length,List.length_map]
  rw [hl,List.take_length] at g1 gp
  have sp:=same_new hp (.tup [.ref l1,.ref l2])
  exact q p _ (s2.trans sp) ⟨l1,l2,ys,f1,f2,n12,s2.free hp,upd_same,sp _ _ g1,sp _ _ g2,pairs_same sp gp⟩
end
section
variable {P:Program} {w:World} {K:PySem.W.Frag} {mg:Str->Option Value} {base:Heap} {f CF:Addr} {fd:FuncData} {c:C5} {m:MA}
def isBoth (names:List Str) (r:Rw):Bool:=byNm r.k && decide (r.z ∈ names)
def needR (names:List Str) (r:Rw):Bool:=!fr r.k r.b && !isBoth names r
def fewF (names:List Str) (rows:List Rw):Nat->Nat
 | 0=>0
 | n + 1=>match rows[n]? with
  | some r=>if needR names r = true then n + 1 else fewF names rows n
  | none=>fewF names rows n
def spFew (c:C5) (CF:Addr):Sp:=fun vs H Q _=>∃ (f a:Addr) (rows:List Rw) (bars names:List Str),vs = [.ref f,.ref a]/\FormOk c CF H f rows bars/\H a = some (.lst (names.map V.str))/\∀ H',Same H H'->Q (.int (fewF names rows (plN rows):Nat)) H'
theorem scFew:FnScope ["form","names","parameters","number","parameter"] ["form","names"] (defScope sFewest):=⟨rfl,rfl,rfl,by decide +kernel,rfl,by decide +kernel,by decide +kernel⟩
theorem ok_few {gP gL:Addr} {eP eL gb gf:FuncData} (F:Fun K "fewest_by_place" "fewest_by_place" sFewest f fd) (hrg:mg "range" = none) (hrv:mg "reversed" = none) (FK:FC K CF) (PP:Pcs K m c) (mP:Meth K CF "parameters" gP) (GP:FnOk P w K mg base CX0 1 gP eP ["self"] (spPars c CF)) (bP:Binds K eP ["self"] []) (mL:Meth K CF "places" gL) (GL:FnOk P w K mg base CX0 1 gL eL ["self"] (spPlaces c CF)) (bL:Binds K eL ["self"] [])
  (GB:FnOk P w K mg base CX0 1 m.fB gb ["self"] (spIn K m bnL)) (bB:Binds K gb ["self"] []) (GF:FnOk P w K mg base CX0 1 m.fF gf ["self"] (spFree K m)) (bF:Binds K gf ["self"] []):FnOk P w K mg base CX0 2 f fd ["form","names"] (spFew c CF):=by
 refine F.ok scFew (fun vs H Q E h=>?_) (fun cdv A outer s H vs Q E hr h=>?_)
 ·obtain ⟨f,a,rows,bars,names,rfl,_⟩:=h
  rfl
 obtain ⟨f,a,rows,bars,names,rfl,hF,ha,q⟩:=h
 have hB:∀ C,Cs5 c C->Cls K C/\Meth K C "by_name" m.fB:=fun C ⟨k,hk,e⟩=>by rw [e]; exact ⟨(PP k hk).cl,(PP k hk).mB⟩
 have hFr:∀ C,Cs5 c C->Cls K C/\Meth K C "free" m.fF:=fun C ⟨k,hk,e⟩=>by rw [e]; exact ⟨(PP k hk).cl,(PP k hk).mF⟩
 refine ⟨_,pss_cons (ps_set (i:=2) scFew.nd rfl (Or.inl rfl) (pe_meth0 (pv 0) FK.cl mP GP hr bP .nil pass0))
  (pss_cons (ps_for PassesOwn.never rfl (pi_rev rfl hrg rfl hrv (ac (pe_meth0 (pv 0) FK.cl mL GL hr bL .nil pass0) pa_nil)) (pg_name (i:=3) scFew.nd rfl (Or.inl rfl))
   (pss_cons (ps_set (i:=4) scFew.nd rfl (Or.inl rfl) (pe_ix ix_list (pv 2) (pv 3) (fun _ _=>rfl)))
   (pss_one (ps_if (PW.pt (pw_and (pt_not (pt_val (pe_methP (pv 4) hFr GF hr bF pass0))) (pw_and1 (pt_not (PW.pt (pw_and (pt_val (pe_methP (pv 4) hB GB hr bB pass0)) (pw_and1 (pt_cmpR op_in_seq (pe_fld (pv 4) rfl) (pv 1) (by with_unfolding_all rfl))))))))) (pss_one (ps_ret (pe_op op_add (pv 3) pe_int))) pss_nil))))
  (pss_one (ps_ret pe_int))),?_⟩
 obtain ⟨dx,fs,lr,lb,ld,ps0,h1,h2,h3,h4,h5,h6⟩:=id hF.at_
 have nmL:fs.lookup ("places" : Str) = none:=h2.no _ (by decide +kernel)
 have nmP:fs.lookup ("parameters" : Str) = none:=h2.no _ (by decide +kernel)
 have lpl:plN rows<=rows.length:=List.length_filter_le _ _
 refine ⟨_,rfl,f,dx,fs,rfl,h1,nmP,f,rows,bars,rfl,hF.at_,fun lp ps H1 s1 np ep hps=>?_⟩
 have lps:ps.length = rows.length:=hps.length
 have l5:=hF.lr
 refine ⟨_,rfl,f,dx,fs,rfl,s1 _ _ h1,nmL,f,rows,bars,rfl,hF.at_.same s1,plN rows,rfl,by omega,?_⟩
 refine for_rev (n:=plN rows) (fun i σ H'=>∃ v3 v4,σ = [some (.ref f),some (.ref a),some (.ref lp),v3,v4]/\Same H1 H'/\i<=plN rows/\fewF names rows (plN rows) = fewF names rows (plN rows - i)) ⟨_,_,rfl,Same.refl _,Nat.zero_le _,rfl⟩ ?_ ?_
 ·rintro i σ H2 hi ⟨v3,v4,rfl,s2,_,hb⟩
  have ej:(plN rows:Int) - 1 - (i:Int) = ((plN rows - (i + 1):Nat):Int):=by omega
  rw [ej]
  obtain ⟨j,hj⟩:∃ j,plN rows - (i + 1) = j:=⟨_,rfl⟩
  have hj1:plN rows - i = j + 1:=by omega
  rw [hj]
  rw [hj1] at hb
  have hjr:j < rows.length:=by omega
  have hjp:j < ps.length:=by omega
  obtain ⟨r,hr',tp⟩:=paired_at hps (List.getElem?_eq_getElem hjp)
  have hb':fewF names rows (plN rows) = if needR names r = true then j + 1 else fewF names rows j:=by
   rw [hb]
   show (match rows[j]? with | some r=>if needR names r = true then j + 1 else fewF names rows j | none=>fewF names rows j) = _
   rw [hr']
  have rok:=hF.ok r (List.mem_of_getElem? hr')
  have C:=PP r.k rok.1
  refine ⟨_,rfl,_,rfl,lp,_,_,.ref ps[j],rfl,rfl,SqL.of (s2 _ _ ep),atI_nat (by rw [List.getElem?_map,List.getElem?_eq_getElem hjp]; rfl),?_⟩
  obtain ⟨dx',hdx⟩:=tp.same s2
  refine ⟨_,rfl,ps[j],_,dx',_,rfl,⟨r.k,rok.1,rfl⟩,hdx,pf_no (by decide +kernel) (by decide +kernel) (by decide +kernel),ps[j],dx',_,_,_,_,rfl,C,hdx,_,rfl,?_⟩
  have out:∀ (g:Bool) (b':Bool),needR names r = (g && b')->True:=fun _ _ _=>True.intro
  cases ef:fr r.k r.b with
  | true=>
   have en:needR names r = false:=by unfold needR; rw [ef]; rfl
   rw [en,if_neg Bool.false_ne_true] at hb'
   refine iteF ?_
   refine iteF ?_
   exact ⟨_,_,rfl,s2,by omega,hb'⟩
  | false=>
   refine iteT ?_
   refine ⟨_,rfl,ps[j],_,dx',_,rfl,⟨r.k,rok.1,rfl⟩,hdx,pf_no (by decide +kernel) (by decide +kernel) (by decide +kernel),ps[j],dx',_,_,_,_,rfl,C,hdx,_,rfl,?_⟩
   rw [in_nm r.k rok.1]
   cases eb:byNm r.k with
   | false=>
    have en:needR names r = true:=by unfold needR isBoth; rw [ef,eb]; rfl
    rw [en,if_pos rfl] at hb'
    refine iteF ?_
    refine iteT ?_
    refine ⟨_,rfl,_,_,rfl,rfl,?_⟩
    have:=q H2 (s1.trans s2)
    rw [hb'] at this
    exact this
   | true=>
    refine iteT ?_
    refine ⟨_,rfl,ps[j],_,dx',_,_,rfl,hdx,C.cl,C.nN,pf_name,_,rfl,a,_,rfl,.inl (SqL.of (s2 _ _ (s1 _ _ ha))),rfl,flatStrs,_,rfl,?_⟩
    have en:needR names r = !decide (r.z ∈ names):=by unfold needR isBoth; rw [ef,eb]; rfl
    rw [show (if false = true then !inV (V.str r.z) (names.map V.str) else inV (V.str r.z) (names.map V.str)) = decide (r.z ∈ names) from inStrs]
    by_cases hz:r.z ∈ names
    ·rw [en,decide_eq_true hz,if_neg (by decide)] at hb'
     rw [decide_eq_true hz]
     refine iteF ?_
     exact ⟨_,_,rfl,s2,by omega,hb'⟩
    ·rw [en,decide_eq_false hz,if_pos (by decide)] at hb'
     rw [decide_eq_false hz]
     refine iteT ?_
     refine ⟨_,rfl,_,_,rfl,rfl,?_⟩
     have:=q H2 (s1.trans s2)
     rw [hb'] at this
     exact this
 ·rintro σ H2 ⟨v3,v4,rfl,s2,_,hb⟩
  rw [Nat.sub_self] at hb
  have:=q H2 (s1.trans s2)
  rw [hb] at this
  exact this
end
theorem grp0 {k:Nat} (h:k < 5):byPl k = decide (grp k = 0):=by rcases lt5 h with rfl | rfl | rfl | rfl | rfl <;> rfl
theorem plN_none {rows:List Rw} (h:∀ r ∈ rows,byPl r.k = false):plN rows = 0:=by
 unfold plN
 rw [List.length_eq_zero_iff,List.filter_eq_nil_iff]
 exact fun r hr=>by rw [h r hr]; decide
theorem ord_none:∀ (rows:List Rw) {l:Nat},0 < l->(∀ r ∈ rows,r.ok)->ordOk l rows = true->∀ r ∈ rows,byPl r.k = false
 | [],_,_,_,_,r,hr=>by cases hr
 | x :: xs,l,hl,hok,h,r,hr=>by
  have h':(!badAt l (grp x.k) && ordOk (grp x.k) xs) = true:=h
  rw [Bool.and_eq_true,Bool.not_eq_true'] at h'
  have hb:=h'.1
  unfold badAt at hb
  simp only [Bool.or_eq_false_iff,decide_eq_false_iff_not] at hb
  have hg : 0 < grp x.k:=by omega
  rcases List.mem_cons.mp hr with rfl | hr
  ·rw [grp0 (hok _ List.mem_cons_self).1,decide_eq_false (by omega)]
  ·exact ord_none xs hg (fun r hr=>hok r (List.mem_cons_of_mem _ hr)) h'.2 r hr
theorem split_pl:∀ rows:List Rw,(∀ r ∈ rows,r.ok)->ordOk 0 rows = true->∃ A B,rows = A ++ B/\A.length = plN rows/\(∀ r ∈ A,grp r.k = 0)/\ordOk 0 B = true
 | [],_,_=>⟨[],[],rfl,rfl,(fun r hr=>by cases hr),rfl⟩
 | r :: rs,hok,h=>by
  have h':(!badAt 0 (grp r.k) && ordOk (grp r.k) rs) = true:=h
  rw [Bool.and_eq_true,Bool.not_eq_true'] at h'
  by_cases hg:grp r.k = 0
  ·have h2:=h'.2
   rw [hg] at h2
   obtain ⟨A,B,e,hl,hA,hB⟩:=split_pl rs (fun x hx=>hok x (List.mem_cons_of_mem _ hx)) h2
   refine ⟨r :: A,B,by rw [e]; rfl,?_,fun x hx=>?_,hB⟩
   ·have hp:byPl r.k = true:=by rw [grp0 (hok r List.mem_cons_self).1,hg]; rfl
    unfold plN at hl |-
    rw [List.filter_cons,if_pos hp,List.length_cons,List.length_cons,hl]
   ·rcases List.mem_cons.mp hx with rfl | hx
    ·exact hg
    ·exact hA x hx
  ·refine ⟨[],r :: rs,rfl,?_,(fun x hx=>by cases hx),h⟩
   rw [plN_none]
   ·rfl
   ·intro x hx
    rcases List.mem_cons.mp hx with rfl | hx
    ·rw [grp0 (hok _ List.mem_cons_self).1,decide_eq_false hg]
    ·exact ord_none rs (by omega) (fun x hx=>hok x (List.mem_cons_of_mem _ hx)) h'.2 x hx
theorem nms_at {rows:List Rw} {z:Str} (h:z ∈ nms rows):∃ (l:Nat) (r:Rw),rows[l]? = some r/\byNm r.k = true/\r.z = z:=by
 unfold nms at h
 obtain ⟨r,hr,rfl⟩:=List.mem_map.mp h
 rw [List.mem_filter] at hr
 obtain ⟨l,hl⟩:=List.mem_iff_getElem?.mp hr.1
 exact ⟨l,r,hl,hr.2,rfl⟩
theorem pl_at {rows:List Rw} (hok:∀ r ∈ rows,r.ok) (ho:ordOk 0 rows = true) {i:Nat} {r:Rw} (h:rows[i]? = some r):byPl r.k = decide (i < plN rows):=by
 obtain ⟨A,B,e,hl,hA,hB⟩:=split_pl rows hok ho
 have hn:plN rows = plN A + plN B:=by
  unfold plN
  rw [e,List.filter_append,List.length_append]
 have hA2:plN A = A.length:=by
  unfold plN
  rw [List.filter_eq_self.mpr fun x hx=>?_]
  rw [grp0 (hok x (by rw [e]; exact List.mem_append_left _ hx)).1,hA x hx]
  rfl
 have hB2:plN B = 0:=by omega
 have hB3:∀ x ∈ B,byPl x.k = false:=fun x hx=>by
  unfold plN at hB2
  rw [List.length_eq_zero_iff,List.filter_eq_nil_iff] at hB2
  have:=hB2 x hx
  simpa using this
 by_cases hi:i < plN rows
 ·rw [decide_eq_true hi]
  rw [e,List.getElem?_append_left (by omega)] at h
  have hm:=List.mem_of_getElem? h
  rw [grp0 (hok r (by rw [e]; exact List.mem_append_left _ hm)).1,hA r hm]
  rfl
 ·rw [decide_eq_false hi]
  rw [e,List.getElem?_append_right (by omega)] at h
  exact hB3 r (List.mem_of_getElem? h)
theorem unw_no {rows:List Rw} {bars:List Str} {many:Nat} {z:Str} (h:z ∉ bars) (hk:z ∉ nms rows):unwW rows bars many z = if (firstK 4 0 rows).isSome = true then none else some ("strange" : Str):=by
 have hv:=doors_no (z:=z) rows 0 [] hk
 have e1:unwW.lastD' z rows = none:=by unfold unwW.lastD'; rw [hv]; rfl
 unfold unwW
 rw [if_neg h,e1]
theorem lack_mem {many:Nat} {fk:List (Key × V)} {m:Str × Nat}:∀ (rows:List Rw) (i:Nat),m ∈ lackF many fk i rows ↔ m.1 = "lacking"/\∃ j r,rows[j]? = some r/\m.2 = i + j/\isLack r (i + j) many fk = true
 | [],i=>by simp [lackF]
 | y :: ys,i=>by
  show m ∈ (if isLack y i many fk = true then [(("lacking" : Str),i)] else []) ++ lackF many fk (i + 1) ys ↔ _
  rw [List.mem_append,lack_mem ys (i + 1)]
  constructor
  ·rintro (h | ⟨h1,j,r,h2,h3,h4⟩)
   ·split at h
    next e=>
     have:m = (("lacking" : Str),i):=by simpa using h
     subst this
     exact ⟨rfl,0,y,rfl,rfl,e⟩
    ·cases h
   ·exact ⟨h1,j + 1,r,by simpa using h2,by omega,by rw [show i + (j + 1) = i + 1 + j by omega]; exact h4⟩
  ·rintro ⟨h1,j,r,h2,h3,h4⟩
   cases j with
   | zero=>
    have:y = r:=by simpa using h2
    subst this
    left
    rw [Nat.add_zero] at h4
    rw [if_pos h4]
    rw [List.mem_singleton]
    exact Prod.ext h1 h3
   | succ j=>
    right
    exact ⟨h1,j,r,by simpa using h2,by omega,by rw [show i + 1 + j = i + (j + 1) by omega]; exact h4⟩
def Nv (rows:List Rw) (bars names:List Str):Prop:=names.Nodup/\(∀ z ∈ names,unwW rows bars 0 z = none)/\∀ i r,rows[i]? = some r->plN rows<=i->fr r.k r.b = true\/isBoth names r = true
theorem lack_it {names:List Str} {r:Rw} {i many:Nat}:isLack r i many (kvP (fpZ names)) = (needR names r && !(byPl r.k && decide (i < many))):=by
 rw [lack_is,fpZ_has]
 unfold needR isBoth
 cases fr r.k r.b <;> cases byPl r.k <;> cases byNm r.k <;> simp [Bool.and_comm]
theorem need_no {names:List Str} {r:Rw}:needR names r = false ↔ (fr r.k r.b = true\/isBoth names r = true):=by
 unfold needR
 cases fr r.k r.b <;> cases isBoth names r <;> simp
theorem unw_word {rows:List Rw} {bars:List Str} {many:Nat} {z wd:Str} (h:unwW rows bars many z = some wd):wd ≠ "lacking":=by
 unfold unwW at h
 split at h
 ·cases h; decide +kernel
 ·split at h
  ·split at h
   ·cases h
   ·cases h; decide +kernel
  ·split at h
   ·cases h; decide +kernel
   ·cases h
theorem unw_zero {rows:List Rw} {bars:List Str} {many:Nat} {z:Str} (V1:Valid rows bars):unwW rows bars many z = none ↔ (unwW rows bars 0 z = none/\∀ l r,rows[l]? = some r->l < plN rows->l < many->byNm r.k = true->r.z ≠ z):=by
 have nd:(nms rows).Nodup:=(List.nodup_append.mp V1.nd).1
 by_cases hb:z ∈ bars
 ·have e:∀ m,unwW rows bars m z = some ("barred" : Str):=fun m=>if_pos hb
  rw [e,e]
  simp
 ·by_cases hk:z ∈ nms rows
  ·obtain ⟨l,r,hl,hbn,he⟩:=nms_at hk
   have hlu:∀ l' r',rows[l']? = some r'->byNm r'.k = true->r'.z = z->l' = l:=fun l' r' hl' hb' he'=>by
    have h1:=doors_at hbn rows 0 l [] hl nd
    have h2:=doors_at hb' rows 0 l' [] hl' nd
    rw [he] at h1
    rw [he',h1] at h2
    have:=V.int.inj (Option.some.inj h2)
    omega
   have w:∀ m,unwW rows bars m z = if l < min m (plN rows) then some ("again" : Str) else none:=fun m=>by
    rw [unw_words,wrong_at nd hb hl hbn he]
    split
    ·rw [if_neg (by decide +kernel)]
    ·rw [if_pos rfl]
   rw [w,w]
   constructor
   ·intro h
    split at h
    ·cases h
    next hn=>
     refine ⟨by rw [if_neg (by omega)],fun l' r' hl' h1 h2 hb' he'=>?_⟩
     have:=hlu l' r' hl' hb' he'
     omega
   ·rintro ⟨_,h⟩
    rw [if_neg]
    intro hlt
    exact h l r hl (by omega) (by omega) hbn he
  ·rw [unw_no hb hk,unw_no hb hk]
   constructor
   ·intro h
    refine ⟨h,fun l r hl _ _ hbn he=>hk ?_⟩
    unfold nms
    exact List.mem_map.mpr ⟨r,List.mem_filter.mpr ⟨List.mem_of_getElem? hl,hbn⟩,he⟩
   ·exact fun h=>h.1
theorem few_le {names:List Str} {rows:List Rw} {many:Nat}:∀ n,fewF names rows n<=many ↔ ∀ i r,i < n->rows[i]? = some r->needR names r = true->i < many
 | 0=>by simp [fewF]
 | n + 1=>by
  have ih:=few_le (names:=names) (rows:=rows) (many:=many) n
  unfold fewF
  split
  next r hr=>
   split
   next hn=>
    constructor
    ·intro h i _ hi _ _; omega
    ·intro h; exact h n r (by omega) hr hn
   next hn=>
    rw [ih]
    constructor
    ·intro h i r' hi hr' hn'
     by_cases e:i = n
     ·subst e
      rw [hr] at hr'
      cases hr'
      exact absurd hn' hn
     ·exact h i r' (by omega) hr' hn'
    ·exact fun h i r' hi=>h i r' (by omega)
  next hr=>
   rw [ih]
   constructor
   ·intro h i r' hi hr' hn'
    by_cases e:i = n
    ·subst e; rw [hr] at hr'; cases hr'
    ·exact h i r' (by omega) hr' hn'
   ·exact fun h i r' hi=>h i r' (by omega)
theorem miss_iff {rows:List Rw} {bars names:List Str} {many:Nat} (V1:Valid rows bars):missF rows bars many names = [] ↔ (Nv rows bars names/\((firstK 2 0 rows).isSome = true\/many<=plN rows)/\(∀ l r,rows[l]? = some r->l < plN rows->l < many->isBoth names r = false)/\fewF names rows (plN rows)<=many):=by
 unfold missF Nv
 rw [List.append_eq_nil_iff,List.append_eq_nil_iff,List.append_eq_nil_iff,dbl_nil,over_nil,unw_nil,lackF_nil,few_le]
 constructor
 ·rintro ⟨⟨⟨h1,h2⟩,h3⟩,h4⟩
  have u:=fun z hz=>(unw_zero (many:=many) V1).mp (h3 z hz)
  refine ⟨⟨h1,fun z hz=>(u z hz).1,fun i r hr hi=>?_⟩,h2,fun l r hr hl hm=>?_,fun i r hi hr hn=>?_⟩
  ·have:=h4 i r hr
   rw [lack_it,pl_at V1.ok V1.ord hr,decide_eq_false (by omega),Bool.false_and,Bool.not_false,Bool.and_true] at this
   exact need_no.mp this
  ·rw [Bool.eq_false_iff]
   intro hb
   unfold isBoth at hb
   rw [Bool.and_eq_true,decide_eq_true_eq] at hb
   exact (u r.z hb.2).2 l r hr hl hm hb.1 rfl
  ·have:=h4 i r hr
   rw [lack_it,hn,Bool.true_and,pl_at V1.ok V1.ord hr,decide_eq_true hi,Bool.true_and,Bool.not_eq_false',decide_eq_true_eq] at this
   omega
 ·rintro ⟨⟨h1,h2,h3⟩,h4,h5,h6⟩
  refine ⟨⟨⟨h1,h4⟩,fun z hz=>(unw_zero V1).mpr ⟨h2 z hz,fun l r hr hl hm hb he=>?_⟩⟩,fun i r hr=>?_⟩
  ·have:=h5 l r hr hl hm
   unfold isBoth at this
   rw [hb,he,decide_eq_true hz] at this
   cases this
  ·rw [lack_it,Nat.zero_add]
   by_cases hi:i < plN rows
   ·rw [pl_at V1.ok V1.ord hr,decide_eq_true hi,Bool.true_and]
    cases hn:needR names r
    ·rfl
    ·rw [decide_eq_true (h6 i r hi hr hn)]; rfl
   ·rw [need_no.mpr (h3 i r hr (by omega))]; rfl
end K32
namespace L2
open PySem PySem.Spec PyProof.Rows
section
variable {prog:Program} {w:World} {κ : Type} [DecidableEq κ] {knd:HeapKind prog w κ} {A:Around} {E:Value->Shared->Prop} {s:Shared}
theorem setdef_heap {d a:Addr} {xs:List (κ × Addr × Value)} {k : κ} {v:Value} {Q:Value->Shared->Prop} (hu:knd.room A) (hkey:knd.is s.heap k a) (hm:s.heap.DictOfH knd d xs)
  (hthere:∀ p,atKey xs k = some p->Q p.2 { s with toks:=s.toks + knd.draws k })
  (hnew:atKey xs k = none->∀ h',h'.DictOfH knd d (storedH xs k a v)->Heap.SameBut d s.heap h'->Q v { s with heap:=h',toks:=s.toks + knd.draws k })
  (hsz:xs.length<=sizeLine):wpAny (model prog w) A (dictSetDefault d (.ref a) v) Q E s:=by
 obtain ⟨o,es,ep,ho,hc,hd,he,his,hn⟩:=hm
 unfold dictSetDefault
 try with_reducible refine wpAny_holding ?_
 refine wpAny_bind (knd.pyHash hu hkey ?_)
 refine wpAny_bind (wpAny_dictFind_heap (s:={ s with toks:=s.toks + knd.draws k }) hu hkey ho hd he his hn ?_ ?_)
 ·intro hno
  have hnot:k ∉ xs.map (·.1):=not_mem_keys_of_get hno
  have hst:=storedH_new (v:=v) (a:=a) (atKey_none_of_get hno)
  refine wpAny_bind (wpAny_rule (wpAny_bind (wpAny_updateDictKeys (hz:=by have e:=size_of_entries he; omega) (s:={ s with toks:=s.toks + knd.draws k }) ho hd (wpAny_pure (hnew (atKey_none_of_get hno) _ ⟨_,_,ep + 1,Heap.get?_update_self _ ho (Obj.isFreed_of_dict (Obj.data_mapDictKeys hd _)),
   hc.mapDictKeys _,Obj.data_mapDictKeys hd _,?_,?_,?_⟩ (Heap.SameBut.update ..))))))
  ·rw [storedH_new (atKey_none_of_get hno)]
   simp [he,entryOfKey]
  ·rw [storedH_new (atKey_none_of_get hno)]
   intro x hx
   rcases List.mem_append.mp hx with hx | hx
   ·exact knd.keeps (his x hx) ho hd (Heap.SameBut.update ..)
   ·simp only [List.mem_singleton] at hx
    subst hx
    exact knd.keeps hkey ho hd (Heap.SameBut.update ..)
  ·rw [storedH_new (atKey_none_of_get hno)]
   rw [List.map_append,List.nodup_append]
   refine ⟨hn,by simp,?_⟩
   intro x hx y hy
   simp only [List.map_cons,List.map_nil,List.mem_singleton] at hy
   subst hy
   exact fun e=>hnot (e ▸ hx)
 ·intro j p hj
  have ej:=entry_at he j
  rw [hj] at ej
  refine wpAny_bind (wpAny_dictEntries (s:={ s with toks:=s.toks + knd.draws k }) ho hd ?_)
  rw [ej]
  exact wpAny_bind (wpAny_rule (wpAny_pure (hthere p (atKey_of_get hn hj))))
theorem meetsH_setdef (knd:HeapKind prog w κ) (d a:Addr) (hd:(d == sysModules) = false) (dflt:Value) :
  MeetsIn prog w (Builtin.«dict.setdefault» ⟨[.ref d,.ref a,dflt],[]⟩) (fun A R s=>knd.room A.in1/\∃ k xs,knd.is s.heap k a/\s.heap.DictOfH knd d xs/\xs.length<=sizeLine/\
   (∀ p,atKey xs k = some p->R (.ok (.ret p.2)) { s with toks:=s.toks + knd.draws k })/\
   (atKey xs k = none->∀ h',h'.DictOfH knd d (storedH xs k a dflt)->Heap.SameBut d s.heap h'->R (.ok (.ret dflt)) { s with heap:=h',toks:=s.toks + knd.draws k })):=
 .of_wp fun A R s ⟨hu,k,xs,hkey,hm,hz,h1,h2⟩=>by
  unfold Builtin.«dict.setdefault»
  refine wpAny_bind ?_
  unfold Builtin.Dict.keyAndDefault
  refine wpAny_bind (wpAny_notOrdered_dict hm.typeIs ?_)
  show wpAny _ _ (pure (d,Value.ref a,some dflt)) _ _ s
  refine wpAny_pure ?_
  show wpAny _ _ (if (d == sysModules) = true then _ else (dictSetDefault d (.ref a) dflt >>= _)) _ _ s
  rw [if_neg (by rw [hd]; exact Bool.false_ne_true)]
  exact wpAny_bind (setdef_heap hu hkey hm (fun p hp=>wpAny_pure ⟨p.2,rfl,h1 p hp⟩) (fun hn h' hm' hs'=>wpAny_pure ⟨dflt,rfl,h2 hn h' hm' hs'⟩) hz)
end
theorem dB_ok {P:Program} {w:World} {H:Hp} {h:Heap} {a:Addr} {xs:List (List SB × Addr × Value)} (e:dBφ P w a xs h):ObjOk P w H h a (.ext (dBφ P w a xs)):=
 ⟨e,let ⟨o,_,_,h1,_⟩:=e; ⟨o,h1⟩,fun g1 g2 q k=>let ⟨o,es,ep,h1,c⟩:=q; ⟨o,es,ep,k o h1,c⟩⟩
def tD0B (P:Program) (w:World):TE:=fun _ H Q=>∀ a,H a = none->(a == sysModules) = false->Q (.ref a) (upd H a (.ext (dBφ P w a [])))
section
variable {X:Cx} {P:Program} {w:World} {pos:Pos}
theorem pe_d0B (hP:X.prog = P) (hw:X.w = w):PE X (.Dict [] [] pos) (tD0B P w):=by
 subst hP
 subst hw
 exact ⟨fun pins s σ H Q I h=>
 wpAny_Dict_empty ⟨.ref s.heap.objs.size,_,I.laid (a:=s.heap.objs.size) (o:=.ext (dBφ X.prog X.w s.heap.objs.size [])) (t':=s.toks) (fun _ _ q=>Heap.get?_push_of_some _ q) (Nat.le_refl _) (dB_ok ⟨_,#[],0,Heap.get?_push_size _ rfl,⟨rfl,rfl,rfl⟩,rfl,rfl,List.nodup_nil⟩),rfl,h _ (I.hok.fresh (Nat.le_refl _)) (beq_eq_false_iff_ne.mpr (Ne.symm (Nat.ne_of_lt I.big)))⟩⟩
def tSetB (P:Program) (w:World) (td:TE) (ta:TA):TE:=fun σ H Q=>td σ H fun x H1=>(∃ (a:Addr) (kvs:List (List SB × V)),x = .ref a/\DB P w H1 a kvs)/\ta σ H1 fun ys H2=>∃ (a b:Addr) (kvs:List (List SB × V)) (k:List SB) (v:V),x = .ref a/\ys = [.ref b,v]/\DB P w H2 a kvs/\(a == sysModules) = false/\kvs.length<=1000/\H2 b = some (.tup (k.map sbV))/\
 (∀ v',valV kvs k = some v'->Q v' H2)/\(valV kvs k = none->∀ H3,(∃ o,H3 = upd H2 a (.ext o))->DB P w H3 a (putK kvs k v)->Q v H3)
variable {o e1 e2:Expr} {td:TE} {ta:TA} {apos cpos:Pos}
theorem pe_setdB (hP:X.prog = P) (hw:X.w = w) (hu:X.A.units + 1 < cLine) (ho:PE X o td) (ha:PA X [e1,e2] ta)
  (hbase:attributeBase o "setdefault" X.env (eval o X.env) = eval o X.env:=by rfl)
  (hfew:((backTo cpos (starEach [e1,e2] X.env)).all (fun x=>!x.1) && (backToKw cpos (keywordEach [] X.env)).all (fun x=>x.1.isSome)
   && decide (([e1,e2]:List Expr).length + ([]:List Keyword).length + (if ([]:List Keyword).isEmpty then 0 else 1) < 30)) = true:=by rfl)
  (hline:(apos.endLine == cpos.line) = true:=by rfl) (hs:starEach [e1,e2] X.env = (false,eval e1 X.env) :: starEach [e2] X.env:=by rfl) (hplain:(backTo cpos (starEach [e2] X.env)).any (·.1) = false:=by rfl) :
  PE X (.Call (.Attribute o "setdefault" apos) [e1,e2] [] cpos) (tSetB P w td ta):=by
 subst hP
 subst hw
 refine ⟨?_⟩
 intro pins s σ H Q I h
 refine wpAny_Call_method_late hbase hfew hline rfl (thn (ho pins s σ H _ I h) fun u s1 ⟨x,H1,I1,r1,⟨a,kvs,ex,xs,exs,kb⟩,q1⟩=>?_)
 subst ex
 obtain rfl:u = Value.ref a:=r1
 have dd:=db_of I1.hok exs kb
 have nod:∀ b,Value.ref a = .ref b->∃ ob,s1.heap.get? b = some ob/\ob.dict = none:=fun b eb=>by
  cases eb
  obtain ⟨ob,_,_,g1,g2,_⟩:=dd
  exact ⟨ob,g1,g2.2.1⟩
 refine ⟨"dict","dict.setdefault",PySem.F.plainAttrs_dict,PySem.F.slot_dict_setdefault,PySem.F.type_dict_setdefault,dd.typeIs,nod,?_⟩
 have hA:=ha cpos pins s1 σ H1 _ I1 q1
 rw [hs] at hA |-
 refine Calls.callWith_builtin (by show (false || (backTo cpos (starEach [e2] X.env)).any (·.1)) = false; rw [hplain] <;> rfl) (Calls.evalArgs_plain ?_)
 refine thn hA fun us s2 ⟨vs,H2,I2,r2,a',b,kvs2,k,v,ea,ey,db2,hsys,l1000,hb,q2,q3⟩=>?_
 cases ea
 subst ey
 obtain ⟨u1,u2,rfl,ru1,ru2⟩:=vals2 r2
 obtain rfl:u1 = Value.ref b:=ru1
 obtain ⟨xs2,exs2,kb2⟩:=db2
 have dd2:=db_of I2.hok exs2 kb2
 have hval:=kb2.val k
 have lz:xs2.length<=sizeLine:=by
  have e1:=kb2.length
  have e2 : 1000<=sizeLine:=by decide
  omega
 refine call_meetsIn PySem.F.slot_dict_setdefault dd2.typeIs PySem.F.entry_dict_setdefault (PySem.F.args_dict_setdefault_3 _ _ _) (meetsH_setdef (tupleKind (sbKind X.prog X.w)) a b hsys u2) ⟨tupleKind_room_in1 hu,k,xs2,sb_key I2.hok hb,dd2,lz,fun p hp=>?_,fun hn h' hm' hs'=>?_⟩
 ·rw [hp] at hval
  cases ev:valV kvs2 k with
  | none=>rw [ev] at hval; exact absurd hval id
  | some v'=>
   rw [ev] at hval
   exact ⟨v',H2,I2.tok _,hval,q2 v' ev⟩
 ·rw [hn] at hval
  have ev:valV kvs2 k = none:=by
   cases ev:valV kvs2 k with
   | none=>rfl
   | some v'=>rw [ev] at hval; exact absurd hval id
  have kb3:=kb2.put k hb ru2
  have hφ : dBφ X.prog X.w a (storedH xs2 k b u2) h':=by
   obtain ⟨ob,es,ep,g1,g2,g3,g4,g5,g6⟩:=hm'
   exact ⟨ob,es,ep,g1,g2,g3,g4,g6⟩
  refine ⟨v,upd H2 a (.ext (dBφ X.prog X.w a (storedH xs2 k b u2))),?_,ru2,q3 ev _ ⟨_,rfl⟩ ⟨_,upd_same,Paired.mapP kb3 fun _ q z=>⟨z.1,?_,z.2.2⟩⟩⟩
  ·exact I2.write (x:=a) (e:=a) (by rw [exs2]; exact True.intro) (.inl rfl) (fun b' q' hb' z=>(hs'.2 b' hb').trans z) (let ⟨ob,_,_,g1,_⟩:=hφ; ⟨ob,g1⟩) (dB_ok hφ)
  ·rw [upd_ne (fun e=>by have:=z.2.1; rw [e,exs2] at this; cases this)]
   exact z.2.1
end
def keyOf:Value->Str
 | .str z _=>z
 | _=>""
theorem nodup_len {α : Type} [DecidableEq α]:∀ (zs ys:List α),zs.Nodup->(∀ z ∈ zs,z ∈ ys)->zs.length<=ys.length
 | [],_,_,_=>Nat.zero_le _
 | z :: zs,ys,h,hs=>by
  have hz:z ∈ ys:=hs z List.mem_cons_self
  have e:(ys.erase z).length = ys.length - 1:=List.length_erase_of_mem hz
  have l0 : 0 < ys.length:=List.length_pos_of_mem hz
  rw [List.nodup_cons] at h
  have ih:=nodup_len zs (ys.erase z) h.2 fun y hy=>(List.mem_erase_of_ne (fun e:y = z=>h.1 (by rw [<- e]; exact hy))).mpr (hs y (List.mem_cons_of_mem _ hy))
  rw [List.length_cons]
  omega
theorem setO_len {P:Program} {w:World} {h:Heap} {a:Addr} {zs:List Str} {n:Nat} (hS:h.SetOf (strKind P w) a (fun z=>decide (z ∈ zs)) n) (nd:zs.Nodup):zs.length<=n:=by
 obtain ⟨o,es,ep,t,ho,hx,hd,he,hb,hf,hfi,hn⟩:=hS
 have:=nodup_len zs (es.toList.map fun e=>keyOf e.2) nd fun z hz=>by
  obtain ⟨e,hm,hk⟩:=(hb z).mp (decide_eq_true hz)
  refine List.mem_map.mpr ⟨e,hm,?_⟩
  obtain ⟨tk,e2⟩:=Value.isStrOf_shape hk
  rw [e2]
  rfl
 rw [List.length_map] at this
 have e3:es.toList.length = es.size:=rfl
 omega
section
variable {X:Cx} {pins:List (Addr × Obj)} {σ : St} {H:Hp} {s:Shared} {ok:Addr->Prop}
end
section
variable {X:Cx}
end
def byTx (w:World):Bool:=w.params.followText "set-order"
def Gd (w:World) (es:Array (Int × Value)) (t:SetTable):Prop:=(es.toList.map fun e=>keyOf e.2).Nodup/\(byTx w = true\/t.led = true)/\(t.plain = true->es.size = 0)
def SetW (P:Program) (w:World) (h:Heap) (a:Addr) (S:Str->Bool) (n:Nat):Prop:=
 ∃ o es ep t,h.get? a = some o/\o.ExactSet/\o.data = .set es ep t/\ElemsOf (PySem.strKind P w) es.toList/\(∀ k,S k = true ↔ ∃ e ∈ es.toList,(PySem.strKind P w).is k e.2 = true)
 /\es.size < scanBound/\t.fits es.size = true/\es.size = n/\Gd w es t
theorem layNew_led (t:SetTable) (es:Array (Int × Value)) (h:Int) (x:Value):(layNew t es h x).2.1.led = t.led:=by
 unfold layNew
 split
 ·rename_i slot wd _
  show ((t.put slot).1.orStandIn _).led = t.led
  unfold SetTable.orStandIn
  split <;> rfl
 ·rfl
theorem relayAll_led (t:SetTable) (es:Array (Int × Value)) (k:Nat):(relayAll t es k).2.1.led = t.led:=by
 unfold relayAll
 split
 ·rename_i t' order hr
  dsimp only
  split
  ·unfold SetTable.relaid SetTable.laid at hr
   cases hq:SetTable.layClean (SetTable.sizeAbove k - 1) (es.map (·.1)) with
   | none=>rw [hq] at hr; cases hr
   | some ow=>rw [hq] at hr; injection hr with hr; injection hr with h1 h2; rw [<- h1]
  ·rfl
 ·rfl
theorem relayAll_plain (t:SetTable) (es:Array (Int × Value)) (k:Nat) (h:t.plain = false):(relayAll t es k).2.1.plain = false:=by
 unfold relayAll
 split
 ·rename_i t' order hr
  dsimp only
  split
  ·unfold SetTable.relaid SetTable.laid at hr
   cases hq:SetTable.layClean (SetTable.sizeAbove k - 1) (es.map (·.1)) with
   | none=>rw [hq] at hr; cases hr
   | some ow=>rw [hq] at hr; injection hr with hr; injection hr with h1 h2; rw [<- h1]; exact h
  ·rfl
 ·rfl
section
variable {P:Program} {w:World} {A:Around} {E:Value->Shared->Prop} {s:Shared}
theorem addTailW {g:Bool->Sem Unit} (hg:∀ (b:Bool) (s₁:Shared) (Q':Unit->Shared->Prop),Q' () s₁->wpAny (model P w) A (g b) Q' E s₁)
  {a:Addr} {o:Obj} {es:Array (Int × Value)} {ep:Nat} {t:SetTable} (ho:s.heap.get? a = some o) (hex:o.ExactSet) (hd:o.data = .set es ep t)
  {es1:Array (Int × Value)} {t2:SetTable} {S':Str->Bool} (hel1:ElemsOf (PySem.strKind P w) es1.toList) (hmem1:∀ k',S' k' = true ↔ ∃ e ∈ es1.toList,(PySem.strKind P w).is k' e.2 = true)
  (hb1:es1.size < scanBound) (hf2:t2.fits es1.size = true) (hnd:(es1.toList.map fun e=>keyOf e.2).Nodup) (hld:byTx w = true\/t2.led = true) (hpl:t2.plain = false) {wasDummy:Bool} {R:Option Bool->Shared->Prop}
  (h:∀ h',Heap.SameBut a s.heap h'->SetW P w h' a S' es1.size->R (some true) { s with heap:=h' }) :
  wpAny (model P w) A (do
    storeSet a es1 t2
    if (!wasDummy && t2.tooFull) = true then do
      g (relayAll t2 es1 (SetTable.grown es1.size)).2.2
      storeSet a (relayAll t2 es1 (SetTable.grown es1.size)).1 (relayAll t2 es1 (SetTable.grown es1.size)).2.1
      pure (some true)
     else pure (some true)) R E s:=by
 refine wpAny_bind (wpAny_storeSet_of ho hd ?_ (fits_of_scanBound hb1))
 obtain ⟨ho1,hS1⟩:=SetOf_store (knd:=PySem.strKind P w) ho hex hd hel1 hmem1 hb1 hf2
 have hsb1:=Heap.SameBut.update s.heap a (Obj.putSet es1 t2)
 split
 ·have hp:=relayAll_perm t2 es1 (SetTable.grown es1.size)
  have hfr:=relayAll_fits t2 es1 (SetTable.grown es1.size)
  have hl:=relayAll_led t2 es1 (SetTable.grown es1.size)
  have hpp:=relayAll_plain t2 es1 (SetTable.grown es1.size) hpl
  generalize hRl:relayAll t2 es1 (SetTable.grown es1.size) = Rl at hp hfr hl hpp |-
  obtain ⟨es2,t3,gave2⟩:=Rl
  dsimp only at hp hfr hl hpp |-
  have hel2:ElemsOf (PySem.strKind P w) es2.toList:=hel1.perm hp
  have hmem2:∀ k',S' k' = true ↔ ∃ e ∈ es2.toList,(PySem.strKind P w).is k' e.2 = true:=fun k'=>(hmem1 k').trans ⟨fun ⟨e,he,q⟩=>⟨e,hp.mem_iff.mpr he,q⟩,fun ⟨e,he,q⟩=>⟨e,hp.mem_iff.mp he,q⟩⟩
  have hsz:es2.size = es1.size:=by rw [<- Array.length_toList,hp.length_eq,Array.length_toList]
  have hb2:es2.size < scanBound:=by rw [hsz]; exact hb1
  refine wpAny_bind (hg _ _ _ ?_)
  refine wpAny_bind (wpAny_storeSet_of ho1 rfl ?_ (fits_of_scanBound hb2))
  obtain ⟨hg2,_⟩:=SetOf_store (knd:=PySem.strKind P w) ho1 hex rfl hel2 hmem2 hb2 hfr
  exact wpAny_pure (h _ (hsb1.trans (Heap.SameBut.update _ a _)) ⟨_,es2,_,t3,hg2,hex,rfl,hel2,hmem2,hb2,hfr,hsz,(hp.map _).nodup_iff.mpr hnd,by rw [hl]; exact hld,fun e=>by rw [hpp] at e; cases e⟩)
 ·exact wpAny_pure (h _ hsb1 ⟨_,es1,_,t2,ho1,hex,rfl,hel1,hmem1,hb1,hf2,rfl,hnd,hld,fun e=>by rw [hpl] at e; cases e⟩)
theorem setAddW {a:Addr} {S:Str->Bool} {n:Nat} {z:Str} {tk:Tok} {Q:Bool->Shared->Prop} (hS:SetW P w s.heap a S n)
  (hroom:n + 1 < scanBound)
  (h:∀ h',Heap.SameBut a s.heap h'->SetW P w h' a (fun k'=>S k' || decide (k' = z)) (if S z then n else n + 1)->Q (!S z) { s with heap:=h' }) :
  wpAny (model P w) A (setAddHashed a (.str z tk) ((PySem.strKind P w).hash z)) Q E s:=by
 have hkey:(PySem.strKind P w).is z (.str z tk) = true:=strKind_is _ _ _ _
 have hsc:(Value.str z tk).scannable = true:=rfl
 obtain ⟨o,es,ep,t,ho,hex,hd,hel,hmem,hb,hf,hn,hnd,hld,hpl⟩:=hS
 have hb1:es.size + 1 < scanBound:=by rw [hn]; exact hroom
 unfold setAddHashed setAddHashedIn
 refine wpAny_holding (wpAny_bind (wpAny_setState_of ho hd hf ?_))
 dsimp only
 rw [byScan_of hsc hb hel]
 simp only [↓reduceIte]
 unfold setAddByScan
 refine wpAny_bind ?_
 refine wpAny_bind (wpAny_rule ?_)
 refine wpAny_bind (wpAny_setScan_of hkey ho hd hf hel ?_)
 cases hr:List.findIdx? (fun e=>(PySem.strKind P w).is z e.2) es.toList with
 | some j=>
  dsimp only
  obtain ⟨hj,hpj,_⟩:=List.findIdx?_eq_some_iff_getElem.mp hr
  have hSk:S z = true:=(hmem z).mpr ⟨es.toList[j],List.getElem_mem hj,hpj⟩
  refine wpAny_pure (wpAny_pure ?_)
  have e:s = { s with heap:=s.heap }:=by cases s; rfl
  have:=h s.heap (Heap.SameBut.refl a s.heap) ⟨o,es,ep,t,ho,hex,hd,hel,fun k'=>by
   rw [Bool.or_eq_true,decide_eq_true_eq,<- hmem k']
   exact ⟨fun hk=>hk.elim id (fun e=>e ▸ hSk),.inl⟩,hb,hf,by rw [hSk]; exact hn,hnd,hld,hpl⟩
  rw [hSk] at this; rw [e]; exact this
 | none=>
  dsimp only
  have hSk:S z = false:=by
   cases hk:S z with
   | false=>rfl
   | true=>obtain ⟨e,he,hp⟩:=(hmem z).mp hk; have:=List.findIdx?_eq_none_iff.mp hr e he; rw [hp] at this; exact Bool.noConfusion this
  have hgw:∀ (b:Bool) {s₁:Shared} {Q':Unit->Shared->Prop},Q' () s₁->wpAny (model P w) A (match b with | true=>rule "set.scan.the-table-gave-way" | false=>pure ()) Q' E s₁:=
   fun b s₁ Q' hq=>by cases b <;> first | exact wpAny_pure hq | exact wpAny_rule hq
  have hperm:=layNew_perm t es ((PySem.strKind P w).hash z) (.str z tk)
  have hfits:=layNew_fits t es ((PySem.strKind P w).hash z) (.str z tk)
  have hled:=layNew_led t es ((PySem.strKind P w).hash z) (.str z tk)
  generalize hL:layNew t es ((PySem.strKind P w).hash z) (.str z tk) = L at hperm hfits hled |-
  obtain ⟨es1,t1,wasDummy,gave⟩:=L
  dsimp only at hperm hfits hled |-
  rw [Array.toList_push] at hperm
  have hel1:ElemsOf (PySem.strKind P w) es1.toList:=(hel.push hkey hsc).perm hperm
  have hmem1:∀ k',(S k' || decide (k' = z)) = true ↔ ∃ e ∈ es1.toList,(PySem.strKind P w).is k' e.2 = true:=mem_push_iff hkey hmem hperm
  have hb1':es1.size < scanBound:=by rw [<- Array.length_toList,hperm.length_eq,List.length_append,Array.length_toList]; simpa using hb1
  have hnd1:(es1.toList.map fun e=>keyOf e.2).Nodup:=by
   refine (hperm.map _).nodup_iff.mpr ?_
   rw [List.map_append,List.nodup_append]
   refine ⟨hnd,List.nodup_cons.mpr ⟨List.not_mem_nil,List.nodup_nil⟩,fun x hx y hy e=>?_⟩
   obtain ⟨e1,he1,rfl⟩:=List.mem_map.mp hx
   have hy:y = z:=by simpa [keyOf] using hy
   obtain ⟨⟨k1,hk1,_⟩,_⟩:=hel e1 he1
   obtain ⟨tk1,e3⟩:=Value.isStrOf_shape hk1
   have h2:(PySem.strKind P w).is z e1.2 = true:=by
    rw [e3] at e |-
    have:k1 = z:=e.trans hy
    rw [this]
    exact strKind_is _ _ _ _
   have h3:=List.findIdx?_eq_none_iff.mp hr e1 he1
   rw [h2] at h3
   cases h3
  refine wpAny_bind (hgw _ ?_)
  have hsz1:es1.size = n + 1:=by rw [<- Array.length_toList,hperm.length_eq,List.length_append,Array.length_toList,hn]; rfl
  have hend:∀ h',Heap.SameBut a s.heap h'->SetW P w h' a (fun k'=>S k' || decide (k' = z)) es1.size->Q true { s with heap:=h' }:=by
   intro h' hsb hS'; have:=h h' hsb; rw [hSk] at this; rw [hsz1] at hS'; exact this hS'
  split
  ·refine wpAny_bind ?_
   rw [hashByValue_scannable 8 hsc]
   refine wpAny_pure ?_
   refine addTailW ?_ ho hex hd hel1 hmem1 hb1' ?_ hnd1 ?_ ?_ ?_
   ·intro b s₁ Q' hq; cases b <;> first | exact wpAny_pure hq | exact wpAny_rule hq
   ·split
    ·exact hfits
    ·exact SetTable.fits_plain_off hfits
   ·split <;> (rw [show (byTx w = true\/_) = _ from rfl]; exact hld.imp id fun e=>by simpa [hled] using e)
   ·rw [if_neg (show ¬ (plainKind (Value.str z tk) = true) from Bool.false_ne_true)]
   ·intro h' hsb hS'; dsimp only; exact wpAny_pure (hend h' hsb hS')
  ·rename_i hpf
   refine wpAny_bind (wpAny_pure ?_)
   simp only [↓reduceIte]
   refine addTailW ?_ ho hex hd hel1 hmem1 hb1' hfits hnd1 ?_ ?_ ?_
   ·intro b s₁ Q' hq; cases b <;> first | exact wpAny_pure hq | exact wpAny_rule hq
   ·rw [hled]; exact hld
   ·simpa using hpf
   ·intro h' hsb hS'; dsimp only; exact wpAny_pure (hend h' hsb hS')
end
section
variable {P:Program} {w:World} {A:Around} {R:Result->Shared->Prop} {I:Addr} {fp wr:List Addr} {G:Array GenState->Array GenState->Prop} {n:Nat} {Pr:Nat->Value->Prop} {Sg:Nat->Shared->Prop}
theorem texts_loopW (W:WalksS P w A.in1 I fp wr G n Pr Sg) (a:Addr) (ha:a ∉ fp) (val:Nat->Str) (hv:∀ i v,Pr i v->∃ t,v = .str (val i) t) (hb:n + 1 < scanBound) :
  ∀ (k i:Nat) (s:Shared) (T:Str->Bool) (c:Nat),n - i = k->i<=n->Sg i s->c<=i->SetW P w s.heap a T c->
   (∀ s' c',Moved (a :: wr) G s s'->c'<=n->SetW P w s'.heap a (seen val T i k) c'->R (.ok (.ret .none)) s')->
   codeAny (model P w) A (.builtin "set.update.loop" ⟨[.ref a,.ref I],[]⟩) R s
 | 0,i,s,T,c,hk,hi,hg,hc,hT,hR=>by
  have hw:a ∉ wr:=fun z=>ha (W.sub _ z)
  have ei:i = n:=by omega
  subst ei
  refine codeAny_builtin PyProof.Rows.F.entry_set_update_loop ?_; rw [Around.under_plainId PyProof.Rows.F.plain_set_update_loop _]
  show wpAny _ A.in1 (pyNext (.ref I) >>= _) _ _ _; refine wpAny_bind (W.done s _ _ hg fun s' hm=>?_)
  show wpAny _ A.in1 (ret Value.none) _ _ _; refine wpAny_pure (hR s' c (hm.mono fun b z=>List.mem_cons_of_mem _ z) hc ?_)
  obtain ⟨ob,es,ep,t,h1,h2⟩:=hT
  exact ⟨ob,es,ep,t,hm.heap a _ hw h1,h2⟩
 | k + 1,i,s,T,c,hk,hi,hg,hc,hT,hR=>by
  have hw:a ∉ wr:=fun z=>ha (W.sub _ z)
  have hlt:i < n:=by omega
  refine codeAny_builtin PyProof.Rows.F.entry_set_update_loop ?_; rw [Around.under_plainId PyProof.Rows.F.plain_set_update_loop _]
  show wpAny _ A.in1 (pyNext (.ref I) >>= _) _ _ _; refine wpAny_bind (W.item i s _ _ hlt hg fun v s' hP hg' hm=>?_)
  obtain ⟨t,rfl⟩:=hv i v hP
  have hT':SetW P w s'.heap a T c:=by
   obtain ⟨ob,es,ep,tb,h1,h2⟩:=hT
   exact ⟨ob,es,ep,tb,hm.heap a _ hw h1,h2⟩
  show wpAny _ A.in1 (holding [Value.str (val i) t] (setAdd a (.str (val i) t)) >>= _) _ _ s'
  refine wpAny_bind (wpAny_holding ?_); unfold setAdd; refine wpAny_holding ?_
  refine wpAny_bind ((PySem.strKind P w).pyHash (k:=val i) (strKind_is _ _ _ _) ?_)
  refine setAddW (s:={ s' with toks:=s'.toks + 1 }) hT' (by omega) fun h' hsb h3=>?_
  refine wpAny_pure ⟨plainId_quiet PyProof.Rows.F.plain_set_update_loop _,texts_loopW W a ha val hv hb k (i + 1) _ _ _ (by omega) hlt (W.frame _ s' _ _ hg' (Nat.le_succ _) fun b hb' o e=>?_) (by split <;> omega) h3 fun s2 c2 hm2 hc2 h4=>?_⟩
  ·have:b ≠ a:=fun z=>ha (z ▸ hb')
   rw [hsb.2 b this]; exact e
  ·refine hR s2 c2 (Moved.trans W.gtrans ((hm.mono fun b z=>List.mem_cons_of_mem _ z).then_heap (Nat.le_succ _) fun b o hb' e=>?_) hm2) hc2 h4
   have:b ≠ a:=fun z=>hb' (z ▸ List.mem_cons_self)
   rw [hsb.2 b this]; exact e
end
theorem code_set_newW {P:Program} {w:World} {A:Around} {E:Value->Shared->Prop} {s:Shared} (a:Value) {Q₁:Value->Shared->Prop}
  (h:Q₁ (.ref s.heap.objs.size) { s with heap:=s.heap.push (setN (!byTx w)) }) :
  codeAny (model P w) A (.call (.builtin "set.__new__") ⟨[.type "set",a],[]⟩) (wants Q₁ E) s:=by
 refine codeAny_of_tree ?_
 show wpAny _ A.in1 (do checkBuiltinCall "set.__new__" ⟨[.type "set",a],[]⟩; again (.builtin "set.__new__" ⟨[.type "set",a],[]⟩)) _ _ s
 refine wpAny_bind (wpAny_of_eq (PySem.F.newCall_set_1 a) (wpAny_pure ⟨plainId_quiet PySem.F.plain_set_new _,codeAny_builtin PySem.F.entry_set_new ?_⟩))
 rw [Around.under_plainId PySem.F.plain_set_new _]
 unfold Builtin.«set.__new__» Builtin.Frozenset.newClass
 have hsub:=PySem.sub_set_self
 obtain ⟨hp,g,d,tk,os⟩:=s
 dsimp only
 wp_walk
 refine wpAny_askSetting (wpAny_pure ?_)
 dsimp only
 simp only [newObj]
 refine wpAny_bind (wpAny_alloc (wpAny_pure ?_))
 exact wpAny_pure h
set_option maxHeartbeats 8000000 in
theorem call_textsW {P:Program} {w:World} {A:Around} {E:Value->Shared->Prop} {s:Shared} {l:Addr} {items:Array Value} {zs:List Str} {Q:Value->Shared->Prop}
  (hh:A.handled = none) (hl:s.heap.IsList l items) (hv:∀ (i:Nat) (v:Value),items[i]? = some v->∃ t,v = .str (zs.getD i "") t) (hb:items.size + 1 < scanBound)
  (h:∀ (h':Heap) (tk c:Nat),SetW P w h' s.heap.objs.size (seen (fun i=>zs.getD i "") (fun _=>false) 0 items.size) c->(∀ b o,b < s.heap.objs.size->s.heap.get? b = some o->h'.get? b = some o)->Q (.ref s.heap.objs.size) { s with heap:=h',toks:=tk }) :
  wpAny (model P w) A (call (.type "set") [.ref l]) Q E s:=by
 obtain ⟨mc,mt,mro⟩:=PySem.F.called_set.mro
 have q1:=PySem.F.called_set.made; have q2:=PySem.F.called_set.sub; have q3:=PySem.F.called_set.notType; have q4:=PySem.F.called_set.canCreate; have q5:=PySem.F.typeCall_set_1 (.ref l)
 refine wpAny_call (codeAny_of_tree ?_); show wpAny _ _ (callAny (.type "set") _) _ _ _
 refine wpAny_pure ⟨Code.quiet_builtin _ (by decide +kernel),codeAny_builtin PySem.F.entry_type_call ?_⟩; rw [Around.under_plain (weight_type_call_type "set" [.ref l] []) rfl]
 repeat (any_goals first | assumption | wp_step)
 refine codeAny_mono (code_set_newW (.ref l) (E:=E) (Q₁:=fun obj s₁=>∃ led:Bool,(byTx w = true\/led = true)/\obj = .ref s.heap.objs.size/\s₁ = { s with heap:=s.heap.push (setN led) }) ⟨!byTx w,by cases byTx w <;> simp,rfl,rfl⟩) fun r s₁ hr=>?_
 rcases r with e | (_ | _ | _ | obj)
 ·exact hr
 ·exact hr.elim
 ·exact hr.elim
 ·exact hr.elim
 ·obtain ⟨led,hled,rfl,rfl⟩:=hr
  have hS:(s.heap.push (setN led)).get? s.heap.objs.size = some (setN led):=Heap.get?_push_size _ rfl
  have hT:Shared.TypeIs { s with heap:=s.heap.push (setN led) } (.ref s.heap.objs.size) "set":=⟨_,hS,rfl⟩
  have q6:=PySem.F.called_set.init.lookup; have q7:=PySem.F.called_set.init.bind (.ref s.heap.objs.size)
  repeat (any_goals first | assumption | wp_step)
  refine codeAny_mono (codeAny_call_builtin (R:=wants (fun r s₂=>r = .none/\∃ h' tk c,s₂ = { s with heap:=h',toks:=tk }/\SetW P w h' s.heap.objs.size (seen (fun i=>zs.getD i "") (fun _=>false) 0 items.size) c/\∀ b o,b < s.heap.objs.size->s.heap.get? b = some o->h'.get? b = some o) E) PySem.F.called_set.init.plain PySem.F.entry_set_init (check_set_init_1 hT ?_)) fun r₂ s₂ hr₂=>?_
  ·obtain ⟨ol,hol,hcl,nl,hdl⟩:=id hl
   obtain ⟨ocls,odict,odata,oslots⟩:=ol
   simp only at hcl hdl
   subst hcl hdl
   have hol':(s.heap.push (setN led)).get? l = _:=Heap.get?_push_of_some (setN led) hol
   have t1:=PySem.F.sub_list_set; have t2:=PySem.F.sub_list_frozenset
   have t3:(Value.type "list" == Value.type "dict") = false:=by decide
   have hl1:(s.heap.push (setN led)).IsList l items:=⟨_,hol',rfl,nl,rfl⟩
   have hlS:l < s.heap.objs.size:=Heap.lt_size hol
   unfold Builtin.«set.__init__» noKeywords Builtin.Frozenset.updateFrom
   generalize hq:pyIter = pit
   wp_walk
   subst hq
   refine wpAny_pyIter_list hl1 (wpAny_bind (wpAny_runValue ?_))
   have hz:(s.heap.push (setN led)).objs.size = s.heap.objs.size + 1:=Heap.size_push ..
   have n1:l ≠ (s.heap.push (setN led)).objs.size:=by rw [hz]; exact Nat.ne_of_lt (Nat.lt_succ_of_lt hlS)
   have n2:∀ b:Addr,b < s.heap.objs.size->b ∉ [s.heap.objs.size,(s.heap.push (setN led)).objs.size]:=fun b hb' z=>by
    rw [hz] at z
    rcases List.mem_cons.mp z with e | e
    ·exact Nat.ne_of_lt hb' e
    ·exact Nat.ne_of_lt (Nat.lt_succ_of_lt hb') (List.mem_singleton.mp e)
   have n3:s.heap.objs.size ∉ [(s.heap.push (setN led)).objs.size,l]:=fun z=>by
    rw [hz] at z
    rcases List.mem_cons.mp z with e | e
    ·exact Nat.ne_of_lt (Nat.lt_succ_self _) e
    ·exact Nat.ne_of_gt hlS (List.mem_singleton.mp e)
   refine texts_loopW ((Walks.list (by simp [hh]) _ l n1 items).toS) s.heap.objs.size n3 (fun i=>zs.getD i "") hv hb items.size 0 _ (fun _=>false) 0 (by omega) (Nat.zero_le _) ⟨⟨_,Heap.get?_push_size _ rfl,rfl,rfl⟩,hl1.push _⟩ (Nat.le_refl _) ?_ ?_
   ·exact ⟨_,#[],0,_,Heap.get?_push_of_some _ hS,⟨rfl,rfl,rfl⟩,rfl,fun e he=>by simp at he,fun k=>by simp,by unfold scanBound; decide,by rfl,rfl,by simp,hled,fun _=>rfl⟩
   ·rintro ⟨h',g',d',tk',os'⟩ c' hm hc' hS'
    have e1:g' = s.gens:=hm.gens
    have e2:d' = s.drawn:=hm.drawn
    have e3:os' = s.os:=hm.os
    subst e1 e2 e3
    show wpAny _ _ _ _ _ _
    refine wpAny_pure ?_; show wpAny _ _ (ret Value.none) _ _ _
    refine wpAny_pure ⟨rfl,h',tk',c',rfl,hS',fun b o hb' e=>hm.heap b o (n2 b hb') (Heap.get?_push_of_some _ (Heap.get?_push_of_some _ e))⟩
  ·rcases r₂ with e | (_ | _ | _ | ob2)
   ·exact hr₂
   ·exact hr₂.elim
   ·exact hr₂.elim
   ·exact hr₂.elim
   ·obtain ⟨rfl,h',tk,c',rfl,hS',hk'⟩:=hr₂
    repeat (any_goals first | assumption | wp_step)
    exact h _ _ _ hS' hk'
theorem eraseIdx_perm {α : Type}:∀ (xs:List α) (i:Nat) (hi:i < xs.length),(xs[i] :: xs.eraseIdx i).Perm xs
 | [],i,hi=>absurd hi (Nat.not_lt_zero _)
 | x :: xs,0,_=>List.Perm.refl _
 | x :: xs,i + 1,hi=>(List.Perm.swap _ _ _).trans (List.Perm.cons x (eraseIdx_perm xs i (Nat.lt_of_succ_lt_succ hi)))
namespace FS
end FS
section
variable {P:Program} {w:World} {A:Around} {E:Value->Shared->Prop} {s:Shared}
end
end L2
namespace L2
open PySem PySem.Spec PyProof.Rows
section
variable {P:Program} {w:World} {A:Around} {E:Value->Shared->Prop} {s:Shared}
end
section
variable {X:Cx}
theorem argBest_le (bt:Nat->Nat->Bool):∀ k,argBest bt k<=k
 | 0=>Nat.le_refl _
 | k + 1=>by
  unfold argBest
  split
  ·exact Nat.le_refl _
  ·exact Nat.le_succ_of_le (argBest_le bt k)
theorem call_maxL (hc:X.calm = true):CallR X (.builtin "max") (fun xs H Q=>∃ (p:Addr) (ns:List Int),xs = [.ref p]/\SqL X.K H p (ns.map V.int)/\ns ≠ []/\∀ m ∈ ns,Q (.int m) H):=by
 intro pins s σ H xs us Q I r h
 obtain ⟨p,ns,rfl,hS,hne,q⟩:=h
 obtain ⟨u,rfl,ru⟩:=vals1 r
 cases ru
 obtain ⟨its,rv,hp,hz⟩:=I.list hS
 have hlen:its.length = ns.length:=by rw [<- rv.length,List.length_map]
 have hlt:p < s.heap.objs.size:=by obtain ⟨_,e,_⟩:=hp.isList; exact Heap.lt_size e
 have hpne:p ≠ s.heap.objs.size:=Nat.ne_of_lt hlt
 have hn0 : 0 < ns.length:=List.length_pos_iff.mpr hne
 have hval:∀ (i:Nat) (v:Value),its.toArray[i]? = some v->∃ t,v = .int (ns.getD i 0) t:=fun i v hP=>by
  have hv:its[i]? = some v:=by simpa using hP
  have hi:i < ns.length:=by rw [<- hlen]; exact (List.getElem?_eq_some_iff.mp hv).1
  obtain ⟨u',e1,t,e2⟩:=rv.get (i:=i) (x:=V.int ns[i]) (by rw [List.getElem?_map,List.getElem?_eq_getElem hi]; rfl)
  rw [hv] at e1
  cases e1
  refine ⟨t,?_⟩
  rw [e2,List.getD_eq_getElem?_getD,List.getElem?_eq_getElem hi]
  rfl
 refine call_max_walk (wpAny_pyIter_list hp.isList ?_)
 refine ⟨s.heap.objs.size,_,_,_,_,_,_,rfl,Walks.list (A:=X.A.in1) (I.ok.hd hc) s.heap.objs.size p hpne its.toArray,⟨⟨_,Heap.get?_push_size _ rfl,rfl,rfl⟩,hp.isList.push _⟩,fun b hb=>?_,by rw [List.size_toArray,hlen]; exact hn0,CmpOf.ints_gt (fun i=>ns.getD i 0) hval,fun v h' tk hP hk=>?_⟩
 ·show b < (s.heap.push _).objs.size
  rw [Heap.size_push]
  rcases List.mem_cons.mp hb with rfl | hb
  ·exact Nat.lt_succ_self _
  ·rcases List.mem_cons.mp hb with rfl | hb
   ·exact Nat.lt_succ_of_lt hlt
   ·cases hb
 ·obtain ⟨t,rfl⟩:=hval _ _ hP
  have hb:=argBest_le (fun i j=>decide (ns.getD i 0 > ns.getD j 0)) (its.toArray.size - 1)
  generalize argBest (fun i j=>decide (ns.getD i 0 > ns.getD j 0)) (its.toArray.size - 1) = k at hb hP |-
  rw [List.size_toArray,hlen] at hb
  have hkl:k < ns.length:=by omega
  refine ⟨.int (ns.getD k 0),H,I.kept (old_kept hk),⟨t,rfl⟩,q _ ?_⟩
  rw [List.getD_eq_getElem?_getD,List.getElem?_eq_getElem hkl]
  exact List.getElem_mem hkl
end
section
variable {prog:Program} {w:World} {A:Around} {E:Value->Shared->Prop} {s:Shared}
end
section
variable {X:Cx}
end
section
variable {P:Program} {w:World} {A:Around} {E:Value->Shared->Prop} {s:Shared}
end
section
variable {prog:Program} {w:World} {A:Around} {E:Value->Shared->Prop} {s:Shared} {l I S:Addr} {vs:List Value} {kid:String}
def Kp (I S:Addr) (h h':Heap):Prop:=∀ b o,b ≠ I->b ≠ S->h.get? b = some o->h'.get? b = some o
theorem min_loopK {R:Result->Shared->Prop} (kf:Nat->Int) (hh:A.handled = none) (h₀:Heap) (hl:h₀.IsList l vs.toArray) (hlI:l ≠ I) (hlS:l ≠ S) (hSI:S ≠ I)
  (turn:∀ (i:Nat) (v:Value),vs[i]? = some v->∀ (h:Heap) (tk:Nat),Kp I S h₀ h->∀ (Q:Value->Shared->Prop) (E:Value->Shared->Prop),(∀ t tk',Q (.int (kf i) t) { s with heap:=h,toks:=tk' })->wpAny (model prog w) A.in1 (call (.builtin kid) [v]) Q E { s with heap:=h,toks:=tk })
  (hR:∀ i v h' tk',vs[i]? = some v->(∀ j,j < vs.length->kf i<=kf j/\(j < i->kf i < kf j))->Kp I S h₀ h'->R (.ok (.ret v)) { s with heap:=h',toks:=tk' }) :
  ∀ (r j i:Nat) (h:Heap) (tk:Nat) (vb:Value) (tb:Tok) (c:Nat),vs.length - (j + 1) = r->j + 1<=vs.length->Kp I S h₀ h->h.get? S = some (seqObj "list" #[vb,.int (kf i) tb] c)->h.IsListIter I l (j + 1)->vs[i]? = some vb->i<=j->(∀ j',j'<=j->kf i<=kf j'/\(j' < i->kf i < kf j'))->
   codeAny (model prog w) A (.builtin "min.loop" ⟨[.ref I,.builtin kid,.ref S],[]⟩) R { s with heap:=h,toks:=tk }:=by
 have hname:(toString "min" ++ toString ".loop" : String) = "min.loop":=by decide
 have W:=Walks.list (prog:=prog) (w:=w) (A:=A.in1) hh I l hlI vs.toArray
 have hsz:vs.toArray.size = vs.length:=List.size_toArray ..
 have lat:∀ {h},Kp I S h₀ h->h.IsList l vs.toArray:=fun {h} k=>by
  obtain ⟨o,ho,q⟩:=hl
  exact ⟨o,k l o hlI hlS ho,q⟩
 intro r
 induction r with
 | zero=>
  intro j i h tk vb tb c hr hj F nS hit hvb hij hbest
  have hin:j + 1 = vs.length:=by omega
  refine codeAny_builtin PySem.F.entry_min_loop ?_
  rw [Around.under_plainId PySem.F.plain_min_loop _]
  show wpAny _ A.in1 (seqItems? (.ref S) >>= _) _ _ _
  refine wpAny_bind (wpAny_seqItems nS rfl ?_)
  show wpAny _ A.in1 (tryCatch (pyNext (.ref I)) _ >>= _) _ _ _
  refine wpAny_bind (wpAny_tryCatch (W.done _ _ _ ⟨by rw [hsz,<- hin]; exact hit,lat F⟩ fun h' tk' hk'=>?_))
  have hS':=hk' S _ (by simpa using hSI) nS
  show wpAny _ A.in1 (updateSeq S (fun _=>#[]) >>= _) _ _ _
  refine wpAny_bind ?_
  refine wpAny_updateSeq hS' rfl (wpAny_bind (wpAny_letGo (wpAny_pure ?_)))
  exact hR i vb _ _ hvb (fun j' hj'=>hbest j' (by omega)) fun b o hb1 hb2 e=>(Heap.get?_update_other _ _ (Ne.symm hb2)).trans (hk' b o (by simpa using hb1) (F b o hb1 hb2 e))
 | succ r ih=>
  intro j i h tk vb tb c hr hj F nS hit hvb hij hbest
  have hlt:j + 1 < vs.length:=by omega
  refine codeAny_builtin PySem.F.entry_min_loop ?_
  rw [Around.under_plainId PySem.F.plain_min_loop _]
  show wpAny _ A.in1 (seqItems? (.ref S) >>= _) _ _ _
  refine wpAny_bind (wpAny_seqItems nS rfl ?_)
  show wpAny _ A.in1 (tryCatch (pyNext (.ref I)) _ >>= _) _ _ _
  refine wpAny_bind (wpAny_tryCatch (W.item (j + 1) _ _ _ (by rw [hsz]; exact hlt) ⟨hit,lat F⟩ fun v h' tk' hP hst' hk'=>?_))
  have hv:vs[j + 1]? = some v:=by simpa using hP
  have F1:Kp I S h₀ h':=fun b o hb1 hb2 e=>hk' b o (by simpa using hb1) (F b o hb1 hb2 e)
  have nS1:=hk' S _ (by simpa using hSI) nS
  show wpAny _ A.in1 (tryCatch (holding [v] (call (.builtin kid) [v])) _ >>= _) _ _ _
  refine wpAny_bind (wpAny_tryCatch (wpAny_holding (turn (j + 1) v hv h' tk' F1 _ _ fun t2 tk2=>?_)))
  show wpAny _ A.in1 (tryCatch (holding [v,.int (kf (j + 1)) t2] (richCompare .Lt (.int (kf (j + 1)) t2) (.int (kf i) tb) >>= _)) _ >>= _) _ _ _
  refine wpAny_bind (wpAny_tryCatch (wpAny_holding (wpAny_bind (CmpOf.ints_lt (prog:=prog) (w:=w) (A:=A.in1) (P:=fun i v=>∃ t,v = .int (kf i) t) kf (fun i v h=>h) (j + 1) i _ _ _ _ _ ⟨t2,rfl⟩ ⟨tb,rfl⟩ ?_))))
  refine wpAny_bind (wpAny_holding (wpAny_truthy_bool ?_))
  refine wpAny_bind (wpAny_letGo (wpAny_pure ?_))
  by_cases hb':kf (j + 1) < kf i
  ·obtain ⟨c2,hc2⟩:∃ c2,(h'.update S (Obj.mapSeq fun _=>#[v,.int (kf (j + 1)) t2])).get? S = some (seqObj "list" #[v,.int (kf (j + 1)) t2] c2):=⟨_,get?_update_seq nS1 fun _=>#[v,.int (kf (j + 1)) t2]⟩
   simp only [hb',decide_true,if_true]
   refine wpAny_bind ?_
   refine wpAny_updateSeq nS1 rfl (wpAny_bind (wpAny_letGo ?_))
   rw [hname]
   refine wpAny_pure ⟨plainId_quiet PySem.F.plain_min_loop _,ih (j + 1) (j + 1) _ _ v t2 c2 (by omega) hlt (fun b o hb1 hb2 e=>(Heap.get?_update_other _ _ (Ne.symm hb2)).trans (F1 b o hb1 hb2 e)) hc2 (by
    obtain ⟨oI',hoI',q⟩:=hst'.1
    exact ⟨oI',(Heap.get?_update_other _ _ hSI).trans hoI',q⟩) hv (Nat.le_refl _) fun j' hj'=>?_⟩
   by_cases e:j' = j + 1
   ·subst e
    exact ⟨by omega,fun _=>by omega⟩
   ·have hb1:=hbest j' (by omega)
    have hb2:=hb1.1
    exact ⟨by omega,fun _=>by omega⟩
  ·simp only [hb',decide_false,Bool.false_eq_true,if_false]
   refine wpAny_bind (wpAny_letGo ?_)
   rw [hname]
   refine wpAny_pure ⟨plainId_quiet PySem.F.plain_min_loop _,ih (j + 1) i _ _ vb tb c (by omega) hlt F1 nS1 hst'.1 hvb (by omega) fun j' hj'=>?_⟩
   by_cases e:j' = j + 1
   ·subst e
    exact ⟨by omega,fun _=>by omega⟩
   ·exact hbest j' (by omega)
theorem call_minK {Q:Value->Shared->Prop} (kf:Nat->Int) (hh:A.handled = none) (hl:s.heap.IsList l vs.toArray) (hne : 0 < vs.length)
  (turn:∀ (i:Nat) (v:Value),vs[i]? = some v->∀ (h:Heap) (tk:Nat),(∀ b o,s.heap.get? b = some o->h.get? b = some o)->∀ (Q:Value->Shared->Prop) (E:Value->Shared->Prop),(∀ t tk',Q (.int (kf i) t) { s with heap:=h,toks:=tk' })->wpAny (model prog w) A.in1 (call (.builtin kid) [v]) Q E { s with heap:=h,toks:=tk })
  (hQ:∀ i v h' tk',vs[i]? = some v->(∀ j,j < vs.length->kf i<=kf j/\(j < i->kf i < kf j))->(∀ b o,s.heap.get? b = some o->h'.get? b = some o)->Q v { s with heap:=h',toks:=tk' }) :
  wpAny (model prog w) A (call (.builtin "min") [.ref l] [(Str.ofString "key",.builtin kid)]) Q E s:=by
 have hname:(toString "min" ++ toString ".loop" : String) = "min.loop":=by decide
 obtain ⟨ol,hol,_⟩:=id hl
 have hll:l < s.heap.objs.size:=Heap.lt_size hol
 refine kmb_tree PySem.F.kind_min PySem.F.plain_min PySem.F.entry_min (kmb_min_key _ _) ?_
 show wpAny _ A.in1 (Builtin.Builtins.bindParams "min" ["key","default"] 0 ⟨[],[(Str.ofString "key",.builtin kid)]⟩ >>= _) _ _ s
 refine wpAny_bind (wpAny_of_eq (show Builtin.Builtins.bindParams "min" ["key","default"] 0 ⟨[],[(Str.ofString "key",.builtin kid)]⟩ = pure [some (.builtin kid),none] from rfl) ?_)
 refine wpAny_bind (wpAny_pure ?_)
 refine wpAny_bind (wpAny_pyIter_list hl ?_)
 refine wpAny_bind (wpAny_newList ?_ (Nat.zero_le _))
 rw [hname]
 have hS:(s.heap.push { cls:=.type "list_iterator",data:=.fields #[.ref l,.int 0 0] }).objs.size = s.heap.objs.size + 1:=size_push' ..
 have hlI:l ≠ s.heap.objs.size:=Nat.ne_of_lt hll
 have hSI:(s.heap.push { cls:=.type "list_iterator",data:=.fields #[.ref l,.int 0 0] }).objs.size ≠ s.heap.objs.size:=by rw [hS]; exact Nat.ne_of_gt (Nat.lt_succ_self _)
 have hlS:l ≠ (s.heap.push { cls:=.type "list_iterator",data:=.fields #[.ref l,.int 0 0] }).objs.size:=by rw [hS]; exact Nat.ne_of_lt (Nat.lt_succ_of_lt hll)
 refine wpAny_pure ⟨plainId_quiet PySem.F.plain_min_loop _,?_⟩
 have gI:((s.heap.push { cls:=.type "list_iterator",data:=.fields #[.ref l,.int 0 0] }).push (seqObj "list" #[] 0)).get? s.heap.objs.size = some { cls:=.type "list_iterator",data:=.fields #[.ref l,.int 0 0] }:=
  Heap.get?_push_of_some _ (Heap.get?_push_size _ rfl)
 have gS:((s.heap.push { cls:=.type "list_iterator",data:=.fields #[.ref l,.int 0 0] }).push (seqObj "list" #[] 0)).get? (s.heap.push { cls:=.type "list_iterator",data:=.fields #[.ref l,.int 0 0] }).objs.size = some (seqObj "list" #[] 0):=Heap.get?_push_size _ rfl
 have old:∀ b o,s.heap.get? b = some o->((s.heap.push { cls:=.type "list_iterator",data:=.fields #[.ref l,.int 0 0] }).push (seqObj "list" #[] 0)).get? b = some o:=fun b o e=>Heap.get?_push_of_some _ (Heap.get?_push_of_some _ e)
 have nold:∀ b o,s.heap.get? b = some o->b ≠ s.heap.objs.size/\b ≠ (s.heap.push { cls:=.type "list_iterator",data:=.fields #[.ref l,.int 0 0] }).objs.size:=fun b o e=>⟨Nat.ne_of_lt (Heap.lt_size e),by rw [hS]; exact Nat.ne_of_lt (Nat.lt_succ_of_lt (Heap.lt_size e))⟩
 generalize (s.heap.push { cls:=.type "list_iterator",data:=.fields #[.ref l,.int 0 0] }).push (seqObj "list" #[] 0) = hp at gI gS old |-
 generalize (s.heap.push { cls:=.type "list_iterator",data:=.fields #[.ref l,.int 0 0] }).objs.size = S at hSI hlS gS nold |-
 generalize hI0:s.heap.objs.size = I at hlI hSI gI nold |-
 have hl0:hp.IsList l vs.toArray:=by
  obtain ⟨o,ho,q⟩:=hl
  exact ⟨o,old l o ho,q⟩
 have W:=Walks.list (prog:=prog) (w:=w) (A:=A.in1) hh I l hlI vs.toArray
 have hsz:vs.toArray.size = vs.length:=List.size_toArray ..
 refine codeAny_builtin PySem.F.entry_min_loop ?_
 rw [Around.under_plainId PySem.F.plain_min_loop _]
 show wpAny _ A.in1 (seqItems? (.ref _) >>= _) _ _ _
 refine wpAny_bind (wpAny_seqItems gS rfl ?_)
 show wpAny _ A.in1 (tryCatch (pyNext (.ref I)) _ >>= _) _ _ _
 refine wpAny_bind (wpAny_tryCatch (W.item 0 _ _ _ (by rw [hsz]; exact hne) ⟨⟨_,gI,rfl,rfl⟩,hl0⟩ fun v h' tk' hP hst' hk'=>?_))
 have hv:vs[0]? = some v:=by simpa using hP
 have gS1:=hk' S _ (by simpa using hSI) gS
 have F1:Kp I S hp h':=fun b o hb1 hb2 e=>hk' b o (by simpa using hb1) e
 show wpAny _ A.in1 (tryCatch (holding [v] (call (.builtin kid) [v])) _ >>= _) _ _ _
 refine wpAny_bind (wpAny_tryCatch (wpAny_holding (turn 0 v hv h' tk' (fun b o e=>F1 b o (nold b o e).1 (nold b o e).2 (old b o e)) _ _ fun t2 tk2=>?_)))
 obtain ⟨c2,hc2⟩:∃ c2,(h'.update S (Obj.mapSeq fun _=>#[v,.int (kf 0) t2])).get? S = some (seqObj "list" #[v,.int (kf 0) t2] c2):=⟨_,get?_update_seq gS1 fun _=>#[v,.int (kf 0) t2]⟩
 show wpAny _ A.in1 (updateSeq S (fun _=>#[v,.int (kf 0) t2]) >>= _) _ _ _
 refine wpAny_bind ?_
 refine wpAny_updateSeq gS1 rfl ?_
 rw [hname]
 refine wpAny_pure ⟨plainId_quiet PySem.F.plain_min_loop _,min_loopK kf hh hp hl0 hlI hlS hSI (fun i v hv h tk k Q E q=>turn i v hv h tk (fun b o e=>k b o (nold b o e).1 (nold b o e).2 (old b o e)) Q E q) (fun i v h' tk' hv hb k=>hQ i v h' tk' hv hb fun b o e=>k b o (nold b o e).1 (nold b o e).2 (old b o e)) _ 0 0 _ _ v t2 c2 rfl hne (fun b o hb1 hb2 e=>(Heap.get?_update_other _ _ (Ne.symm hb2)).trans (F1 b o hb1 hb2 e)) hc2 (by
  obtain ⟨oI',hoI',q⟩:=hst'.1
  exact ⟨oI',(Heap.get?_update_other _ _ hSI).trans hoI',q⟩) hv (Nat.le_refl _) fun j' hj'=>?_⟩
 have e:j' = 0:=by omega
 subst e
 exact ⟨by omega,fun h=>absurd h (Nat.lt_irrefl _)⟩
end
section
variable {X:Cx}
def LstAt (H:Hp) (x:V) (ys:List V):Prop:=∃ a,x = .ref a/\H a = some (.lst ys)
def tMinLen (K:PySem.W.Frag) (ta:TA):TE:=fun σ H Q=>ta σ H fun vs H1=>∃ (q:Addr) (xs:List V) (yss:List (List V)),vs = [.ref q]/\SqL K H1 q xs/\Paired (LstAt H1) xs yss/\0 < xs.length/\
 ∀ (i:Nat) (x:V) (ys:List V),xs[i]? = some x->yss[i]? = some ys->(∀ (j:Nat) (ys':List V),yss[j]? = some ys'->ys.length<=ys'.length/\(j < i->ys.length < ys'.length))->Q x H1
theorem pe_minLen {a:Expr} {ta:TA} {p p2 pos kp:Pos} (hc:X.calm = true) (hg:Gl X "min") (hm:X.mg "min" = none) (hgl:Gl X "len") (hml:X.mg "len" = none) (ha:PA X [a] ta) (h1:isSt a = false:=by rfl) :
  PE X (.Call (.Name "min" p) [a] [⟨some "key",.Name "len" p2,kp⟩] pos) (tMinLen X.K ta):=by
 refine ⟨?_⟩
 intro pins s σ H Q I h
 refine wpAny_Call_Name_kw (ld_blt I hg hm boot_min ?_)
 refine callWith_kw (env:=X.env) (id:="min") (e:=a) (rest:=[]) (thn (ha pos pins s σ H _ I h) fun us s1 ⟨vs,H1,I1,r1,q,xs,yss,e,hS,hp,h0,k⟩=>?_) (by rw [star_cons h1]; rfl) (by rw [star_cons h1]; rfl) rfl rfl
 subst e
 cases r1 with
 | cons r rr=>
  cases rr
  cases r
  refine kws_cons (ld_blt I1 hgl hml PySem.boot_len (kws_nil ?_))
  obtain ⟨its,rv,hpl,hz⟩:=I1.list hS
  have hlen:its.length = xs.length:=rv.length.symm
  have hly:xs.length = yss.length:=hp.length
  have at_:∀ (i:Nat) (v:Value),its[i]? = some v->∃ (b:Addr) (ys:List V),v = .ref b/\xs[i]? = some (.ref b)/\yss[i]? = some ys/\H1 b = some (.lst ys):=fun i v hv=>by
   have hi:i < xs.length:=by rw [<- hlen]; exact (List.getElem?_eq_some_iff.mp hv).1
   obtain ⟨ys,hy,b,e1,e2⟩:=Paired.get hp (List.getElem?_eq_getElem hi)
   obtain ⟨v',e3,e4⟩:=rv.get (i:=i) (List.getElem?_eq_getElem hi)
   rw [hv] at e3
   cases e3
   rw [e1] at e4
   cases e4
   exact ⟨b,ys,rfl,by rw [List.getElem?_eq_getElem hi,e1],hy,e2⟩
  refine call_minK (fun i=>((yss.getD i []).length:Int)) (I1.ok.hd hc) hpl.isList (by rw [hlen]; exact h0) (fun i v hv h tk keep Q' E' q'=>?_) (fun i v h' tk' hv hb keep=>?_)
  ·obtain ⟨b,ys,rfl,ex,ey,eb⟩:=at_ i v hv
   obtain ⟨ib,vb,pb,hzb⟩:=I1.list (SqL.of eb)
   have e1:(yss.getD i []).length = ib.toArray.size:=by
    rw [List.getD_eq_getElem?_getD,ey,List.size_toArray]
    exact vb.length
   obtain ⟨ob,hob,qb⟩:=pb.isList
   have hn:=line63
   refine Calls.call_len_list (items:=ib.toArray) ⟨ob,keep b ob hob,qb⟩ (by have:=vb.length; simp only [List.size_toArray]; omega) ?_
   have:=q' (tk + 1) (tk + 1 + 1)
   rw [e1] at this
   exact this
  ·obtain ⟨b,ys,rfl,ex,ey,eb⟩:=at_ i v hv
   refine ⟨.ref b,H1,I1.kept keep,rfl,k i (.ref b) ys ex ey fun j ys' hj=>?_⟩
   have hjl:j < its.length:=by rw [hlen,hly]; exact (List.getElem?_eq_some_iff.mp hj).1
   have:=hb j hjl
   rw [List.getD_eq_getElem?_getD,List.getD_eq_getElem?_getD,ey,hj] at this
   exact ⟨by have:=this.1; simpa using this,fun c=>by have:=this.2 c; simpa using this⟩
end
end L2
namespace K32
open PySem L2 PyProof.Rows
abbrev cLess:List Str:=[Str.ofString "less"]
abbrev cMore:List Str:=[Str.ofString "more"]
abbrev cIn (z:Str):List Str:=[Str.ofString "in",z]
abbrev cOut (z:Str):List Str:=[Str.ofString "out",z]
def mtC (rows:List Rw) (names:List Str) (m:Str × Nat):List Str:=if m.1 = Str.ofString "lacking" then cIn (((rows[m.2]?).map (·.z)).getD "") else cOut (names.getD m.2 "")
def mtF (rows:List Rw) (bars:List Str) (w many:Nat) (names:List Str):List (List Str):=List.replicate (many - w) cLess ++ List.replicate (w - many) cMore ++ (missF rows bars w names).map (mtC rows names)
def Runs (G:Nat->List Str->Prop):List (List Str)->Nat->List Str->Prop
 | [],m,ns=>G m ns
 | c :: r,m,ns=>(c = cLess/\0 < m/\Runs G r (m - 1) ns)\/(c = cMore/\Runs G r (m + 1) ns)\/(∃ z,c = cIn z/\Runs G r m (ns ++ [z]))\/(∃ z,c = cOut z/\z ∈ ns/\∀ i,ns[i]? = some z->Runs G r m (ns.eraseIdx i))
section
variable {G:Nat->List Str->Prop}
theorem runs_less (r:List (List Str)) (ns:List Str):∀ (a m:Nat),a<=m->Runs G r (m - a) ns->Runs G (List.replicate a cLess ++ r) m ns
 | 0,m,_,h=>h
 | a + 1,m,hm,h=>.inl ⟨rfl,by omega,runs_less r ns a (m - 1) (by omega) (by rw [show m - 1 - a = m - (a + 1) by omega]; exact h)⟩
theorem runs_more (r:List (List Str)) (ns:List Str):∀ (b m:Nat),Runs G r (m + b) ns->Runs G (List.replicate b cMore ++ r) m ns
 | 0,m,h=>h
 | b + 1,m,h=>.inr (.inl ⟨rfl,runs_more r ns b (m + 1) (by rw [show m + 1 + b = m + (b + 1) by omega]; exact h)⟩)
theorem runs_in (m:Nat):∀ (is ns:List Str),Runs G [] m (ns ++ is)->Runs G (is.map cIn) m ns
 | [],ns,h=>by rw [List.append_nil] at h; exact h
 | z :: is,ns,h=>.inr (.inr (.inl ⟨z,rfl,runs_in m is (ns ++ [z]) (by rw [List.append_assoc]; exact h)⟩))
theorem runs_out (r:List (List Str)) (m:Nat):∀ (os rest ns:List Str),ns.Perm (os ++ rest)->(∀ ns',ns'.Perm rest->Runs G r m ns')->Runs G ((os.map cOut) ++ r) m ns
 | [],rest,ns,hp,h=>h ns hp
 | z :: os,rest,ns,hp,h=>.inr (.inr (.inr ⟨z,rfl,hp.mem_iff.mpr List.mem_cons_self,fun i hi=>by
   obtain ⟨hl,e⟩:=List.getElem?_eq_some_iff.mp hi
   refine runs_out r m os rest (ns.eraseIdx i) ?_ h
   have h1:=eraseIdx_perm ns i hl
   rw [e] at h1
   exact List.Perm.cons_inv (h1.trans hp)⟩))
end
theorem fp_spec:∀ (zs:List Str) (i:Nat) (acc:List (Str × Nat)),(acc.map (·.1)).Nodup->∃ new:List (Str × Nat),fpF i acc zs = acc ++ new/\((acc ++ new).map (·.1)).Nodup/\∀ p ∈ new,i<=p.2/\zs[p.2 - i]? = some p.1
 | [],i,acc,h=>⟨[],by rw [List.append_nil]; rfl,by rw [List.append_nil]; exact h,fun p hp=>nomatch hp⟩
 | z :: zs,i,acc,h=>by
  unfold fpF
  by_cases c:(acc.any fun p=>decide (p.1 = z)) = true
  ·rw [if_pos c]
   obtain ⟨new,e1,e2,e3⟩:=fp_spec zs (i + 1) acc h
   refine ⟨new,e1,e2,fun p hp=>?_⟩
   obtain ⟨h1,h2⟩:=e3 p hp
   refine ⟨by omega,?_⟩
   rw [show p.2 - i = (p.2 - (i + 1)) + 1 by omega]
   exact h2
  ·rw [if_neg c]
   have nd:((acc ++ [(z,i)]).map (·.1)).Nodup:=by
    rw [List.map_append,List.nodup_append]
    refine ⟨h,by simp,fun x hx y hy e=>?_⟩
    have hy:y = z:=by simpa using hy
    obtain ⟨p,hp,ep⟩:=List.mem_map.mp hx
    exact c (List.any_eq_true.mpr ⟨p,hp,decide_eq_true (ep.trans (e.trans hy))⟩)
   obtain ⟨new,e1,e2,e3⟩:=fp_spec zs (i + 1) (acc ++ [(z,i)]) nd
   refine ⟨(z,i) :: new,by rw [e1,List.append_assoc]; rfl,by rw [List.append_assoc] at e2; exact e2,fun p hp=>?_⟩
   rcases List.mem_cons.mp hp with rfl | hp
   ·exact ⟨Nat.le_refl _,by rw [Nat.sub_self]; rfl⟩
   ·obtain ⟨h1,h2⟩:=e3 p hp
    refine ⟨by omega,?_⟩
    rw [show p.2 - i = (p.2 - (i + 1)) + 1 by omega]
    exact h2
theorem uniq_key {fp:List (Str × Nat)} (nd:(fp.map (·.1)).Nodup) {z:Str} {j k:Nat} (h1:(z,j) ∈ fp) (h2:(z,k) ∈ fp):j = k:=by
 obtain ⟨a,ha,ea⟩:=List.mem_iff_getElem.mp h1
 obtain ⟨b,hb,eb⟩:=List.mem_iff_getElem.mp h2
 have:a = b:=by
  refine (List.getElem_inj (xs:=fp.map (·.1)) (i:=a) (j:=b) (h₀:=by simpa using ha) (h₁:=by simpa using hb) nd).mp ?_
  rw [List.getElem_map,List.getElem_map,ea,eb]
 subst this
 rw [ea] at eb
 exact congrArg Prod.snd eb
theorem val_of {fp:List (Str × Nat)} (nd:(fp.map (·.1)).Nodup) {z:Str} {j:Nat} (h:(z,j) ∈ fp):valV (kvP fp) (.inr z) = some (.int (j:Nat)):=by
 cases e:valV (kvP fp) (.inr z) with
 | none=>
  have:=kvP_any fp z
  rw [e] at this
  have h2:(fp.any fun p=>decide (p.1 = z)) = true:=List.any_eq_true.mpr ⟨_,h,decide_eq_true rfl⟩
  rw [h2] at this
  cases this
 | some v=>
  obtain ⟨z',j',e1,e2,e3⟩:=kvP_val e
  cases e1
  rw [e2,uniq_key nd e3 h]
theorem dbl_perm (names:List Str):∀ (zs:List Str) (i:Nat) (acc fp:List (Str × Nat)),fpF i acc zs = fp->(acc.map (·.1)).Nodup->(∀ p ∈ acc,p.2 < i)->(∀ (j:Nat) (z:Str),zs[j]? = some z->names.getD (i + j) "" = z)->
  ∃ new,fp = acc ++ new/\zs.Perm ((dblF (kvP fp) i zs).map (fun m=>names.getD m.2 "") ++ new.map (·.1))
 | [],i,acc,fp,e,_,_,_=>⟨[],by rw [List.append_nil]; exact e.symm,List.Perm.refl _⟩
 | z :: zs,i,acc,fp,e,h,hi,hn=>by
  obtain ⟨all,e1,nd,_⟩:=fp_spec (z :: zs) i acc h
  rw [e] at e1
  rw [<- e1] at nd
  have e:fpF (i + 1) (if (acc.any fun p=>decide (p.1 = z)) = true then acc else acc ++ [(z,i)]) zs = fp:=e
  have hn':∀ (j:Nat) (y:Str),zs[j]? = some y->names.getD (i + 1 + j) "" = y:=fun j y hy=>by
   rw [show i + 1 + j = i + (j + 1) by omega]
   exact hn (j + 1) y (by simpa using hy)
  have hz:names.getD i "" = z:=hn 0 z rfl
  have ed:dblF (kvP fp) i (z :: zs) = (if valV (kvP fp) (.inr z) = some (.int (i:Nat)) then [] else [(("doubled" : Str),i)]) ++ dblF (kvP fp) (i + 1) zs:=rfl
  rw [ed]
  by_cases c:(acc.any fun p=>decide (p.1 = z)) = true
  ·rw [if_pos c] at e
   obtain ⟨new,e2,pm⟩:=dbl_perm names zs (i + 1) acc fp e h (fun p hp=>Nat.lt_succ_of_lt (hi p hp)) hn'
   obtain ⟨p,hp,ep⟩:=List.any_eq_true.mp c
   have hv:valV (kvP fp) (.inr z) = some (.int (p.2:Nat)):=val_of nd (by rw [e2]; refine List.mem_append_left _ ?_; rw [<- of_decide_eq_true ep]; exact hp)
   have ne:¬ valV (kvP fp) (.inr z) = some (.int (i:Nat)):=fun c=>by
    rw [hv] at c
    have:=hi p hp
    injection c with c
    injection c with c
    omega
   rw [if_neg ne]
   refine ⟨new,e2,?_⟩
   show (z :: zs).Perm (names.getD i "" :: _)
   rw [hz]
   exact List.Perm.cons z pm
  ·rw [if_neg c] at e
   have nd1:((acc ++ [(z,i)]).map (·.1)).Nodup:=by
    rw [List.map_append,List.nodup_append]
    refine ⟨h,by simp,fun x hx y hy e=>?_⟩
    have hy:y = z:=by simpa using hy
    obtain ⟨p,hp,ep⟩:=List.mem_map.mp hx
    exact c (List.any_eq_true.mpr ⟨p,hp,decide_eq_true (ep.trans (e.trans hy))⟩)
   obtain ⟨new,e2,pm⟩:=dbl_perm names zs (i + 1) (acc ++ [(z,i)]) fp e nd1 (fun p hp=>by
    rcases List.mem_append.mp hp with hp | hp
    ·exact Nat.lt_succ_of_lt (hi p hp)
    ·rw [List.mem_singleton.mp hp]; exact Nat.lt_succ_self i) hn'
   have hv:valV (kvP fp) (.inr z) = some (.int (i:Nat)):=val_of nd (by rw [e2]; simp)
   rw [if_pos hv]
   refine ⟨(z,i) :: new,by rw [e2,List.append_assoc]; rfl,?_⟩
   exact (List.Perm.cons z pm).trans List.perm_middle.symm
theorem dbl_names (names:List Str):names.Perm ((dblF (kvP (fpZ names)) 0 names).map (fun m=>names.getD m.2 "") ++ (fpZ names).map (·.1))/\((fpZ names).map (·.1)).Nodup/\∀ p ∈ fpZ names,names.getD p.2 "" = p.1:=by
 obtain ⟨new,e1,e2,e3⟩:=fp_spec names 0 [] (by simp)
 obtain ⟨new',e4,pm⟩:=dbl_perm names names 0 [] (fpZ names) rfl (by simp) (fun p hp=>nomatch hp) (fun j z hj=>by rw [Nat.zero_add,List.getD_eq_getElem?_getD,hj]; rfl)
 have e5:fpZ names = new':=e4
 have e6:fpZ names = new:=e1
 rw [<- e5] at pm
 refine ⟨pm,by rw [e6]; exact e2,fun p hp=>?_⟩
 rw [e6] at hp
 have:=(e3 p hp).2
 rw [Nat.sub_zero] at this
 rw [List.getD_eq_getElem?_getD,this]
 rfl
theorem dbl_word {fk:List (Key × V)}:∀ (zs:List Str) (i:Nat),∀ m ∈ dblF fk i zs,m.1 = Str.ofString "doubled"
 | [],_,m,h=>nomatch h
 | z :: zs,i,m,h=>by
  have h:m ∈ (if valV fk (.inr z) = some (.int (i:Nat)) then [] else [(("doubled" : Str),i)]) ++ dblF fk (i + 1) zs:=h
  rcases List.mem_append.mp h with h | h
  ·split at h
   ·cases h
   ·rw [List.mem_singleton.mp h]
  ·exact dbl_word zs (i + 1) m h
def lackZ (many:Nat) (fk:List (Key × V)):Nat->List Rw->List Str
 | _,[]=>[]
 | i,r :: rs=>(if isLack r i many fk = true then [r.z] else []) ++ lackZ many fk (i + 1) rs
theorem lack_map {many:Nat} {fk:List (Key × V)} {all:List Rw} {names:List Str}:∀ (rows:List Rw) (i:Nat),(∀ (j:Nat) (r:Rw),rows[j]? = some r->all[i + j]? = some r)->(lackF many fk i rows).map (mtC all names) = (lackZ many fk i rows).map cIn
 | [],_,_=>rfl
 | r :: rs,i,h=>by
  have ih:=lack_map (many:=many) (fk:=fk) (names:=names) rs (i + 1) fun j x hx=>by rw [show i + 1 + j = i + (j + 1) by omega]; exact h (j + 1) x (by simpa using hx)
  show ((if isLack r i many fk = true then [(("lacking" : Str),i)] else []) ++ lackF many fk (i + 1) rs).map (mtC all names) = ((if isLack r i many fk = true then [r.z] else []) ++ lackZ many fk (i + 1) rs).map cIn
  rw [List.map_append,List.map_append,ih]
  have h0:=h 0 r rfl
  rw [Nat.add_zero] at h0
  split
  ·show [mtC all names (Str.ofString "lacking",i)] ++ _ = [cIn r.z] ++ _
   unfold mtC
   rw [if_pos rfl,h0]
   rfl
  ·rfl
theorem lackZ_mem {many:Nat} {fk:List (Key × V)} {z:Str}:∀ (rows:List Rw) (i:Nat),z ∈ lackZ many fk i rows ↔ ∃ j r,rows[j]? = some r/\r.z = z/\isLack r (i + j) many fk = true
 | [],i=>by
  constructor
  ·intro h; cases h
  ·rintro ⟨j,r,h,_⟩; simp at h
 | r :: rs,i=>by
  show z ∈ (if isLack r i many fk = true then [r.z] else []) ++ lackZ many fk (i + 1) rs ↔ _
  rw [List.mem_append,lackZ_mem rs (i + 1)]
  constructor
  ·rintro (h | ⟨j,x,h1,h2,h3⟩)
   ·split at h
    next e=>exact ⟨0,r,rfl,(List.mem_singleton.mp h).symm,e⟩
    ·cases h
   ·exact ⟨j + 1,x,by simpa using h1,h2,by rw [show i + (j + 1) = i + 1 + j by omega]; exact h3⟩
  ·rintro ⟨j,x,h1,h2,h3⟩
   cases j with
   | zero=>
    have:r = x:=by simpa using h1
    subst this
    rw [Nat.add_zero] at h3
    exact .inl (by rw [if_pos h3,h2]; exact List.mem_singleton.mpr rfl)
   | succ j=>exact .inr ⟨j,x,by simpa using h1,h2,by rw [show i + 1 + j = i + (j + 1) by omega]; exact h3⟩
theorem lackZ_sub {many:Nat} {fk:List (Key × V)}:∀ (rows:List Rw) (i:Nat),(∀ (j:Nat) (r:Rw),rows[j]? = some r->isLack r (i + j) many fk = true->byNm r.k = true)->(lackZ many fk i rows).Sublist (nms rows)
 | [],_,_=>List.Sublist.slnil
 | r :: rs,i,h=>by
  have ih:=lackZ_sub (many:=many) (fk:=fk) rs (i + 1) fun j x hx hl=>h (j + 1) x (by simpa using hx) (by rw [show i + (j + 1) = i + 1 + j by omega]; exact hl)
  have en:nms (r :: rs) = (if byNm r.k = true then [r.z] else []) ++ nms rs:=by
   unfold nms
   rw [List.filter_cons]
   split <;> rfl
  show ((if isLack r i many fk = true then [r.z] else []) ++ lackZ many fk (i + 1) rs).Sublist _
  rw [en]
  by_cases e:isLack r i many fk = true
  ·rw [if_pos e,if_pos (h 0 r rfl e)]
   exact List.Sublist.append (List.Sublist.refl _) ih
  ·rw [if_neg e]
   exact ih.trans (List.sublist_append_right _ _)
theorem unw_map {rows:List Rw} {bars:List Str} {w:Nat} {names:List Str}:∀ (fp:List (Str × Nat)),(∀ p ∈ fp,names.getD p.2 "" = p.1)->(unwF rows bars w fp).map (mtC rows names) = ((fp.map (·.1)).filter fun z=>(unwW rows bars w z).isSome).map cOut
 | [],_=>rfl
 | p :: fp,h=>by
  have ih:=unw_map (rows:=rows) (bars:=bars) (w:=w) fp fun q hq=>h q (List.mem_cons_of_mem _ hq)
  unfold unwF at *
  rw [List.filterMap_cons,List.map_cons,List.filter_cons]
  cases e:unwW rows bars w p.1 with
  | none=>simpa using ih
  | some wd=>
   have e1:mtC rows names (wd,p.2) = cOut p.1:=by
    unfold mtC
    rw [if_neg (unw_word e),h p List.mem_cons_self]
   simp only [Option.map_some,Option.isSome_some,if_true,List.map_cons]
   rw [ih,e1]
theorem nm_uniq {rows:List Rw} (nd:(nms rows).Nodup):∀ {i j:Nat} {r r':Rw},rows[i]? = some r->rows[j]? = some r'->byNm r.k = true->byNm r'.k = true->r.z = r'.z->i = j:=by
 induction rows with
 | nil=>intro i j r r' h; simp at h
 | cons x rs ih=>
  intro i j r r' h h' b b' e
  have en:nms (x :: rs) = (if byNm x.k = true then [x.z] else []) ++ nms rs:=by
   unfold nms
   rw [List.filter_cons]
   split <;> rfl
  rw [en] at nd
  have nd2:=(List.nodup_append.mp nd).2.1
  have mem:∀ {k:Nat} {y:Rw},rs[k]? = some y->byNm y.k = true->y.z ∈ nms rs:=fun hk hb=>List.mem_map.mpr ⟨_,List.mem_filter.mpr ⟨List.mem_of_getElem? hk,hb⟩,rfl⟩
  cases i with
  | zero=>
   have:x = r:=by simpa using h
   subst this
   cases j with
   | zero=>rfl
   | succ j=>
    have hj:rs[j]? = some r':=by simpa using h'
    have:=mem hj b'
    rw [if_pos b] at nd
    exact absurd this (fun c=>(List.nodup_append.mp nd).2.2 x.z (by simp) r'.z this e)
  | succ i=>
   have hi:rs[i]? = some r:=by simpa using h
   cases j with
   | zero=>
    have:x = r':=by simpa using h'
    subst this
    rw [if_pos b'] at nd
    exact absurd (mem hi b) (fun c=>(List.nodup_append.mp nd).2.2 x.z (by simp) r.z c e.symm)
   | succ j=>rw [ih nd2 hi (by simpa using h') b b' e]
theorem mends_run {rows:List Rw} {bars names:List Str} {many w:Nat} (V1:Valid rows bars) (hw:(firstK 2 0 rows).isSome = true\/w<=plN rows) (hf:fewF (nms rows) rows (plN rows)<=w):Runs (fun m ns=>missF rows bars m ns = []) (mtF rows bars w many names) many names:=by
 obtain ⟨pm,ndF,atF⟩:=dbl_names names
 have ndn:(nms rows).Nodup:=(List.nodup_append.mp V1.nd).1
 unfold mtF
 rw [List.append_assoc]
 refine runs_less _ _ _ _ (by omega) (runs_more _ _ _ _ ?_)
 rw [show many - (many - w) + (w - many) = w by omega]
 have eo:overF rows w = []:=over_nil.mpr hw
 have e1:(missF rows bars w names).map (mtC rows names) = ((dblF (kvP (fpZ names)) 0 names).map (fun m=>names.getD m.2 "") ++ ((fpZ names).map (·.1)).filter fun z=>(unwW rows bars w z).isSome).map cOut ++ (lackZ w (kvP (fpZ names)) 0 rows).map cIn:=by
  unfold missF
  rw [eo,List.append_nil,List.map_append,List.map_append,List.map_append,unw_map _ atF,lack_map rows 0 (fun j r h=>by rw [Nat.zero_add]; exact h)]
  congr 2
  rw [List.map_map]
  refine List.map_congr_left fun m hm=>?_
  show mtC rows names m = cOut (names.getD m.2 "")
  unfold mtC
  rw [if_neg (fun c=>absurd ((dbl_word _ _ m hm).symm.trans c) (by decide +kernel))]
 rw [e1]
 refine runs_out _ _ _ (((fpZ names).map (·.1)).filter fun z=>!(unwW rows bars w z).isSome) names ?_ fun ns' hns=>runs_in _ _ _ ?_
 ·rw [List.append_assoc]
  exact pm.trans (List.Perm.append_left _ (List.filter_append_perm _ _).symm)
 show missF rows bars w (ns' ++ lackZ w (kvP (fpZ names)) 0 rows) = []
 have inR:∀ z,z ∈ ns' ↔ z ∈ names/\unwW rows bars w z = none:=fun z=>by
  rw [hns.mem_iff,List.mem_filter,fpF_fst]
  cases unwW rows bars w z <;> simp
 have doors:∀ (j:Nat) (r:Rw),rows[j]? = some r->isLack r j w (kvP (fpZ names)) = true->byNm r.k = true:=fun j r hj hl=>by
  rw [lack_it,Bool.and_eq_true] at hl
  obtain ⟨h1,h2⟩:=hl
  cases hb:byNm r.k with
  | true=>rfl
  | false=>
   exfalso
   have nr:needR (nms rows) r = true:=by
    unfold needR isBoth at h1 |-
    rw [hb] at h1 |-
    exact h1
   have rok:=V1.ok r (List.mem_of_getElem? hj)
   have hp:=pl_at V1.ok V1.ord hj
   cases hpl:byPl r.k with
   | false=>
    have:=rok.1
    unfold needR at h1
    have hfr:fr r.k r.b = true:=by
     have hk:r.k = 2\/r.k = 4:=by
      have:r.k < 5:=rok.1
      match r.k,this,hb,hpl with
      | 0,_,_,h=>cases h
      | 1,_,_,h=>cases h
      | 2,_,_,_=>exact .inl rfl
      | 3,_,h,_=>cases h
      | 4,_,_,_=>exact .inr rfl
     rcases hk with e | e <;> rw [e] <;> rfl
    rw [hfr] at h1
    cases h1
   | true=>
    rw [hpl] at hp
    have hlt:j < plN rows:=of_decide_eq_true hp.symm
    have:=(few_le (plN rows)).mp hf j r hlt hj nr
    rw [hpl,decide_eq_true this] at h2
    cases h2
 have inL:∀ z,z ∈ lackZ w (kvP (fpZ names)) 0 rows ↔ ∃ j r,rows[j]? = some r/\r.z = z/\isLack r j w (kvP (fpZ names)) = true:=fun z=>by
  rw [lackZ_mem]
  simp only [Nat.zero_add]
 have lk:∀ {j:Nat} {r:Rw},isLack r j w (kvP (fpZ names)) = true ↔ (fr r.k r.b = false/\¬ (byNm r.k = true/\r.z ∈ names)/\¬ (byPl r.k = true/\j < w)):=fun {j r}=>by
  rw [lack_it]
  unfold needR isBoth
  cases fr r.k r.b <;> cases byNm r.k <;> cases byPl r.k <;> simp
 have has:∀ {j:Nat} {r:Rw},rows[j]? = some r->byNm r.k = true->fr r.k r.b = false->¬ (j < plN rows/\j < w)->r.z ∈ ns' ++ lackZ w (kvP (fpZ names)) 0 rows:=fun {j r} hj hb hfr hn=>by
  rw [List.mem_append]
  by_cases hm:r.z ∈ names
  ·exact .inl ((inR _).mpr ⟨hm,unw_door V1 hj hb rfl hn⟩)
  ·refine .inr ((inL _).mpr ⟨j,r,hj,rfl,lk.mpr ⟨hfr,fun c=>hm c.2,fun c=>hn ?_⟩⟩)
   have hp:=pl_at V1.ok V1.ord hj
   rw [c.1] at hp
   exact ⟨of_decide_eq_true hp.symm,c.2⟩
 refine (miss_iff V1).mpr ⟨⟨?_,?_,?_⟩,hw,?_,?_⟩
 ·rw [List.nodup_append]
  refine ⟨hns.nodup_iff.mpr (ndF.sublist List.filter_sublist),ndn.sublist (lackZ_sub rows 0 fun j r hj hl=>doors j r hj (by rw [Nat.zero_add] at hl; exact hl)),fun x hx y hy e=>?_⟩
  subst e
  obtain ⟨j,r,hj,ez,hl⟩:=(inL x).mp hy
  have:=(lk.mp hl).2.1
  exact this ⟨doors j r hj hl,by rw [ez]; exact ((inR x).mp hx).1⟩
 ·intro z hz
  rcases List.mem_append.mp hz with hz | hz
  ·exact ((unw_zero V1).mp ((inR z).mp hz).2).1
  ·obtain ⟨j,r,hj,ez,hl⟩:=(inL z).mp hz
   exact unw_door V1 hj (doors j r hj hl) ez (fun c=>absurd c.2 (Nat.not_lt_zero _))
 ·intro i r hi hpl
  cases hfr:fr r.k r.b with
  | true=>exact .inl rfl
  | false=>
   refine .inr ?_
   have rok:=V1.ok r (List.mem_of_getElem? hi)
   have hp:=pl_at V1.ok V1.ord hi
   rw [decide_eq_false (by omega)] at hp
   have hb:byNm r.k = true:=by
    have:r.k < 5:=rok.1
    match hk:r.k,this with
    | 0,_=>rw [hk] at hp; cases hp
    | 1,_=>rfl
    | 2,_=>rw [hk] at hfr; cases hfr
    | 3,_=>rfl
    | 4,_=>rw [hk] at hfr; cases hfr
   unfold isBoth
   rw [hb,decide_eq_true (has hi hb hfr (fun c=>by omega))]
   rfl
 ·intro l r hl h1 h2
  unfold isBoth
  cases hb:byNm r.k with
  | false=>rfl
  | true=>
   rw [decide_eq_false]
   ·rfl
   intro hm
   rcases List.mem_append.mp hm with hm | hm
   ·have:=((unw_zero V1).mp ((inR _).mp hm).2).2 l r hl h1 h2 hb
    exact this rfl
   ·obtain ⟨j,r',hj,ez,hl'⟩:=(inL _).mp hm
    have e:=nm_uniq ndn hl hj hb (doors j r' hj hl') ez.symm
    subst e
    rw [hl] at hj
    cases hj
    have hp:=pl_at V1.ok V1.ord hl
    rw [decide_eq_true h1] at hp
    exact (lk.mp hl').2.2 ⟨hp,h2⟩
 ·refine (few_le (plN rows)).mpr fun i r hi hr nr=>?_
  rcases Nat.lt_or_ge i w with c | c
  ·exact c
  exfalso
  unfold needR at nr
  rw [Bool.and_eq_true] at nr
  have hfr:fr r.k r.b = false:=by cases h:fr r.k r.b with | false=>rfl | true=>rw [h] at nr; cases nr.1
  cases hb:byNm r.k with
  | true=>
   have:=has hr hb hfr (fun c=>by omega)
   have h2:=nr.2
   unfold isBoth at h2
   rw [hb,decide_eq_true this] at h2
   cases h2
  | false=>
   have nr2:needR (nms rows) r = true:=by
    unfold needR isBoth
    rw [hfr,hb]
    rfl
   have:=(few_le (plN rows)).mp hf i r hi hr nr2
   omega
end K32
namespace L2
open PySem PyProof.Rows
def uAll (X:Cx) (ss:List Stmt):TS:=fun D σ H=>∃ t,PSs X ss t/\t D σ H
theorem pss_all {X:Cx} {ss:List Stmt}:PSs X ss (uAll X ss):=⟨fun pins s σ H D I ⟨_,p,h⟩=>p pins s σ H D I h⟩
theorem pss_go {X:Cx} {st:Stmt} {rest:List Stmt} {t:TS} {D:L2.Ends} {σ : L2.St} {H:Hp} (p:PS X st t) (h:tSeq t (uAll X rest) D σ H):uAll X (st :: rest) D σ H:=⟨_,pss_cons p pss_all,h⟩
end L2
namespace L2
open PySem PySem.Spec PyProof.Rows
section
variable {P:Program} {w:World} {K:PySem.W.Frag} {mg:Str->Option Value} {base h:Heap} {x q p p2 p3 p4 p5:Str} {st:Stmt} {f C T:Addr} {fd:FuncData} {sp:Sp} {k n:Nat}
structure TB (P:Program) (w:World) (K:PySem.W.Frag) (mg:Str->Option Value) (base:Heap):Prop where
 mgo:∀ {x:Str} {v:Value},PySem.W.nsIn K mainGlobals x = some (some v)->mg x = some v
structure GD (K:PySem.W.Frag) (x:Str) (st:Stmt) (f:Addr) (fd:FuncData):Prop where
 a:PySem.W.nsIn K mainGlobals x = some (some (.ref f))
 F:Fun K x x st f fd
structure MD (K:PySem.W.Frag) (C:Addr) (x q:Str) (st:Stmt) (f:Addr) (fd:FuncData):Prop where
 m:Meth K C x f
 F:Fun K x q st f fd
structure DD (K:PySem.W.Frag) (C:Addr) (x q:Str) (st:Stmt) (f:Addr) (fd:FuncData) (ds:List Value):Prop where
 m:Meth K C x f
 F:FunD K x q st f fd ds
structure CD (K:PySem.W.Frag) (x:Str) (C:Addr):Prop where
 a:PySem.W.nsIn K mainGlobals x = some (some (.ref C))
 c:Cls K C
 ms:PySem.W.makesIn K C = true
 kc:PySem.W.keepIn K (.ref C) = true
theorem gd_mk {oc:Value} {od an:Option Addr} {osl:Array (Option Value)} {kV doc pm cdv ct:Value} (a:PySem.W.nsIn K mainGlobals x = some (some (.ref f))) (l:K.lookup f = some ⟨oc,od,.func (PySem.W.fnOf x x (defArgs st) (defBody st) (defScope st) .none kV doc pm an cdv ct),osl⟩)
  (c:PySem.W.codeIn K cdv x = true) (k:PySem.W.keepIn K (.ref f) = true):GD K x st f (PySem.W.fnOf x x (defArgs st) (defBody st) (defScope st) .none kV doc pm an cdv ct):=⟨a,fun_mk l c k⟩
theorem md_mk {oc:Value} {od an:Option Addr} {osl:Array (Option Value)} {kV doc pm cdv ct:Value} (a:PySem.W.findIn K (.ref C) x = some (some (.ref f))) (i:PySem.W.isFn K (.ref f) = true) (l:K.lookup f = some ⟨oc,od,.func (PySem.W.fnOf x q (defArgs st) (defBody st) (defScope st) .none kV doc pm an cdv ct),osl⟩)
  (c:PySem.W.codeIn K cdv q = true) (k:PySem.W.keepIn K (.ref f) = true):MD K C x q st f (PySem.W.fnOf x q (defArgs st) (defBody st) (defScope st) .none kV doc pm an cdv ct):=⟨⟨a,i,k⟩,fun_mk l c k⟩
theorem dd_mk {oc oT:Value} {od an dT:Option Addr} {osl sT:Array (Option Value)} {kV doc pm cdv ct d:Value} (a:PySem.W.findIn K (.ref C) x = some (some (.ref f))) (i:PySem.W.isFn K (.ref f) = true) (l:K.lookup f = some ⟨oc,od,.func (PySem.W.fnOf x q (defArgs st) (defBody st) (defScope st) (.ref T) kV doc pm an cdv ct),osl⟩)
  (c:PySem.W.codeIn K cdv q = true) (k:PySem.W.keepIn K (.ref f) = true) (t:K.lookup T = some ⟨oT,dT,.seq #[d] n,sT⟩):DD K C x q st f (PySem.W.fnOf x q (defArgs st) (defBody st) (defScope st) (.ref T) kV doc pm an cdv ct) [d]:=⟨⟨a,i,k⟩,funD_mk (items:=[d]) l c k t rfl⟩
theorem cd_mk (a:PySem.W.nsIn K mainGlobals x = some (some (.ref C))) (pg:PySem.W.plainGet K C Str.empty = true) (hd:PySem.W.hasDictIn K C = true) (po:PySem.W.plainOver K C = true) (sa:PySem.W.findIn K (.ref C) "__setattr__" = some (some (.builtin "object.__setattr__"))) (mk:PySem.W.makesIn K C = true) (kc:PySem.W.keepIn K (.ref C) = true):CD K x C:=⟨a,⟨pg,hd,po,sa⟩,mk,kc⟩
theorem Fun.b1 (F:Fun K x q st f fd) (h:∀ (kV doc pm:Value) (an:Option Addr) (cdv ct u:Value),bindArgs (PySem.W.fnOf x q (defArgs st) (defBody st) (defScope st) .none kV doc pm an cdv ct) ⟨[u],[]⟩ = pure [(p,u)]:=by intros; rfl):Binds K fd [p] []:=
 F.binds fun _ _ _ _ _ _ us hl=>match us,hl with | [_],_=>h _ _ _ _ _ _ _
theorem Fun.b2 (F:Fun K x q st f fd) (h:∀ (kV doc pm:Value) (an:Option Addr) (cdv ct u u2:Value),bindArgs (PySem.W.fnOf x q (defArgs st) (defBody st) (defScope st) .none kV doc pm an cdv ct) ⟨[u,u2],[]⟩ = pure [(p,u),(p2,u2)]:=by intros; rfl):Binds K fd [p,p2] []:=
 F.binds fun _ _ _ _ _ _ us hl=>match us,hl with | [_,_],_=>h _ _ _ _ _ _ _ _
theorem Fun.b3 (F:Fun K x q st f fd) (h:∀ (kV doc pm:Value) (an:Option Addr) (cdv ct u u2 u3:Value),bindArgs (PySem.W.fnOf x q (defArgs st) (defBody st) (defScope st) .none kV doc pm an cdv ct) ⟨[u,u2,u3],[]⟩ = pure [(p,u),(p2,u2),(p3,u3)]:=by intros; rfl):Binds K fd [p,p2,p3] []:=
 F.binds fun _ _ _ _ _ _ us hl=>match us,hl with | [_,_,_],_=>h _ _ _ _ _ _ _ _ _
theorem Fun.b4 (F:Fun K x q st f fd) (h:∀ (kV doc pm:Value) (an:Option Addr) (cdv ct u u2 u3 u4:Value),bindArgs (PySem.W.fnOf x q (defArgs st) (defBody st) (defScope st) .none kV doc pm an cdv ct) ⟨[u,u2,u3,u4],[]⟩ = pure [(p,u),(p2,u2),(p3,u3),(p4,u4)]:=by intros; rfl):Binds K fd [p,p2,p3,p4] []:=
 F.binds fun _ _ _ _ _ _ us hl=>match us,hl with | [_,_,_,_],_=>h _ _ _ _ _ _ _ _ _ _
theorem GD.c1 (g:GD K x st f fd) (B:TB P w K mg base) (ok:FnOk P w K mg base CX0 k f fd [p] sp) (h:∀ (kV doc pm:Value) (an:Option Addr) (cdv ct u:Value),bindArgs (PySem.W.fnOf x x (defArgs st) (defBody st) (defScope st) .none kV doc pm an cdv ct) ⟨[u],[]⟩ = pure [(p,u)]:=by intros; rfl):Callee P w K mg base k x f fd [p] sp:=⟨ok,B.mgo g.a,g.F.kp,g.F.b1 h⟩
theorem GD.c2 (g:GD K x st f fd) (B:TB P w K mg base) (ok:FnOk P w K mg base CX0 k f fd [p,p2] sp) (h:∀ (kV doc pm:Value) (an:Option Addr) (cdv ct u u2:Value),bindArgs (PySem.W.fnOf x x (defArgs st) (defBody st) (defScope st) .none kV doc pm an cdv ct) ⟨[u,u2],[]⟩ = pure [(p,u),(p2,u2)]:=by intros; rfl):Callee P w K mg base k x f fd [p,p2] sp:=⟨ok,B.mgo g.a,g.F.kp,g.F.b2 h⟩
theorem GD.c3 (g:GD K x st f fd) (B:TB P w K mg base) (ok:FnOk P w K mg base CX0 k f fd [p,p2,p3] sp) (h:∀ (kV doc pm:Value) (an:Option Addr) (cdv ct u u2 u3:Value),bindArgs (PySem.W.fnOf x x (defArgs st) (defBody st) (defScope st) .none kV doc pm an cdv ct) ⟨[u,u2,u3],[]⟩ = pure [(p,u),(p2,u2),(p3,u3)]:=by intros; rfl):Callee P w K mg base k x f fd [p,p2,p3] sp:=⟨ok,B.mgo g.a,g.F.kp,g.F.b3 h⟩
theorem GD.c4 (g:GD K x st f fd) (B:TB P w K mg base) (ok:FnOk P w K mg base CX0 k f fd [p,p2,p3,p4] sp) (h:∀ (kV doc pm:Value) (an:Option Addr) (cdv ct u u2 u3 u4:Value),bindArgs (PySem.W.fnOf x x (defArgs st) (defBody st) (defScope st) .none kV doc pm an cdv ct) ⟨[u,u2,u3,u4],[]⟩ = pure [(p,u),(p2,u2),(p3,u3),(p4,u4)]:=by intros; rfl):Callee P w K mg base k x f fd [p,p2,p3,p4] sp:=⟨ok,B.mgo g.a,g.F.kp,g.F.b4 h⟩
theorem GD.law (g:GD K x st f fd) (h:∀ (kV doc pm:Value) (an:Option Addr) (cdv ct u:Value),bindArgs (PySem.W.fnOf x x (defArgs st) (defBody st) (defScope st) .none kV doc pm an cdv ct) ⟨[u],[]⟩ = pure [(p,u)]:=by intros; rfl):∀ (s:Shared) (v:Value),BindsTo s fd ⟨[v],[]⟩ [(p,v)]:=by
 obtain ⟨oc,od,kV,doc,pm,an,cdv,ct,osl,rfl,lk,hcd⟩:=g.F.ex
 exact fun s v=>.of_eq (h kV doc pm an cdv ct v)
theorem DD.b0 {d:Value} (D:DD K C x q st f fd [d]) (h:∀ (T:Addr) (kV doc pm:Value) (an:Option Addr) (cdv ct u u2 u3:Value),∃ k:Option (Array Value)->Sem (List (Str × Value)),bindArgs (PySem.W.fnOf x q (defArgs st) (defBody st) (defScope st) (.ref T) kV doc pm an cdv ct) ⟨[u,u2,u3],[]⟩ = seqItems? (.ref T) >>= k/\k (some [d].toArray) = pure [(p,u),(p2,u2),(p3,u3)]:=by exact fun _ _ _ _ _ _ _ _ _ _=>⟨_,rfl,rfl⟩):Binds K fd [p,p2,p3] []:=
 fun _ us KX hl=>match us,hl with | [_,_,_],_=>D.F.bindsTo (fun _ _ _ _ _ _ _=>h _ _ _ _ _ _ _ _ _ _) KX
end
end L2
namespace K32
open PySem L2 PyProof.Rows
def mostW (rows:List Rw) (many:Nat):Nat:=if (firstK 2 0 rows).isSome = true then max (plN rows) many else plN rows
def fewD (rows:List Rw):Nat:=fewF (nms rows) rows (plN rows)
theorem few_pl (names:List Str) (rows:List Rw):∀ n,fewF names rows n<=n
 | 0=>Nat.le_refl _
 | n + 1=>by
  unfold fewF
  split
  ·split
   ·exact Nat.le_refl _
   ·exact Nat.le_succ_of_le (few_pl names rows n)
  ·exact Nat.le_succ_of_le (few_pl names rows n)
theorem numV_non {o:Option Nat}:numV o = .non ↔ o.isSome = false:=by cases o <;> simp [numV]
structure TxtM (mg:Str->Option Value):Prop where
 max:mg "max" = none
 list:mg "list" = none
 range:mg "range" = none
 min:mg "min" = none
 len:mg "len" = none
def spWanted (c:C5) (CF:Addr):Sp:=fun vs H Q _=>∃ (f:Addr) (many:Nat) (rows:List Rw) (bars:List Str),vs = [.ref f,.int (many:Nat)]/\FormOk c CF H f rows bars/\rows.length<=24/\many<=800/\
 ∀ (l:Addr) (H':Hp),Same H H'->H l = none->H' l = some (.lst ((L2.intsFrom (fewD rows) (mostW rows many + 1 - fewD rows)).map V.int))->Q (.ref l) H'
section
variable {P:Program} {w:World} {K:PySem.W.Frag} {mg:Str->Option Value} {base:Heap} {f CF:Addr} {fd:FuncData} {c:C5} {m:MA}
theorem scWanted:FnScope ["form","many","doors","most"] ["form","many"] (defScope sWanted):=⟨rfl,rfl,rfl,by decide +kernel,rfl,by decide +kernel,by decide +kernel⟩
theorem ok_wanted {g1 gP gL gT:Addr} {e1 eP eL eT gd:FuncData} (F:Fun K "wanted_numbers" "wanted_numbers" sWanted f fd) (U:TxtM mg) (FK:FC K CF) (PP:Pcs K m c) (cFw:Callee P w K mg base 2 "fewest_by_place" g1 e1 ["form","names"] (spFew c CF)) (mP:Meth K CF "parameters" gP) (GP:FnOk P w K mg base CX0 1 gP eP ["self"] (spPars c CF)) (bP:Binds K eP ["self"] []) (mL:Meth K CF "places" gL) (GL:FnOk P w K mg base CX0 1 gL eL ["self"] (spPlaces c CF)) (bL:Binds K eL ["self"] []) (mT:Meth K CF "tail" gT) (GT:FnOk P w K mg base CX0 1 gT eT ["self"] (spWord c CF 2)) (bT:Binds K eT ["self"] []) (GB:FnOk P w K mg base CX0 1 m.fB gd ["self"] (spIn K m bnL)) (bB:Binds K gd ["self"] []):FnOk P w K mg base CX0 3 f fd ["form","many"] (spWanted c CF):=by
 refine F.ok scWanted (fun vs H Q E h=>?_) (fun cdv A outer s H vs Q E hr h=>?_)
 ·obtain ⟨f,many,rows,bars,rfl,_⟩:=h
  rfl
 obtain ⟨f,many,rows,bars,rfl,hF,l24,m8,q⟩:=h
 have hr1:Room 1 _:=hr.mono (by decide)
 have hC:∀ C,Cs5 c C->Cls K C/\Meth K C "by_name" m.fB:=fun C ⟨k,hk,e⟩=>by rw [e]; exact ⟨(PP k hk).cl,(PP k hk).mB⟩
 obtain ⟨dx,fs,lr,lb',ld,pps,h1,h2,h3,h4,h5,h6⟩:=id hF.at_
 have lpl:plN rows<=24:=Nat.le_trans (List.length_filter_le _ _) l24
 have hfp:=few_pl (nms rows) rows (plN rows)
 refine pss_go (ps_lc (i:=2) [] ["parameter"] [none] scWanted.nd rfl (Or.inl rfl) rfl ⟨rfl,rfl,rfl,rfl⟩ (pi_list (pe_meth0 (pv 0) FK.cl mP GP hr1 bP .nil pass0)) (gown_name 0) rfl rfl rfl
    (fun pins fp s H C=>⟨pg_name (i:=0) ndPm rfl (Or.inl rfl) (.inr rfl),pif_one (pt_val (pe_methP (pv 0) hC GB hr1 bB pass0)),pe_fldK (K:=K) rfl (pv 0) rfl⟩)) ?_
 refine ⟨_,rfl,f,dx,fs,rfl,h1,h2.no _ (by decide +kernel),f,rows,bars,rfl,hF.at_,fun a ps H1 s1 na ha hp=>?_⟩
 refine ⟨a,rfl,⟨_,SqL.of ha⟩,fun D hD=>?_⟩
 refine lc_sel (K:=K) (xs:=ps.map V.ref) rows (fun r=>byNm r.k) (fun r=>V.str r.z) hD (SqL.of ha) (by rw [List.length_map,hp.length]) (by rw [List.length_map,hp.length]; omega) (fun i x r H' Nn S hx hr' sH nn ss=>?_) (fun H2 s2 e2=>?_)
 ·obtain ⟨pa,hpa,rfl⟩:=refs_at hx
  obtain ⟨r',hr2,dx,hdx⟩:=paired_at hp hpa
  rw [hr'] at hr2
  cases hr2
  have rok:=hF.ok r (List.mem_of_getElem? hr')
  have C:=PP r.k rok.1
  have hd2:=sH _ _ hdx
  refine ⟨_,rfl,pa,_,dx,_,rfl,⟨r.k,rok.1,rfl⟩,hd2,pf_no (by decide +kernel) (by decide +kernel) (by decide +kernel),pa,dx,_,_,_,_,rfl,C,hd2,_,rfl,?_⟩
  rw [in_nm r.k rok.1]
  exact ⟨fun e=>⟨_,rfl,pa,_,dx,_,_,rfl,hd2,C.cl,C.nN,pf_name,nn _ (Same.refl _) e⟩,fun e=>ss _ (Same.refl _) e⟩
 have e2:H2 D = some (.lst ((nms rows).map V.str)):=by
  rw [e2]
  unfold nms
  rw [List.map_map]
  rfl
 have s02:=s1.trans s2
 dsimp only [gName]
 refine pss_go (ps_set (i:=3) scWanted.nd rfl (Or.inl rfl) (pe_meth0 (pv 0) FK.cl mL GL hr1 bL .nil pass0)) ?_
 refine ⟨_,rfl,f,dx,fs,rfl,s02 _ _ h1,h2.no _ (by decide +kernel),f,rows,bars,rfl,(hF.same s02).at_,?_⟩
 dsimp only [gName]
 refine pss_go (ps_if (pt_cmp (pc_notN (pe_meth0 (pv 0) FK.cl mT GT hr1 bT .nil pass0))) (pss_one (ps_set (i:=3) scWanted.nd rfl (Or.inl rfl) (cB (call_max2 rfl) U.max boot_max (ac (pv 3) (ac (pv 1) pa_nil))))) pss_nil) ?_
 refine seq_via (fun σ' H'=>σ' = [some (.ref f),some (.int (many:Nat)),some (.ref D),some (.int (mostW rows many:Nat))]/\H2 = H') ?_ (fun key=>?_)
 rotate_left
 ·refine ⟨_,rfl,f,dx,fs,rfl,s02 _ _ h1,h2.no _ (by decide +kernel),f,rows,bars,rfl,(hF.same s02).at_,_,rfl,?_⟩
  cases e:(firstK 2 0 rows).isSome with
  | true=>
   refine iteB (by rw [decide_eq_false (fun c=>by rw [numV_non] at c; rw [e] at c; cases c)]; rfl) ?_
   refine ⟨_,rfl,_,rfl,_,_,rfl,?_⟩
   refine key _ _ ⟨?_,rfl⟩
   have:(if ((many:Nat):Int) > ((plN rows:Nat):Int) then ((many:Nat):Int) else ((plN rows:Nat):Int)) = ((mostW rows many:Nat):Int):=by
    unfold mostW
    rw [if_pos e]
    split <;> omega
   rw [this]
   rfl
  | false=>
   refine iteC (by rw [decide_eq_true (numV_non.mpr e)]; rfl) ?_
   refine key _ _ ⟨?_,rfl⟩
   have:mostW rows many = plN rows:=by unfold mostW; rw [if_neg (by rw [e]; decide)]
   rw [this]
   rfl
 rintro σ _ ⟨rfl,rfl⟩
 have hm:mostW rows many<=850/\plN rows<=mostW rows many:=by
  unfold mostW
  split <;> omega
 refine ⟨_,pss_one (ps_ret (cTy (call_listR2 rfl) U.list PyProof.Rows.boot_list (ac (cTy call_rng2 U.range PyProof.Rows.boot_range (ac (cF cFw hr (ac (pv 0) (ac (pv 2) pa_nil))) (ac (pe_op op_add (pv 3) pe_int) pa_nil))) pa_nil))),?_⟩
 refine ⟨_,rfl,_,rfl,f,D,rows,bars,nms rows,rfl,hF.same s02,e2,fun H3 s3=>?_⟩
 refine ⟨_,rfl,_,_,rfl,rfl,fewD rows,mostW rows many + 1,rfl,fun p hp=>?_⟩
 have s4:=same_new hp (.rng (fewD rows:Nat) ((mostW rows many + 1:Nat):Int))
 refine ⟨p,fewD rows,mostW rows many + 1,rfl,upd_same,by unfold fewD; omega,by omega,fun l hl=>?_⟩
 have s5:=same_new hl (.lst ((L2.intsFrom (fewD rows) (mostW rows many + 1 - fewD rows)).map V.int))
 exact q l _ (s02.trans (s3.trans (s4.trans s5))) ((s02.trans (s3.trans s4)).free hl) upd_same
end
abbrev F':Addr->Prop:=fun _=>False
abbrev chD (c:List Str):Dt:=.tup (c.map Dt.str)
theorem rep_flat {α : Type} (x : α):∀ k,(List.replicate k [x]).flatten = List.replicate k x
 | 0=>rfl
 | k + 1=>by rw [List.replicate_succ,List.flatten_cons,rep_flat x k]; rfl
theorem says_rep {K:PySem.W.Frag} {ok:Addr->Prop} {H:Hp} {x:V} {d:Dt} (h:Says K ok H 1 x d):∀ k,Paired (Says K ok H 1) (List.replicate k x) (List.replicate k d)
 | 0=>.nil
 | k + 1=>.cons h (says_rep h k)
theorem says_strT {K:PySem.W.Frag} {ok:Addr->Prop} {H:Hp} {t:Addr} {zs:List Str} (h:H t = some (.tup (zs.map V.str))):Says K ok H 1 (.ref t) (chD zs):=Says.tup (SqT.of h) (by
 induction zs generalizing t with
 | nil=>exact .nil
 | cons z zs ih=>
  have:∀ (zs:List Str),Paired (Says K ok H 0) (zs.map V.str) (zs.map Dt.str):=fun zs=>by
   induction zs with
   | nil=>exact .nil
   | cons z zs ih=>exact .cons .str ih
  exact this (z :: zs))
theorem dbl_lt {fk:List (Key × V)}:∀ (zs:List Str) (i:Nat),∀ m ∈ dblF fk i zs,m.2 < i + zs.length
 | [],_,m,h=>nomatch h
 | z :: zs,i,m,h=>by
  have h:m ∈ (if valV fk (.inr z) = some (.int (i:Nat)) then [] else [(("doubled" : Str),i)]) ++ dblF fk (i + 1) zs:=h
  rw [List.length_cons]
  rcases List.mem_append.mp h with h | h
  ·split at h
   ·cases h
   ·rw [List.mem_singleton.mp h]; show i < _; omega
  ·have:=dbl_lt zs (i + 1) m h
   omega
theorem miss_at {rows:List Rw} {bars names:List Str} {w:Nat} (hw:(firstK 2 0 rows).isSome = true\/w<=plN rows) {m:Str × Nat} (hm:m ∈ missF rows bars w names):(m.1 = Str.ofString "lacking"/\∃ r,rows[m.2]? = some r)\/(m.1 ≠ Str.ofString "lacking"/\m.2 < names.length):=by
 unfold missF at hm
 rw [over_nil.mpr hw,List.append_nil] at hm
 rcases List.mem_append.mp hm with hm | hm
 ·refine .inr ?_
  rcases List.mem_append.mp hm with hm | hm
  ·refine ⟨fun c=>absurd ((dbl_word _ _ m hm).symm.trans c) (by decide +kernel),?_⟩
   have:=dbl_lt _ _ m hm
   omega
  ·unfold unwF at hm
   obtain ⟨p,hp,e⟩:=List.mem_filterMap.mp hm
   cases e1:unwW rows bars w p.1 with
   | none=>rw [e1] at e; cases e
   | some wd=>
    rw [e1] at e
    have e:(wd,p.2) = m:=Option.some.inj e
    subst e
    refine ⟨unw_word e1,?_⟩
    have:=fp_lt names 0 [] (fun p hp=>nomatch hp) p hp
    rw [Nat.zero_add] at this
    exact this
 ·obtain ⟨h1,j,r,hj,e,_⟩:=(lack_mem rows 0).mp hm
  rw [Nat.zero_add] at e
  exact .inl ⟨h1,r,by rw [e]; exact hj⟩
theorem miss_len {rows:List Rw} {bars names:List Str} {w:Nat} (hw:(firstK 2 0 rows).isSome = true\/w<=plN rows):(missF rows bars w names).length<=2 * names.length + rows.length:=by
 unfold missF
 rw [over_nil.mpr hw,List.append_nil,List.length_append,List.length_append]
 have h1:∀ (zs:List Str) (i:Nat) (fk:List (Key × V)),(dblF fk i zs).length<=zs.length:=fun zs=>by
  induction zs with
  | nil=>intro i fk; exact Nat.le_refl _
  | cons z zs ih=>
   intro i fk
   show ((if valV fk (.inr z) = some (.int (i:Nat)) then [] else [(("doubled" : Str),i)]) ++ dblF fk (i + 1) zs).length<=_
   rw [List.length_append,List.length_cons]
   have:=ih (i + 1) fk
   split <;> simp <;> omega
 have h2:(unwF rows bars w (fpZ names)).length<=names.length:=by
  unfold unwF
  have:=fpF_len names 0 []
  have h3:(fpZ names).length<=names.length:=by simpa [fpZ] using this
  exact Nat.le_trans (List.length_filterMap_le _ _) h3
 have h3:∀ (rows:List Rw) (i:Nat) (fk:List (Key × V)),(lackF w fk i rows).length<=rows.length:=fun rows=>by
  induction rows with
  | nil=>intro i fk; exact Nat.le_refl _
  | cons r rs ih=>
   intro i fk
   show ((if isLack r i w fk = true then [(("lacking" : Str),i)] else []) ++ lackF w fk (i + 1) rs).length<=_
   rw [List.length_append,List.length_cons]
   have:=ih (i + 1) fk
   split <;> simp <;> omega
 have a1:=h1 names 0 (kvP (fpZ names))
 have a3:=h3 rows 0 (kvP (fpZ names))
 omega
def NewCh (K:PySem.W.Frag) (H H':Hp) (l:Addr) (cs:List (List Str)):Prop:=H l = none/\∃ vs:List V,H' l = some (.lst vs)/\Paired (Says K F' H' 1) vs (cs.map chD)
def spMTo (K:PySem.W.Frag) (c:C5) (CF:Addr):Sp:=fun vs H Q _=>∃ (f a:Addr) (w many:Nat) (rows:List Rw) (bars names:List Str),vs = [.ref f,.int (w:Nat),.int (many:Nat),.ref a]/\FormOk c CF H f rows bars/\rows.length<=24/\bars.length<=60/\w<=150/\many<=100/\names.length<=100/\H a = some (.lst (names.map V.str))/\((firstK 2 0 rows).isSome = true\/w<=plN rows)/\
 ∀ (l:Addr) (H':Hp),Same H H'->NewCh K H H' l (mtF rows bars w many names)->Q (.ref l) H'
section
variable {P:Program} {w:World} {K:PySem.W.Frag} {mg:Str->Option Value} {base:Heap} {f CF:Addr} {fd:FuncData} {c:C5} {m:MA}
theorem scMTo:FnScope ["form","wanted","many","names","changes","word","number"] ["form","wanted","many","names"] (defScope sMTo):=⟨rfl,rfl,rfl,by decide +kernel,rfl,by decide +kernel,by decide +kernel⟩
theorem ok_mto {g1 gP:Addr} {e1 eP:FuncData} (F:Fun K "mends_to" "mends_to" sMTo f fd) (FK:FC K CF) (PP:Pcs K m c) (cMo:Callee P w K mg base 4 "misfits_of" g1 e1 ["form","many","names"] (spMOf c CF)) (mP:Meth K CF "parameters" gP) (GP:FnOk P w K mg base CX0 1 gP eP ["self"] (spPars c CF)) (bP:Binds K eP ["self"] []):FnOk P w K mg base CX0 5 f fd ["form","wanted","many","names"] (spMTo K c CF):=by
 refine F.ok scMTo (fun vs H Q E h=>?_) (fun cdv A outer s H vs Q E hr h=>?_)
 ·obtain ⟨f,a,w,many,rows,bars,names,rfl,_⟩:=h
  rfl
 obtain ⟨f,a,ww,many,rows,bars,names,rfl,hF,l24,l60,w8,m8,n1,ha,hw,q⟩:=h
 have hr1:Room 1 _:=hr.mono (by decide)
 obtain ⟨dx,fs,lr,lb',ld,pps,h1,h2,h3,h4,h5,h6⟩:=id hF.at_
 refine pss_go (ps_set (i:=4) scMTo.nd rfl (Or.inl rfl) (pe_op op_cat (pe_op op_rep (pe_lst (ac (pe_tup (ac pe_str pa_nil)) pa_nil)) (pe_op op_sub (pv 2) (pv 1))) (pe_op op_rep (pe_lst (ac (pe_tup (ac pe_str pa_nil)) pa_nil)) (pe_op op_sub (pv 1) (pv 2))))) ?_
 have sz : 1000<=sizeLine:=by decide
 refine ⟨(by show 1<=sizeLine; decide),fun t1 ht1=>⟨(by show 1<=sizeLine; decide),fun l1 hl1=>?_⟩⟩
 have s1:=same_new ht1 (.tup [.str "less"])
 have g1:upd H t1 (.tup [.str "less"]) t1 = some (.tup (cLess.map V.str)):=upd_same
 have s2:=same_new hl1 (.lst [.ref t1])
 have g2:upd (upd H t1 (.tup [.str "less"])) l1 (.lst [.ref t1]) l1 = some (.lst [.ref t1]):=upd_same
 have s02:=s1.trans s2
 have g1:=s2 _ _ g1
 generalize upd (upd H t1 (.tup [.str "less"])) l1 (.lst [.ref t1]) = H2 at s2 g2 s02 g1 |-
 have k1:(((many:Nat):Int) - ((ww:Nat):Int)).toNat = many - ww:=by omega
 have k2:(((ww:Nat):Int) - ((many:Nat):Int)).toNat = ww - many:=by omega
 refine ⟨_,rfl,_,rfl,_,_,rfl,rfl,l1,_,_,rfl,rfl,g2,by omega,by omega,(by rw [k1]; show 1 * (many - ww)<=sizeLine; omega),fun l3 hl3=>?_⟩
 rw [k1,rep_flat]
 have s3:=same_new hl3 (.lst (List.replicate (many - ww) (.ref t1)))
 have g3:upd H2 l3 (.lst (List.replicate (many - ww) (.ref t1))) l3 = some (.lst (List.replicate (many - ww) (.ref t1))):=upd_same
 have s03:=s02.trans s3
 have g1:=s3 _ _ g1
 generalize upd H2 l3 (.lst (List.replicate (many - ww) (.ref t1))) = H3 at s3 g3 s03 g1 |-
 refine ⟨(by show 1<=sizeLine; decide),fun t4 ht4=>⟨(by show 1<=sizeLine; decide),fun l4 hl4=>?_⟩⟩
 have s4:=same_new ht4 (.tup [.str "more"])
 have g4:upd H3 t4 (.tup [.str "more"]) t4 = some (.tup (cMore.map V.str)):=upd_same
 have s5:=same_new hl4 (.lst [.ref t4])
 have g5:upd (upd H3 t4 (.tup [.str "more"])) l4 (.lst [.ref t4]) l4 = some (.lst [.ref t4]):=upd_same
 have s45:=s4.trans s5
 have s05:=s03.trans s45
 have g1:=s45 _ _ g1
 have g3:=s45 _ _ g3
 have g4:=s5 _ _ g4
 generalize upd (upd H3 t4 (.tup [.str "more"])) l4 (.lst [.ref t4]) = H5 at s5 g5 s45 s05 g1 g3 g4 |-
 refine ⟨_,rfl,_,rfl,_,_,rfl,rfl,l4,_,_,rfl,rfl,g5,by omega,by omega,(by rw [k2]; show 1 * (ww - many)<=sizeLine; omega),fun l6 hl6=>?_⟩
 rw [k2,rep_flat]
 have s6:=same_new hl6 (.lst (List.replicate (ww - many) (.ref t4)))
 have g6:upd H5 l6 (.lst (List.replicate (ww - many) (.ref t4))) l6 = some (.lst (List.replicate (ww - many) (.ref t4))):=upd_same
 have s06:=s05.trans s6
 have g1:=s6 _ _ g1
 have g3:=s6 _ _ g3
 have g4:=s6 _ _ g4
 generalize upd H5 l6 (.lst (List.replicate (ww - many) (.ref t4))) = H6 at s6 g6 s06 g1 g3 g4 |-
 refine ⟨l3,l6,_,_,rfl,rfl,g3,g6,(by rw [List.length_replicate,List.length_replicate]; omega),fun lc hlc=>?_⟩
 have s7:=same_new hlc (.lst (List.replicate (many - ww) (.ref t1) ++ List.replicate (ww - many) (.ref t4)))
 have g7:upd H6 lc (.lst (List.replicate (many - ww) (.ref t1) ++ List.replicate (ww - many) (.ref t4))) lc = some (.lst (List.replicate (many - ww) (.ref t1) ++ List.replicate (ww - many) (.ref t4))):=upd_same
 have s07:=s06.trans s7
 have g1:=s7 _ _ g1
 have g4:=s7 _ _ g4
 have nlc:H lc = none:=s06.free hlc
 generalize upd H6 lc (.lst (List.replicate (many - ww) (.ref t1) ++ List.replicate (ww - many) (.ref t4))) = H7 at s7 g7 s07 g1 g4 |-
 have p7:Paired (Says K F' H7 1) (List.replicate (many - ww) (.ref t1) ++ List.replicate (ww - many) (.ref t4)) ((List.replicate (many - ww) cLess ++ List.replicate (ww - many) cMore).map chD):=by
  rw [List.map_append,List.map_replicate,List.map_replicate]
  exact paired_app (says_rep (says_strT g1) _) (says_rep (says_strT g4) _)
 have lv7:(List.replicate (many - ww) (V.ref t1) ++ List.replicate (ww - many) (V.ref t4)).length<=150:=by rw [List.length_append,List.length_replicate,List.length_replicate]; omega
 have l7:(List.replicate (many - ww) cLess ++ List.replicate (ww - many) cMore).length<=150:=by rw [List.length_append,List.length_replicate,List.length_replicate]; omega
 have eM:mtF rows bars ww many names = (List.replicate (many - ww) cLess ++ List.replicate (ww - many) cMore) ++ (missF rows bars ww names).map (mtC rows names):=rfl
 generalize List.replicate (many - ww) (V.ref t1) ++ List.replicate (ww - many) (V.ref t4) = v7 at g7 p7 lv7
 generalize List.replicate (many - ww) cLess ++ List.replicate (ww - many) cMore = c7 at p7 eM l7
 clear s6 g6 s06 s45 s05 g3 s5 g5 s4 s03 s3 s02 s2 s1 g2
 dsimp only [gName]
 have lms:(missF rows bars ww names).length<=2 * names.length + rows.length:=miss_len hw
 have atM:∀ m ∈ missF rows bars ww names,(m.1 = Str.ofString "lacking"/\∃ r,rows[m.2]? = some r)\/(m.1 ≠ Str.ofString "lacking"/\m.2 < names.length):=fun m hm=>miss_at hw hm
 refine pss_go (ps_for PassesOwn.never rfl (pi_list (cF cMo hr (ac (pv 0) (ac (pv 1) (ac (pv 3) pa_nil))))) (pg_tup rfl (pgs_cons (pg_name (i:=5) scMTo.nd rfl (Or.inl rfl)) (pgs_cons (pg_name (i:=6) scMTo.nd rfl (Or.inl rfl)) pgs_nil))) pss_all) ?_
 refine ⟨_,rfl,_,rfl,_,rfl,f,a,ww,rows,bars,names,rfl,by omega,by omega,by omega,by omega,hF.ok,(hF.same s07).at_,s07 _ _ ha,fun lm H8 s8 ⟨us,nlm,hlm,hms⟩=>?_⟩
 generalize missF rows bars ww names = ms at eM lms atM hms
 have lu:us.length = ms.length:=hms.length
 refine ⟨lm,rfl,⟨_,SqL.of hlm⟩,for_list (K:=K) (a:=lm) (xs:=us.map V.ref) (fun i σ H'=>∃ (v5 v6:Option V) (vs:List V),σ = [some (.ref f),some (.int (ww:Nat)),some (.int (many:Nat)),some (.ref a),some (.ref lc),v5,v6]/\Same H H'/\H' lm = some (.lst (us.map V.ref))/\MsAt H' us ms/\H' lc = some (.lst vs)/\Paired (Says K F' H' 1) vs ((c7 ++ (ms.take i).map (mtC rows names)).map chD)) ⟨_,_,v7,rfl,s07.trans s8,hlm,hms,s8 _ _ g7,by rw [List.take_zero,List.map_nil,List.append_nil]; exact Paired.imp' (fun _ _ z=>z.same s8) p7⟩ (fun i σ H' _ ⟨_,_,_,_,_,h,_⟩=>SqL.of h) ?_ ?_⟩
 ·rintro i x σ H9 hx ⟨v5,v6,vs,rfl,s9,hlm9,hms9,hlc9,pv9⟩
  obtain ⟨u,hu,rfl⟩:=refs_at hx
  obtain ⟨mm,hm,mu⟩:=paired_at hms9 hu
  have hi:i < ms.length:=(List.getElem?_eq_some_iff.mp hm).1
  have nlm9:lm ≠ lc:=fun e=>by
   rw [e] at nlm
   rw [g7] at nlm
   cases nlm
  have lvs:vs.length<=1000:=by
   rw [pv9.length,List.length_map,List.length_append,List.length_map,List.length_take]
   omega
  have tk:(c7 ++ (ms.take (i + 1)).map (mtC rows names)).map chD = (c7 ++ (ms.take i).map (mtC rows names)).map chD ++ [chD (mtC rows names mm)]:=by
   simp only [take_snocL hm,List.map_append,List.append_assoc]
   rfl
  have put:∀ (H10:Hp) (t:Addr) (zs:List Str),Same H9 H10->H10 t = some (.tup (zs.map V.str))->mtC rows names mm = zs->∃ (v5 v6:Option V) (vs':List V),([some (.ref f),some (.int (ww:Nat)),some (.int (many:Nat)),some (.ref a),some (.ref lc),some (.str mm.1),some (.int (mm.2:Nat))]:List (Option V)) = [some (.ref f),some (.int (ww:Nat)),some (.int (many:Nat)),some (.ref a),some (.ref lc),v5,v6]/\Same H (upd H10 lc (.lst (vs ++ [.ref t])))/\upd H10 lc (.lst (vs ++ [.ref t])) lm = some (.lst (us.map V.ref))/\MsAt (upd H10 lc (.lst (vs ++ [.ref t]))) us ms/\upd H10 lc (.lst (vs ++ [.ref t])) lc = some (.lst vs')/\Paired (Says K F' (upd H10 lc (.lst (vs ++ [.ref t]))) 1) vs' ((c7 ++ (ms.take (i + 1)).map (mtC rows names)).map chD):=fun H10 t zs s10 ht e=>by
   refine ⟨_,_,vs ++ [.ref t],rfl,same_upd (s9.trans s10) nlc _,by rw [upd_ne nlm9]; exact s10 _ _ hlm9,(hms9.same s10).upd (s10 _ _ hlc9),upd_same,?_⟩
   rw [tk,e]
   have hlc10:=s10 _ _ hlc9
   exact Paired.snoc (Paired.imp' (fun _ _ z=>says_upd (.inr ⟨_,hlc10⟩) (fun b hb _=>hb.elim) (z.same s10)) pv9) (says_upd (.inr ⟨_,hlc10⟩) (fun b (hb:F' b) _=>hb.elim) (says_strT ht))
  refine ⟨u,_,rfl,SqT.of mu,rfl,_,_,rfl,_,_,rfl,rfl,?_⟩
  dsimp only [gName]
  refine ⟨_,pss_one (ps_if (pt_cmpR op_eq (pv 5) pe_str (nomark _)) (pss_one (ps_expr (pe_bm PySem.F.plainAttrs_list PySem.F.slot_list_append PySem.F.type_list_append mt_append (pv 4) (ac (pe_tup (ac pe_str (ac (pe_fld (pe_ix ix_list (pe_meth0 (pv 0) FK.cl mP GP hr1 bP .nil pass0) (pv 6) (fun _ _=>rfl)) rfl) pa_nil))) pa_nil))))
   (pss_one (ps_expr (pe_bm PySem.F.plainAttrs_list PySem.F.slot_list_append PySem.F.type_list_append mt_append (pv 4) (ac (pe_tup (ac pe_str (ac (pe_ix ix_list (pv 3) (pv 6) (fun _ _=>rfl)) pa_nil))) pa_nil))))),?_⟩
  refine ⟨_,rfl,rfl,_,rfl,?_⟩
  rcases atM mm (List.mem_of_getElem? hm) with ⟨el,r,hr'⟩ | ⟨el,hlt⟩
  ·refine iteB (decide_eq_true (by rw [el])) ?_
   refine ⟨_,rfl,.inl ⟨rfl,_,SqL.of hlc9⟩,_,rfl,f,dx,fs,rfl,s9 _ _ h1,h2.no _ (by decide +kernel),f,rows,bars,rfl,(hF.same s9).at_,fun lp ps H10 s10 nlp hlp hps=>?_⟩
   have hpl:mm.2 < ps.length:=by rw [hps.length]; exact (List.getElem?_eq_some_iff.mp hr').1
   obtain ⟨r2,hr2,dxp,hdx⟩:=paired_at hps (List.getElem?_eq_getElem hpl)
   rw [hr'] at hr2
   cases hr2
   have rok:=hF.ok r (List.mem_of_getElem? hr')
   have C:=PP r.k rok.1
   refine ⟨_,rfl,lp,_,_,.ref ps[mm.2],rfl,rfl,SqL.of hlp,atI_nat (by rw [List.getElem?_map,List.getElem?_eq_getElem hpl]; rfl),ps[mm.2],_,dxp,_,_,rfl,hdx,C.cl,C.nN,pf_name,(by show 2<=sizeLine; decide),fun tt htt=>?_⟩
   have s11:=same_new htt (.tup ((cIn r.z).map V.str))
   refine ⟨lc,_,_,rfl,rfl,(s10.trans s11) _ _ hlc9,small1000 (by omega),?_⟩
   exact put _ tt (cIn r.z) (s10.trans s11) upd_same (by unfold mtC; rw [if_pos el,hr']; rfl)
  ·refine iteC (decide_eq_false (fun e=>el (V.str.inj e))) ?_
   refine ⟨_,rfl,.inl ⟨rfl,_,SqL.of hlc9⟩,_,rfl,_,rfl,a,_,_,.str (names.getD mm.2 ""),rfl,rfl,SqL.of (s9 _ _ ha),atI_nat (by rw [List.getElem?_map,List.getElem?_eq_getElem hlt,List.getD_eq_getElem?_getD,List.getElem?_eq_getElem hlt]; rfl),(by show 2<=sizeLine; decide),fun tt htt=>?_⟩
   have s11:=same_new htt (.tup ((cOut (names.getD mm.2 "")).map V.str))
   refine ⟨lc,_,_,rfl,rfl,s11 _ _ hlc9,small1000 (by omega),?_⟩
   exact put _ tt (cOut (names.getD mm.2 "")) s11 upd_same (by unfold mtC; rw [if_neg el])
 ·rintro σ H9 ⟨v5,v6,vs,rfl,s9,hlm9,hms9,hlc9,pv9⟩
  rw [List.length_map,lu,List.take_length,<- eM] at pv9
  exact ⟨_,pss_one (ps_ret (pv 4)),_,rfl,q lc H9 s9 ⟨nlc,vs,hlc9,pv9⟩⟩
end
def ChL (K:PySem.W.Frag) (H0 H:Hp) (D:Addr) (x:V) (cs:List (List Str)):Prop:=∃ (l:Addr) (vs:List V),x = .ref l/\(l ≠ D/\H0 l = none)/\H l = some (.lst vs)/\Paired (Says K F' H 1) vs (cs.map chD)
theorem chl_split {K:PySem.W.Frag} {H0 H:Hp} {D:Addr}:∀ {zs:List V} {css:List (List (List Str))},Paired (ChL K H0 H D) zs css->∃ yss:List (List V),Paired (LstAt H) zs yss/\∀ (i:Nat) (x:V) (ys:List V),zs[i]? = some x->yss[i]? = some ys->∃ (cs:List (List Str)) (l:Addr),css[i]? = some cs/\x = .ref l/\H0 l = none/\H l = some (.lst ys)/\Paired (Says K F' H 1) ys (cs.map chD)
 | [],_,.nil=>⟨[],.nil,fun i x ys h=>by simp at h⟩
 | _ :: _,_,.cons ⟨l,vs,e1,e0,e2,e3⟩ t=>by
  obtain ⟨yss,p,q⟩:=chl_split t
  refine ⟨vs :: yss,.cons ⟨l,e1,e2⟩ p,fun i x ys hx hy=>?_⟩
  cases i with
  | zero=>
   rw [List.getElem?_cons_zero] at hx hy
   cases hx
   cases hy
   exact ⟨_,l,rfl,e1,e0.2,e2,e3⟩
  | succ i=>exact q i x ys (by simpa using hx) (by simpa using hy)
theorem ints_at {a n i:Nat} {x:V} (h:((L2.intsFrom a n).map V.int)[i]? = some x):i < n/\x = .int ((a + i:Nat):Int):=by
 unfold L2.intsFrom at h
 rw [List.map_map,List.getElem?_map] at h
 cases e:(List.range n)[i]? with
 | none=>rw [e] at h; cases h
 | some j=>
  rw [e] at h
  have hi:i < n:=by have:=(List.getElem?_eq_some_iff.mp e).1; rwa [List.length_range] at this
  rw [List.getElem?_range hi] at e
  cases e
  exact ⟨hi,(Option.some.inj h).symm⟩
def MinW (rows:List Rw) (bars:List Str) (many:Nat) (names:List Str) (w:Nat):Prop:=fewD rows<=w/\w<=mostW rows many/\∀ w',fewD rows<=w'->w'<=mostW rows many->(mtF rows bars w many names).length<=(mtF rows bars w' many names).length
def CallAt (K:PySem.W.Frag) (H:Hp) (a:Addr) (c:List Item):Prop:=∃ xs,SqL K H a xs/\Paired (Says K T' H 3) xs (c.map itemD)
theorem CallAt.same {K:PySem.W.Frag} {H H':Hp} {a:Addr} {c:List Item} (h:CallAt K H a c) (s:Same H H'):CallAt K H' a c:=let ⟨xs,h1,h2⟩:=h; ⟨xs,s.seq h1,Paired.imp' (fun _ _ z=>z.same s) h2⟩
def spMends (K:PySem.W.Frag) (c:C5) (CF:Addr):Sp:=fun vs H Q _=>∃ (f a:Addr) (it:List Item) (rows:List Rw) (bars:List Str),vs = [.ref f,.ref a]/\FormOk c CF H f rows bars/\rows.length<=24/\bars.length<=60/\CallAt K H a it/\(laidT it).length<=100/\(laidP it).length<=100/\
 ∀ (w:Nat) (l:Addr) (H':Hp),Same H H'->MinW rows bars (laidT it).length (namesOf it) w->NewCh K H H' l (mtF rows bars w (laidT it).length (namesOf it))->Q (.ref l) H'
def spNear (K:PySem.W.Frag) (c:C5) (CF:Addr):Sp:=fun vs H Q _=>∃ (f a:Addr) (it:List Item) (rows:List Rw) (bars:List Str),vs = [.ref f,.ref a]/\FormOk c CF H f rows bars/\rows.length<=24/\bars.length<=60/\CallAt K H a it/\(laidT it).length<=100/\(laidP it).length<=100/\
 ∀ (w:Nat) (H':Hp),Same H H'->MinW rows bars (laidT it).length (namesOf it) w->Q (.int ((mtF rows bars w (laidT it).length (namesOf it)).length:Nat)) H'
section
variable {P:Program} {w:World} {K:PySem.W.Frag} {mg:Str->Option Value} {base:Heap} {f CF:Addr} {fd:FuncData} {c:C5} {m:MA}
theorem ndWNMF:([Str.ofString "wanted",Str.ofString "names",Str.ofString "many",Str.ofString "form"]:List Str).Nodup:=by decide +kernel
theorem scMends:FnScope ["form","call","many","names"] ["form","call"] (defScope sMends):=⟨rfl,rfl,rfl,by decide +kernel,rfl,by decide +kernel,by decide +kernel⟩
theorem scNear:FnScope ["form","call"] ["form","call"] (defScope sNearest):=⟨rfl,rfl,rfl,by decide +kernel,rfl,by decide +kernel,by decide +kernel⟩
theorem ok_mends {g1 g2 g3:Addr} {e1 e2 e3:FuncData} (F:Fun K "mends" "mends" sMends f fd) (U:TxtM mg) (cS:Callee P w K mg base 2 "shape" g1 e1 ["call"] (spShape K)) (cW:Callee P w K mg base 3 "wanted_numbers" g2 e2 ["form","many"] (spWanted c CF)) (cM:Callee P w K mg base 5 "mends_to" g3 e3 ["form","wanted","many","names"] (spMTo K c CF)):FnOk P w K mg base CX0 6 f fd ["form","call"] (spMends K c CF):=by
 refine F.ok scMends (fun vs H Q E h=>?_) (fun cdv A outer s H vs Q E hr h=>?_)
 ·obtain ⟨f,a,it,rows,bars,rfl,_⟩:=h
  rfl
 obtain ⟨f,a,it,rows,bars,rfl,hF,l24,l60,⟨xs,hxs,hp⟩,t1,p1,q⟩:=h
 have hr2:Room 2 _:=hr.mono (by decide)
 have hr3:Room 3 _:=hr.mono (by decide)
 have ln:(namesOf it).length<=100:=by unfold namesOf; rw [List.length_map]; exact p1
 refine pss_go (ps_asg (cF cS hr2 (ac (pv 1) pa_nil)) (pg_tup rfl (pgs_cons (pg_name (i:=2) scMends.nd rfl (Or.inr rfl)) (pgs_cons (pg_name (i:=3) scMends.nd rfl (Or.inr rfl)) pgs_nil)))) ?_
 refine ⟨_,rfl,a,it,xs,rfl,hxs,hp,by omega,by omega,fun p l H1 s1 nl hpt hl=>?_⟩
 refine ⟨p,_,rfl,SqT.of hpt,rfl,_,_,rfl,_,_,rfl,rfl,?_⟩
 dsimp only [gName]
 generalize (laidT it).length = many at *
 generalize namesOf it = names at *
 have lpl:plN rows<=24:=Nat.le_trans (List.length_filter_le _ _) l24
 have hm:mostW rows many<=100/\plN rows<=mostW rows many:=by
  unfold mostW
  split <;> omega
 have hfp:fewD rows<=plN rows:=few_pl (nms rows) rows (plN rows)
 have okw:∀ w,w<=mostW rows many->((firstK 2 0 rows).isSome = true\/w<=plN rows):=fun w h=>by
  unfold mostW at h
  split at h
  next e=>exact .inl e
  ·exact .inr h
 refine ⟨_,pss_one (ps_ret (pe_minLen rfl rfl U.min rfl U.len (ac (pe_lc ["names","many","form"] ["wanted","names","many","form"] [none,some 3,some 2,some 0] rfl ⟨rfl,rfl,rfl,rfl⟩ (pi_list (cF cW hr3 (ac (pv 0) (ac (pv 2) pa_nil)))) (gown_name 0) rfl rfl rfl
  (fun pins fp s H C=>⟨pg_name (i:=0) ndWNMF rfl (Or.inl rfl) (.inr rfl),pif_nil,cF cM hr (ac (pv 3) (ac (pv 0) (ac (pv 2) (ac (pv 1) pa_nil))))⟩)) pa_nil))),?_⟩
 refine ⟨_,rfl,_,rfl,f,many,rows,bars,rfl,hF.same s1,l24,by omega,fun lw H2 s2 nlw hlw=>?_⟩
 have s02:=s1.trans s2
 refine ⟨lw,rfl,⟨_,SqL.of hlw⟩,fun D hD=>?_⟩
 have lx:((L2.intsFrom (fewD rows) (mostW rows many + 1 - fewD rows)).map V.int).length = mostW rows many + 1 - fewD rows:=by unfold L2.intsFrom; rw [List.length_map,List.length_map,List.length_range]
 have hl2:=s2 _ _ hl
 refine lc_list (K:=K) (xs:=(L2.intsFrom (fewD rows) (mostW rows many + 1 - fewD rows)).map V.int) (fun i zs H'=>Same H2 H'/\H' D = some (.lst zs)/\Paired (ChL K H H' D) zs ((List.range i).map fun k=>mtF rows bars (fewD rows + k) many names)) ⟨same_new hD _,upd_same,.nil⟩ (fun i zs H' h=>h.1.seq (SqL.of hlw)) ?_ ?_
 ·rintro i x zs H3 hlt hx ⟨s3,hD3,pz⟩
  obtain ⟨hi,rfl⟩:=ints_at hx
  have lz:zs.length = i:=by rw [pz.length,List.length_map,List.length_range]
  have hwm:fewD rows + i<=mostW rows many:=by omega
  refine ⟨fun _=>?_,fun e=>by cases e⟩
  refine ⟨_,rfl,_,rfl,_,rfl,_,rfl,f,l,fewD rows + i,many,rows,bars,names,rfl,hF.same (s02.trans s3),l24,l60,by omega,by omega,ln,s3 _ _ hl2,okw _ hwm,fun lm H4 s4 ⟨nlm,vs,hlm,hvs⟩=>?_⟩
  have hD4:=s4 _ _ hD3
  have nD:lm ≠ D:=fun e=>by rw [e,hD3] at nlm; cases nlm
  refine lcN.mk hlt (by rw [lx]; exact le1000 (by omega)) hD4 (by omega) ⟨same_upd (s3.trans s4) hD _,upd_same,?_⟩
  rw [List.range_succ,List.map_append]
  refine Paired.snoc (Paired.imp' (fun x cs ⟨l,vs,e1,e2,e3,e4⟩=>⟨l,vs,e1,e2,by rw [upd_ne e2.1]; exact s4 _ _ e3,Paired.imp' (fun _ _ z=>says_upd (.inr ⟨_,hD4⟩) (fun b (hb:F' b) _=>hb.elim) (z.same s4)) e4⟩) pz) ⟨lm,vs,rfl,⟨nD,(s02.trans s3).free nlm⟩,by rw [upd_ne nD]; exact hlm,Paired.imp' (fun _ _ z=>says_upd (.inr ⟨_,hD4⟩) (fun b (hb:F' b) _=>hb.elim) z) hvs⟩
 ·rintro zs H3 ⟨s3,hD3,pz⟩
  rw [lx] at pz
  obtain ⟨yss,py,at_⟩:=chl_split pz
  have lz:zs.length = mostW rows many + 1 - fewD rows:=by rw [pz.length,List.length_map,List.length_range]
  refine ⟨D,zs,yss,rfl,SqL.of hD3,py,by omega,fun i x ys hx hy hb=>?_⟩
  obtain ⟨cs,lm,hc,rfl,nlm,hlm,hys⟩:=at_ i x ys hx hy
  have hi:i < mostW rows many + 1 - fewD rows:=by rw [<- lz]; exact (List.getElem?_eq_some_iff.mp hx).1
  rw [List.getElem?_map,List.getElem?_range hi] at hc
  have hc:mtF rows bars (fewD rows + i) many names = cs:=Option.some.inj hc
  subst hc
  have len:∀ (j:Nat) (ys':List V),yss[j]? = some ys'->ys'.length = (mtF rows bars (fewD rows + j) many names).length/\j < mostW rows many + 1 - fewD rows:=fun j ys' hj=>by
   have hjl:j < zs.length:=by rw [py.length]; exact (List.getElem?_eq_some_iff.mp hj).1
   obtain ⟨cs,lm,hc,_,_,_,hys⟩:=at_ j _ ys' (List.getElem?_eq_getElem hjl) hj
   rw [lz] at hjl
   rw [List.getElem?_map,List.getElem?_range hjl] at hc
   have hc:mtF rows bars (fewD rows + j) many names = cs:=Option.some.inj hc
   subst hc
   exact ⟨by rw [hys.length,List.length_map],hjl⟩
  refine q (fewD rows + i) lm H3 (s02.trans s3) ⟨Nat.le_add_right _ _,by omega,fun w' h1 h2=>?_⟩ ⟨nlm,ys,hlm,hys⟩
  have hj:w' - fewD rows < yss.length:=by rw [<- py.length,lz]; omega
  have h3:=hb (w' - fewD rows) _ (List.getElem?_eq_getElem hj)
  rw [(len _ _ (List.getElem?_eq_getElem hj)).1,(len i ys hy).1,show fewD rows + (w' - fewD rows) = w' by omega] at h3
  exact h3.1
theorem ok_near {g1:Addr} {e1:FuncData} (F:Fun K "nearest" "nearest" sNearest f fd) (hln:mg "len" = none) (cM:Callee P w K mg base 6 "mends" g1 e1 ["form","call"] (spMends K c CF)):FnOk P w K mg base CX0 7 f fd ["form","call"] (spNear K c CF):=by
 refine F.ok scNear (fun vs H Q E h=>?_) (fun cdv A outer s H vs Q E hr h=>?_)
 ·obtain ⟨f,a,it,rows,bars,rfl,_⟩:=h
  rfl
 obtain ⟨f,a,it,rows,bars,rfl,hF,l24,l60,hc,t1,p1,q⟩:=h
 refine ⟨_,pss_one (ps_ret (cB call_len_seq hln PySem.boot_len (ac (cF cM hr (ac (pv 0) (ac (pv 1) pa_nil))) pa_nil))),?_⟩
 refine ⟨_,rfl,_,rfl,f,a,it,rows,bars,rfl,hF,l24,l60,hc,t1,p1,fun w l H1 s1 hm ⟨nl,vs,hl,hp⟩=>?_⟩
 refine ⟨l,vs,rfl,.inl (SqL.of hl),?_⟩
 rw [hp.length,List.length_map]
 exact q w H1 s1 hm
end
end K32
namespace L2
open PySem PySem.Spec PyProof.Rows
def SetWT (P:Program) (w:World) (a:Addr) (S:Str->Bool) (n:Nat) (h:Heap):Prop:=SetW P w h a S n
abbrev setWO (P:Program) (w:World) (a:Addr) (S:Str->Bool) (n:Nat):HO:=.ext (SetWT P w a S n)
theorem setWO_ok {P:Program} {w:World} {H:Hp} {h:Heap} {a:Addr} {S:Str->Bool} {n:Nat} (e:SetW P w h a S n):ObjOk P w H h a (setWO P w a S n):=
 ⟨e,let ⟨o,_,_,_,h1,_⟩:=e; ⟨o,h1⟩,fun g1 g2 q k=>let ⟨o,es,ep,t,h1,c⟩:=q; ⟨o,es,ep,t,k o h1,c⟩⟩
theorem setW_len {P:Program} {w:World} {h:Heap} {a:Addr} {zs:List Str} {n:Nat} (hS:SetW P w h a (fun z=>decide (z ∈ zs)) n):n<=zs.length:=by
 obtain ⟨o,es,ep,t,ho,hex,hd,hel,hmem,hb,hf,hn,hnd,_⟩:=hS
 have:=nodup_len (es.toList.map fun e=>keyOf e.2) zs hnd fun z hz=>by
  obtain ⟨e,he,e1⟩:=List.mem_map.mp hz
  obtain ⟨⟨k,hk,_⟩,_⟩:=hel e he
  have:=(hmem k).mpr ⟨e,he,hk⟩
  obtain ⟨tk,e2⟩:=Value.isStrOf_shape hk
  rw [e2] at e1
  have e1:k = z:=e1
  rw [<- e1]
  exact of_decide_eq_true this
 rw [List.length_map,Array.length_toList] at this
 omega
section
variable {X:Cx}
theorem call_setW (hc:X.calm = true):CallR X (.type "set") (fun xs H Q=>∃ (p:Addr) (zs:List Str),xs = [.ref p]/\SqL X.K H p (zs.map V.str)/\zs.length<=900/\∀ (l:Addr) (n:Nat),H l = none->Q (.ref l) (upd H l (setWO X.prog X.w l (fun z=>decide (z ∈ zs)) n))):=by
 intro pins s σ H xs us Q I r h
 obtain ⟨p,zs,rfl,hS,lz,q⟩:=h
 obtain ⟨u,rfl,ru⟩:=vals1 r
 cases ru
 obtain ⟨its,rv,hp,hz⟩:=I.list hS
 have hl:its.length = zs.length:=by rw [<- rv.length,List.length_map]
 have hb:its.toArray.size + 1 < scanBound:=by
  rw [List.size_toArray,hl]
  have : 1000 < scanBound:=by unfold scanBound; decide
  omega
 refine call_textsW (I.ok.hd hc) hp.isList (fun i v e=>rv.strs_at i v (by simpa using e)) hb fun h' tk c hS' hk=>?_
 have hsz:its.toArray.size = zs.length:=by rw [List.size_toArray,hl]
 rw [hsz] at hS'
 have eS:seen (fun i=>zs.getD i "") (fun _=>false) 0 zs.length = fun z=>decide (z ∈ zs):=funext (seen_mem zs)
 rw [eS] at hS'
 refine ⟨.ref s.heap.objs.size,_,I.laid (t':=tk) (fun b ob e=>hk b ob (Heap.lt_size e) e) (Nat.le_refl _) (setWO_ok hS'),rfl,q _ c (I.hok.fresh (Nat.le_refl _))⟩
end
theorem SetW.setOf {P:Program} {w:World} {h:Heap} {a:Addr} {S:Str->Bool} {n:Nat} (hS:SetW P w h a S n):h.SetOf (PySem.strKind P w) a S n:=by
 obtain ⟨o,es,ep,t,h1,h2,h3,h4,h5,h6,h7,h8,_⟩:=hS
 exact ⟨o,es,ep,t,h1,h2,h3,h4,h5,h6,h7,h8⟩
theorem dup_of {zs:List Str} (h:¬ zs.Nodup):∃ z ∈ zs,z ∈ zs.erase z:=by
 induction zs with
 | nil=>exact absurd List.nodup_nil h
 | cons x xs ih=>
  by_cases hx:x ∈ xs
  ·exact ⟨x,List.mem_cons_self,by rw [List.erase_cons_head]; exact hx⟩
  ·obtain ⟨z,h1,h2⟩:=ih fun c=>h (List.nodup_cons.mpr ⟨hx,c⟩)
   refine ⟨z,List.mem_cons_of_mem _ h1,?_⟩
   have:x ≠ z:=fun e=>hx (by rw [e]; exact h1)
   rw [List.erase_cons_tail (by simpa using this)]
   exact List.mem_cons_of_mem _ h2
theorem setW_dup {P:Program} {w:World} {h:Heap} {a:Addr} {zs:List Str} {n:Nat} (hS:SetW P w h a (fun z=>decide (z ∈ zs)) n) (hd:¬ zs.Nodup):n < zs.length:=by
 obtain ⟨z,h1,h2⟩:=dup_of hd
 have e:(fun y=>decide (y ∈ zs)) = fun y=>decide (y ∈ zs.erase z):=funext fun y=>by
  refine decide_eq_decide.mpr ⟨fun hy=>?_,fun hy=>List.mem_of_mem_erase hy⟩
  by_cases c:y = z
  ·rw [c]; exact h2
  ·exact (List.mem_erase_of_ne c).mpr hy
 rw [e] at hS
 have:=setW_len hS
 rw [List.length_erase_of_mem h1] at this
 have:=List.length_pos_of_mem h1
 omega
theorem call_lenW {X:Cx}:CallR X (.builtin "len") (fun xs H Q=>∃ (a:Addr) (zs:List Str) (n:Nat),xs = [.ref a]/\H a = some (setWO X.prog X.w a (fun z=>decide (z ∈ zs)) n)/\((decide (n < zs.length) = !decide zs.Nodup)->Q (.int n) H)):=by
 intro pins s σ H xs us Q I r h
 obtain ⟨a,zs,n,rfl,e,q⟩:=h
 obtain ⟨u,rfl,ru⟩:=vals1 r
 cases ru
 have hS:SetW X.prog X.w s.heap a (fun z=>decide (z ∈ zs)) n:=(I.hok a _ e).1
 have hq:decide (n < zs.length) = !decide zs.Nodup:=by
  by_cases c:zs.Nodup
  ·rw [decide_eq_true c,decide_eq_false]
   ·rfl
   ·have:=setO_len hS.setOf c
    omega
  ·rw [decide_eq_false c,decide_eq_true (setW_dup hS c)]
   rfl
 obtain ⟨o,es,ep,t,ho,hx,hd,_,_,hb,hf,hn⟩:=hS.setOf
 have h63:(es.size:Int) < 2 ^ 63:=by
  have:scanBound < 2 ^ 63:=by unfold scanBound; decide
  omega
 refine call_len_set ho hx hd hf h63 ?_
 exact ⟨.int es.size,H,I.tok _,⟨_,rfl⟩,by rw [hn]; exact q hq⟩
end L2
namespace K32
open PySem L2 PyProof.Rows
def hasK (rows:List Rw) (k:Nat):Bool:=rows.any fun r=>r.k == k
theorem in_sorts {k:Nat} (hk:k < 5):∀ {rows:List Rw},(∀ r ∈ rows,r.ok)->decide (kw k ∈ rows.map fun r=>kw r.k) = hasK rows k
 | [],_=>rfl
 | r :: rows,h=>by
  have ih:=in_sorts hk (rows:=rows) fun r hr=>h r (List.mem_cons_of_mem _ hr)
  have e:=kw_inj k hk r.k (h r List.mem_cons_self).1
  have e':decide (kw k = kw r.k) = (r.k == k):=by
   rw [<- e]
   by_cases z:kw k = kw r.k
   ·rw [decide_eq_true z,z,decide_eq_true rfl]
   ·rw [decide_eq_false z,decide_eq_false (fun c=>z (V.str.inj c).symm)]
  unfold hasK at ih |-
  rw [List.any_cons,<- ih,<- e',List.map_cons]
  by_cases a:kw k = kw r.k
  ·rw [a,decide_eq_true List.mem_cons_self,decide_eq_true rfl]; rfl
  ·by_cases b:kw k ∈ rows.map fun r=>kw r.k
   ·rw [decide_eq_true b,decide_eq_true (List.mem_cons_of_mem _ b),Bool.or_true]
   ·rw [decide_eq_false b,decide_eq_false a,decide_eq_false (fun c=>(List.mem_cons.mp c).elim a b)]; rfl
theorem firstK_some {kk:Nat}:∀ (rows:List Rw) (i:Nat),(firstK kk i rows).isSome = rows.any fun r=>r.k == kk
 | [],_=>rfl
 | r :: rs,i=>by
  unfold firstK
  rw [List.any_cons]
  by_cases e:r.k = kk
  ·rw [if_pos e,e]; simp
  ·rw [if_neg e,firstK_some rs (i + 1)]
   simp [e]
theorem miss4 {rows:List Rw} {bars names:List Str} {many:Nat}:missF rows bars many names = [] ↔ names.Nodup/\((firstK 2 0 rows).isSome = true\/many<=plN rows)/\(∀ z ∈ names,unwW rows bars many z = none)/\∀ i r,rows[i]? = some r->(needR names r && !(byPl r.k && decide (i < many))) = false:=by
 unfold missF
 rw [List.append_eq_nil_iff,List.append_eq_nil_iff,List.append_eq_nil_iff,dbl_nil,over_nil,unw_nil,lackF_nil]
 constructor
 ·rintro ⟨⟨⟨h1,h2⟩,h3⟩,h4⟩
  exact ⟨h1,h2,h3,fun i r hi=>by have:=h4 i r hi; rw [Nat.zero_add,lack_it] at this; exact this⟩
 ·rintro ⟨h1,h2,h3,h4⟩
  exact ⟨⟨⟨h1,h2⟩,h3⟩,fun i r hi=>by rw [Nat.zero_add,lack_it]; exact h4 i r hi⟩
theorem cnt_pl:∀ {rows:List Rw},(∀ r ∈ rows,r.ok)->((rows.map fun r=>V.str (kw r.k)).countP fun z=>eqV z (.str "seat")) + ((rows.map fun r=>V.str (kw r.k)).countP fun z=>eqV z (.str "both")) = plN rows
 | [],_=>rfl
 | r :: rs,h=>by
  have ih:=cnt_pl (rows:=rs) fun x hx=>h x (List.mem_cons_of_mem _ hx)
  have hk:=(h r List.mem_cons_self).1
  have e:∀ k:Nat,k < 5->(if eqV (.str (kw k)) (.str "seat") = true then 1 else 0) + (if eqV (.str (kw k)) (.str "both") = true then 1 else 0) = (if byPl k = true then 1 else 0):=by decide +kernel
  have ek:=e r.k hk
  have ep:plN (r :: rs) = plN rs + (if byPl r.k = true then 1 else 0):=by
   unfold plN
   rw [List.filter_cons]
   split <;> simp
  rw [List.map_cons,List.countP_cons,List.countP_cons,ep]
  omega
theorem bag_of {rows:List Rw} {k:Nat}:hasK rows k = (firstK k 0 rows).isSome:=by rw [firstK_some]; rfl
theorem unw_law {rows:List Rw} {bars:List Str} {many:Nat} {z:Str} (V1:Valid rows bars):(unwW rows bars many z = none) ↔ (z ∉ bars/\((valV (doorsF 0 [] rows) (.inr z) = none/\(firstK 4 0 rows).isSome = true)\/∃ l r,valV (doorsF 0 [] rows) (.inr z) = some (.int (l:Nat))/\rows[l]? = some r/\byNm r.k = true/\¬ (r.k = 1/\l < many))):=by
 have nd:(nms rows).Nodup:=(List.nodup_append.mp V1.nd).1
 unfold unwW
 by_cases hb:z ∈ bars
 ·rw [if_pos hb]
  simp [hb]
 rw [if_neg hb]
 by_cases hk:z ∈ nms rows
 ·obtain ⟨l,r,hl,hbn,he⟩:=nms_at hk
  have hv:=doors_at hbn rows 0 l [] hl nd
  rw [he,Nat.zero_add] at hv
  have hd:unwW.lastD' z rows = some l:=by
   unfold unwW.lastD'
   rw [hv]
   rfl
  rw [hd]
  have hp:=pl_at V1.ok V1.ord hl
  have rok:=V1.ok r (List.mem_of_getElem? hl)
  have hk1:(l < plN rows) ↔ r.k = 1:=by
   have e:∀ k:Nat,k < 5->byNm k = true->(byPl k = true ↔ k = 1):=by decide +kernel
   rw [<- e r.k rok.1 hbn,hp]
   exact decide_eq_true_iff.symm
  dsimp only
  constructor
  ·intro h
   split at h
   ·cases h
   next hn=>exact ⟨hb,.inr ⟨l,r,hv,hl,hbn,fun c=>hn ⟨hk1.mpr c.1,c.2⟩⟩⟩
  ·rintro ⟨_,⟨h1,_⟩ | ⟨l',r',h1,h2,_,h3⟩⟩
   ·rw [hv] at h1; cases h1
   ·rw [hv] at h1
    have:l = l':=by have:=V.int.inj (Option.some.inj h1); omega
    subst this
    rw [hl] at h2
    cases h2
    rw [if_neg (fun c=>h3 ⟨hk1.mp c.1,c.2⟩)]
 ·have hv:=doors_no rows 0 [] hk
  have hv0:valV (doorsF 0 [] rows) (.inr z) = none:=by rw [hv]; rfl
  have hd:unwW.lastD' z rows = none:=by
   unfold unwW.lastD'
   rw [hv0]
  rw [hd]
  dsimp only
  constructor
  ·intro h
   split at h
   next e=>exact ⟨hb,.inl ⟨hv0,e⟩⟩
   ·cases h
  ·rintro ⟨_,⟨_,h2⟩ | ⟨l',r',h1,_⟩⟩
   ·rw [if_pos h2]
   ·rw [hv0] at h1; cases h1
theorem lack_law {names:List Str} {r:Rw} {i many:Nat} (hk:r.k < 5):(needR names r && !(byPl r.k && decide (i < many))) = ((!(decide (r.k = 2) || decide (r.k = 4)) && !r.b) && (!(!decide (r.k = 3) && decide (i < many)) && (decide (r.k = 0) || !decide (r.z ∈ names)))):=by
 unfold needR isBoth fr
 have:r.k = 0\/r.k = 1\/r.k = 2\/r.k = 3\/r.k = 4:=by omega
 rcases this with e | e | e | e | e <;> rw [e] <;> cases r.b <;> cases decide (i < many) <;> cases decide (r.z ∈ names) <;> rfl
def spLFits:Sp:=fun vs H Q _=>∃ (la lb ln:Addr) (many:Nat) (us:List Addr) (rows:List Rw) (bars names:List Str),vs = [.ref la,.ref lb,.int (many:Nat),.ref ln]/\H la = some (.lst (us.map V.ref))/\Paired (TAt H) us rows/\Valid rows bars/\H lb = some (.lst (bars.map V.str))/\H ln = some (.lst (names.map V.str))/\names.length<=800/\∀ H',Same H H'->Q (.bl (decide (missF rows bars many names = []))) H'
theorem row_at2 {r:Rw} (h:r.k = 0\/r.k = 1\/r.k = 3):atI (rv r) 2 = some (.bl r.b):=by
 obtain ⟨k,z,b⟩:=r
 rcases h with rfl | rfl | rfl <;> rfl
structure TxtI (mg:Str->Option Value):Prop where
 len:mg "len" = none
 set:mg "set" = none
 range:mg "range" = none
section
variable {P:Program} {w:World} {K:PySem.W.Frag} {mg:Str->Option Value} {base:Heap} {f CF:Addr} {fd:FuncData} {c:C5} {m:MA}
theorem ndOneL:([Str.ofString "_law_one"]:List Str).Nodup:=by decide +kernel
theorem scLFits:FnScope ["_law_specs_here","_law_shut","_law_many","_law_names","_law_words","_law_places","_law_told","_law_p","_law_name","_law_by_place"] ["_law_specs_here","_law_shut","_law_many","_law_names"] (defScope sLFits):=⟨rfl,rfl,rfl,by decide +kernel,rfl,by decide +kernel,by decide +kernel⟩
theorem ok_lfits (F:Fun K "_law_fits" "_law_fits" sLFits f fd) (U:TxtI mg):FnOk P w K mg base CX0 1 f fd ["_law_specs_here","_law_shut","_law_many","_law_names"] spLFits:=by
 refine F.ok scLFits (fun vs H Q E h=>?_) (fun cdv A outer s H vs Q E hr h=>?_)
 ·obtain ⟨la,lb,ln,many,us,rows,bars,names,rfl,_⟩:=h
  rfl
 obtain ⟨la,lb,ln,many,us,rows,bars,names,rfl,hla,hu,V1,hlb,hln,n8,q⟩:=h
 have hu1:=hu_of hr
 have l24:=V1.l24
 have hok:=V1.ok
 have lu:us.length = rows.length:=hu.length
 have no:∀ H',Same H H'->¬ missF rows bars many names = []->Q (.bl false) H':=fun H' s h=>by
  have:=q H' s
  rw [decide_eq_false h] at this
  exact this
 refine pss_go (ps_lc (i:=4) [] ["_law_one"] [none] scLFits.nd rfl (Or.inl rfl) rfl ⟨rfl,rfl,rfl,rfl⟩ (pi_list (pv 0)) (gown_name 0) rfl rfl rfl
   (fun pins fp s H C=>⟨pg_name (i:=0) ndOneL rfl (Or.inl rfl) (.inr rfl),pif_nil,pe_ix (r:=rIxT K) ix_tup (pv 0) pe_int (fun _ _=>rfl)⟩)) ?_
 refine ⟨_,rfl,la,rfl,⟨_,SqL.of hla⟩,fun D hD=>?_⟩
 refine lc_zip (K:=K) TAt (fun _=>true) (fun _ r=>.str (kw r.k)) hD hla hu (by omega) (fun i u r H' N S hu' hr' tr sH n1 s1=>?_) (fun H1 s1 e1=>?_)
 ·exact ⟨fun _=>⟨_,rfl,u,_,0,_,rfl,rfl,SqT.of (sH _ _ tr),row_at0 (hok r (List.mem_of_getElem? hr')),n1 _ (Same.refl _) rfl⟩,fun e=>Bool.noConfusion e⟩
 rw [zip_out hu (fun _=>true) (fun r=>V.str (kw r.k)),List.filter_eq_self.mpr (fun _ _=>rfl)] at e1
 have eW:rows.map (fun r=>V.str (kw r.k)) = (rows.map fun r=>kw r.k).map V.str:=by rw [List.map_map]; rfl
 have flW:(rows.map (fun r=>V.str (kw r.k))).all flatV = true:=by rw [eW]; exact flatStrs
 have wAt:∀ {p:Nat} {r:Rw},rows[p]? = some r->atI (rows.map (fun r=>V.str (kw r.k))) (p:Int) = some (.str (kw r.k)):=fun {p r} h=>atI_nat (by rw [List.getElem?_map,h]; rfl)
 dsimp only [gName]
 refine pss_go (ps_set (i:=5) scLFits.nd rfl (Or.inl rfl) (pe_op op_add (pe_bm PySem.F.plainAttrs_list PySem.F.slot_list_count PySem.F.type_list_count mt_countF (pv 4) (ac pe_str pa_nil)) (pe_bm PySem.F.plainAttrs_list PySem.F.slot_list_count PySem.F.type_list_count mt_countF (pv 4) (ac pe_str pa_nil)))) ?_
 refine ⟨_,rfl,.inl ⟨rfl,_,SqL.of e1⟩,D,_,_,rfl,rfl,e1,rfl,flW,_,rfl,.inl ⟨rfl,_,SqL.of e1⟩,D,_,_,rfl,rfl,e1,rfl,flW,_,_,rfl,rfl,?_⟩
 have cp:=cnt_pl hok
 have ec:(((rows.map fun r=>V.str (kw r.k)).countP fun z=>eqV z (.str "seat"):Nat):Int) + (((rows.map fun r=>V.str (kw r.k)).countP fun z=>eqV z (.str "both"):Nat):Int) = ((plN rows:Nat):Int):=by omega
 rw [ec]
 clear ec cp
 dsimp only [gName]
 refine pss_go (ps_if (PW.pt (pw_or (pt_cmpR op_lt (cB call_lenW U.len PySem.boot_len (ac (cTy (call_setW rfl) U.set PyProof.Rows.boot_set (ac (pv 3) pa_nil)) pa_nil)) (cB call_len_seq U.len PySem.boot_len (ac (pv 3) pa_nil)) (nomark _))
    (pw_or1 (PW.pt (pw_and (pt_cmpR op_gt (pv 2) (pv 5) (nomark _)) (pw_and1 (pt_cmpR op_notIn_seq pe_str (pv 4) (by with_unfolding_all rfl)))))))) (pss_one (ps_ret pe_bl)) pss_nil) ?_
 refine seq_via (fun σ' H'=>σ' = [some (.ref la),some (.ref lb),some (.int (many:Nat)),some (.ref ln),some (.ref D),some (.int (plN rows:Nat)),none,none,none,none]/\Same H1 H'/\names.Nodup/\((firstK 2 0 rows).isSome = true\/many<=plN rows)) ?_ (fun key=>?_)
 rotate_left
 ·refine ⟨_,rfl,ln,names,rfl,SqL.of (s1 _ _ hln),by omega,fun l4 n4 hl4=>?_⟩
  have s4:=same_new hl4 (setWO P w l4 (fun z=>decide (z ∈ names)) n4)
  refine ⟨l4,names,n4,rfl,upd_same,fun hn=>?_⟩
  refine ⟨_,rfl,ln,_,rfl,.inl (SqL.of ((s1.trans s4) _ _ hln)),_,_,rfl,rfl,_,rfl,?_⟩
  have hn':decide (((n4:Nat):Int) < ((names.map V.str).length:Nat)) = !decide names.Nodup:=by
   rw [List.length_map,<- hn]
   exact decide_eq_decide.mpr (by omega)
  by_cases nd:names.Nodup
  rotate_left
  ·refine iteB (by rw [hn',decide_eq_false nd]; rfl) ?_
   refine iteT ?_
   exact no _ (s1.trans s4) fun h=>nd (miss4.mp h).1
  refine iteC (by rw [hn',decide_eq_true nd]; rfl) ?_
  refine ⟨_,rfl,_,rfl,_,_,rfl,rfl,_,rfl,?_⟩
  by_cases hm:plN rows < many
  ·refine dT (by show ((plN rows:Nat):Int) < (many:Nat); omega) ?_
   refine ⟨_,rfl,D,_,rfl,.inl (SqL.of (s4 _ _ e1)),rfl,flW,_,rfl,?_⟩
   have e2:(if true = true then !inV (.str "tail") (rows.map fun r=>V.str (kw r.k)) else inV (.str "tail") (rows.map fun r=>V.str (kw r.k))) = !(firstK 2 0 rows).isSome:=by
    rw [if_pos rfl,eW,inStrs,show decide (Str.ofString "tail" ∈ rows.map fun r=>kw r.k) = hasK rows 2 from in_sorts (k:=2) (by decide) hok,bag_of]
   cases ht:(firstK 2 0 rows).isSome with
   | true=>
    refine iteC (by rw [e2,ht]; rfl) ?_
    exact key _ _ ⟨rfl,s4,nd,.inl ht⟩
   | false=>
    refine iteB (by rw [e2,ht]; rfl) ?_
    refine no _ (s1.trans s4) fun h=>?_
    rcases (miss4.mp h).2.1 with h | h
    ·rw [ht] at h; cases h
    ·omega
  ·refine dF (by show ¬ ((plN rows:Nat):Int) < (many:Nat); omega) ?_
   refine iteF ?_
   exact key _ _ ⟨rfl,s4,nd,.inr (by omega)⟩
 rintro σ H2 ⟨rfl,s2,nd,tl⟩
 have s02:=s1.trans s2
 refine pss_go (ps_set (i:=6) scLFits.nd rfl (Or.inl rfl) pe_dnewK) ?_
 intro sd hsd
 have s3:=same_new hsd (.dK [])
 have e3:upd H2 sd (.dK []) sd = some (.dK []):=upd_same
 have nsd:H sd = none:=s02.free hsd
 have s03:=s02.trans s3
 have e1:=(s2.trans s3) _ _ e1
 dsimp only [gName]
 generalize upd H2 sd (.dK []) = H3 at s3 e3 s03 e1 |-
 have hus3:∀ {p:Nat} {r:Rw} {H':Hp},rows[p]? = some r->Same H H'->∃ u,atI (us.map V.ref) (p:Int) = some (.ref u)/\SqT K H' u (rv r):=fun {p r H'} hp s=>by
  have hpu:p < us.length:=by rw [lu]; exact (List.getElem?_eq_some_iff.mp hp).1
  obtain ⟨r',hr',tr⟩:=paired_at hu (List.getElem?_eq_getElem hpu)
  rw [hp] at hr'
  cases hr'
  exact ⟨us[p],atI_nat (by rw [List.getElem?_map,List.getElem?_eq_getElem hpu]; rfl),SqT.of (s _ _ tr)⟩
 refine pss_go (ps_for PassesOwn.never rfl (pi_range1 rfl U.range (ac (cB call_len_seq U.len PySem.boot_len (ac (pv 0) pa_nil)) pa_nil)) (pg_name (i:=7) scLFits.nd rfl (Or.inl rfl)) pss_all) ?_
 refine ⟨_,rfl,la,_,rfl,.inl (SqL.of (s03 _ _ hla)),((rows.length:Nat):Int),(by rw [List.length_map,lu]),by omega,by omega,?_⟩
 rw [show ((rows.length:Nat):Int).toNat = rows.length from rfl]
 refine for_range (n:=rows.length) (fun i σ H'=>∃ v7,σ = [some (.ref la),some (.ref lb),some (.int (many:Nat)),some (.ref ln),some (.ref D),some (.int (plN rows:Nat)),some (.ref sd),v7,none,none]/\Same H H'/\H' D = some (.lst (rows.map fun r=>V.str (kw r.k)))/\H' sd = some (.dK (doorsF 0 [] (rows.take i)))) ⟨_,rfl,s03,e1,e3⟩ ?_ ?_
 ·rintro i σ H4 hi ⟨v7,rfl,s4,eD,eS⟩
  rw [Int.zero_add]
  dsimp only [gName]
  obtain ⟨r,hr'⟩:∃ r,rows[i]? = some r:=⟨_,List.getElem?_eq_getElem hi⟩
  have rok:=hok r (List.mem_of_getElem? hr')
  obtain ⟨u,au,tu⟩:=hus3 hr' s4
  have et:=doorsF_take rows 0 i [] hr'
  rw [Nat.zero_add] at et
  refine ⟨_,pss_one (ps_if (pt_cmpR op_in_seq (pe_ix ix_list (pv 4) (pv 7) (fun _ _=>rfl)) (pe_tup (ac pe_str (ac pe_str pa_nil))) (by with_unfolding_all rfl)) (pss_one (ps_dput hu1 (pv 6) (pe_ix ix_tup (pe_ix ix_list (pv 0) (pv 7) (fun _ _=>rfl)) pe_int (fun _ _=>rfl)) (pv 7) rfl)) pss_nil),?_⟩
  refine ⟨_,rfl,_,rfl,D,_,_,_,rfl,rfl,SqL.of eD,wAt hr',(by show 2<=sizeLine; decide),fun tt htt=>?_⟩
  have s5:=same_new htt (.tup [.str "both",.str "tag"])
  have g5:upd H4 tt (.tup [.str "both",.str "tag"]) tt = some (.tup [.str "both",.str "tag"]):=upd_same
  have s05:=s4.trans s5
  have eD5:=s5 _ _ eD
  have eS5:=s5 _ _ eS
  have tu5:=s5.sqT tu
  generalize upd H4 tt (.tup [.str "both",.str "tag"]) = H5 at s5 g5 s05 eD5 eS5 tu5 |-
  refine ⟨tt,_,rfl,.inr (SqT.of g5),rfl,rfl,_,rfl,?_⟩
  rw [if_neg Bool.false_ne_true,in_nm' rok.1]
  cases hb:byNm r.k with
  | false=>
   refine iteF ?_
   rw [hb,if_neg Bool.false_ne_true] at et
   exact ⟨_,rfl,s05,eD5,by rw [et]; exact eS5⟩
  | true=>
   refine iteT ?_
   rw [hb,if_pos rfl] at et
   refine ⟨_,rfl,_,rfl,_,rfl,_,rfl,la,_,_,_,rfl,rfl,SqL.of (s05 _ _ hla),au,u,_,1,_,rfl,rfl,tu5,row_at1 rok,sd,_,rfl,DPut.k (k:=.inr r.z) eS5 (small1000 (by have:=doors_len (rows.take i) 0 []; rw [List.length_take] at this; simp at this; omega)),?_⟩
   refine ⟨_,rfl,same_upd s05 nsd _,by rw [upd_ne (fun e=>by rw [e,eS5] at eD5; cases eD5)]; exact eD5,by rw [upd_same,et]⟩
 rintro σ H4 ⟨v7,rfl,s4,eD,eS⟩
 rw [List.take_length] at eS
 refine pss_go (ps_for PassesOwn.never rfl (pi_list (pv 3)) (pg_name (i:=8) scLFits.nd rfl (Or.inl rfl)) pss_all) ?_
 refine ⟨_,rfl,ln,rfl,⟨_,SqL.of (s4 _ _ hln)⟩,for_list (K:=K) (a:=ln) (xs:=names.map V.str) (fun i σ H'=>∃ v8,σ = [some (.ref la),some (.ref lb),some (.int (many:Nat)),some (.ref ln),some (.ref D),some (.int (plN rows:Nat)),some (.ref sd),v7,v8,none]/\Same H4 H'/\∀ z ∈ names.take i,unwW rows bars many z = none) ⟨_,rfl,Same.refl _,fun z hz=>by rw [List.take_zero] at hz; cases hz⟩ (fun i σ H' _ ⟨_,_,s,_⟩=>SqL.of ((s4.trans s) _ _ hln)) ?_ ?_⟩
 ·rintro i x σ H5 hx ⟨v8,rfl,s5,hz5⟩
  obtain ⟨z,hz,rfl⟩:=strs_at hx
  have hzn:=List.mem_of_getElem? hz
  have s05:=s4.trans s5
  have eD5:=s5 _ _ eD
  have eS5:=s5 _ _ eS
  have bad:¬ unwW rows bars many z = none->¬ missF rows bars many names = []:=fun h e=>h ((miss4.mp e).2.2.1 z hzn)
  dsimp only [gName]
  have eB:(if true = true then !inV (.str "bag") (rows.map fun r=>V.str (kw r.k)) else inV (.str "bag") (rows.map fun r=>V.str (kw r.k))) = !(firstK 4 0 rows).isSome:=by
   rw [if_pos rfl,eW,inStrs,show decide (Str.ofString "bag" ∈ rows.map fun r=>kw r.k) = hasK rows 4 from in_sorts (k:=4) (by decide) hok,bag_of]
  refine pss_go (ps_if (PW.pt (pw_or (pt_cmpR op_in_seq (pv 8) (pv 1) (by with_unfolding_all rfl)) (pw_or1 (PW.pt (pw_and (pt_cmp (pc_dnotin hu1 (pv 8) (pv 6))) (pw_and1 (pt_cmpR op_notIn_seq pe_str (pv 4) (by with_unfolding_all rfl)))))))) (pss_one (ps_ret pe_bl)) pss_nil) ?_
  refine ⟨_,rfl,_,rfl,lb,_,rfl,.inl (SqL.of (s05 _ _ hlb)),rfl,flatStrs,_,rfl,?_⟩
  by_cases hb:z ∈ bars
  ·refine iteB (by rw [if_neg Bool.false_ne_true,inStrs,decide_eq_true hb]) ?_
   refine iteT ?_
   exact no _ s05 (bad fun h=>((unw_law V1).mp h).1 hb)
  refine iteC (by rw [if_neg Bool.false_ne_true,inStrs,decide_eq_false hb]) ?_
  refine ⟨_,rfl,_,rfl,sd,_,rfl,DGet.k (k:=.inr z) eS5,_,rfl,?_⟩
  cases hv:valV (doorsF 0 [] rows) (.inr z) with
  | none=>
   refine iteT ?_
   refine ⟨_,rfl,D,_,rfl,.inl (SqL.of eD5),rfl,flW,_,rfl,?_⟩
   cases h4:(firstK 4 0 rows).isSome with
   | false=>
    refine iteB (by rw [eB,h4]; rfl) ?_
    refine no _ s05 (bad fun h=>?_)
    rcases ((unw_law V1).mp h).2 with ⟨_,h⟩ | ⟨l,r,h,_⟩
    ·rw [h4] at h; cases h
    ·rw [hv] at h; cases h
   | true=>
    refine iteC (by rw [eB,h4]; rfl) ?_
    have hgood:unwW rows bars many z = none:=(unw_law V1).mpr ⟨hb,.inl ⟨hv,h4⟩⟩
    refine ⟨_,pss_one (ps_if (PW.pt (pw_and (pt_cmp (pc_din hu1 (pv 8) (pv 6))) (pw_and (pt_cmpR op_eq (pe_ix ix_list (pv 4) (pe_dget hu1 (pv 6) (pv 8) (fun _ _=>rfl)) (fun _ _=>rfl)) pe_str (nomark _)) (pw_and1 (pt_cmpR op_lt (pe_dget hu1 (pv 6) (pv 8) (fun _ _=>rfl)) (pv 2) (nomark _)))))) (pss_one (ps_ret pe_bl)) pss_nil),?_⟩
    refine ⟨_,rfl,_,rfl,sd,_,rfl,DGet.k (k:=.inr z) eS5,_,rfl,?_⟩
    rw [hv]
    refine iteF ?_
    refine iteF ?_
    exact ⟨_,rfl,s5,fun y hy=>by
     rw [take_snocL hz] at hy
     rcases List.mem_append.mp hy with hy | hy
     ·exact hz5 y hy
     ·rw [List.mem_singleton.mp hy]; exact hgood⟩
  | some v=>
   refine iteF ?_
   have nd':(nms rows).Nodup:=(List.nodup_append.mp V1.nd).1
   have hk:z ∈ nms rows:=Classical.byContradiction fun c=>by
    rw [doors_no rows 0 [] c] at hv
    cases hv
   obtain ⟨l,r,hl,hbn,he⟩:=nms_at hk
   have hv2:=doors_at hbn rows 0 l [] hl nd'
   rw [he,Nat.zero_add,hv] at hv2
   have rok:=hok r (List.mem_of_getElem? hl)
   refine ⟨_,pss_one (ps_if (PW.pt (pw_and (pt_cmp (pc_din hu1 (pv 8) (pv 6))) (pw_and (pt_cmpR op_eq (pe_ix ix_list (pv 4) (pe_dget hu1 (pv 6) (pv 8) (fun _ _=>rfl)) (fun _ _=>rfl)) pe_str (nomark _)) (pw_and1 (pt_cmpR op_lt (pe_dget hu1 (pv 6) (pv 8) (fun _ _=>rfl)) (pv 2) (nomark _)))))) (pss_one (ps_ret pe_bl)) pss_nil),?_⟩
   have hv3:v = .int ((l:Nat):Int):=Option.some.inj hv2
   subst hv3
   have dg:DGet H5 sd (.str z) (some (.int (l:Nat))):=by
    have:=DGet.k (k:=.inr z) eS5
    rw [hv] at this
    exact this
   refine ⟨_,rfl,_,rfl,sd,_,rfl,dg,_,rfl,?_⟩
   refine iteT ?_
   refine ⟨_,rfl,_,rfl,_,rfl,sd,_,rfl,dg,D,_,_,_,rfl,rfl,SqL.of eD5,wAt hl,rfl,_,rfl,?_⟩
   have good:(¬ (r.k = 1/\l < many))->∀ y ∈ names.take (i + 1),unwW rows bars many y = none:=fun h y hy=>by
    rw [take_snocL hz] at hy
    rcases List.mem_append.mp hy with hy | hy
    ·exact hz5 y hy
    ·rw [List.mem_singleton.mp hy]; exact (unw_law V1).mpr ⟨hb,.inr ⟨l,r,hv,hl,hbn,h⟩⟩
   have ek:decide (V.str (kw r.k) = V.str "both") = decide (r.k = 1):=by
    have e:∀ k:Nat,k < 5->decide (V.str (kw k) = V.str "both") = decide (k = 1):=by decide +kernel
    exact e r.k rok.1
   by_cases h1:r.k = 1
   rotate_left
   ·refine iteC (by rw [ek,decide_eq_false h1]) ?_
    refine iteF ?_
    exact ⟨_,rfl,s5,good fun c=>h1 c.1⟩
   refine iteB (by rw [ek,decide_eq_true h1]) ?_
   refine ⟨_,rfl,_,rfl,sd,_,rfl,dg,_,rfl,_,_,rfl,rfl,_,rfl,?_⟩
   by_cases h2:l < many
   ·refine dT (by show ((l:Nat):Int) < (many:Nat); omega) ?_
    refine no _ s05 (bad fun h=>?_)
    rcases ((unw_law V1).mp h).2 with ⟨h,_⟩ | ⟨l',r',h,h',_,h''⟩
    ·rw [hv] at h; cases h
    ·rw [hv] at h
     have:l = l':=by have:=V.int.inj (Option.some.inj h); omega
     subst this
     rw [hl] at h'
     cases h'
     exact h'' ⟨h1,h2⟩
   ·refine dF (by show ¬ ((l:Nat):Int) < (many:Nat); omega) ?_
    exact ⟨_,rfl,s5,good fun c=>h2 c.2⟩
 rintro σ H5 ⟨v8,rfl,s5,hz5⟩
 rw [List.length_map,List.take_length] at hz5
 have s05:=s4.trans s5
 have eD5:=s5 _ _ eD
 refine pss_go (ps_for PassesOwn.never rfl (pi_range1 rfl U.range (ac (cB call_len_seq U.len PySem.boot_len (ac (pv 0) pa_nil)) pa_nil)) (pg_name (i:=7) scLFits.nd rfl (Or.inl rfl)) pss_all) ?_
 refine ⟨_,rfl,la,_,rfl,.inl (SqL.of (s05 _ _ hla)),((rows.length:Nat):Int),(by rw [List.length_map,lu]),by omega,by omega,?_⟩
 rw [show ((rows.length:Nat):Int).toNat = rows.length from rfl]
 refine for_range (n:=rows.length) (fun i σ H'=>∃ v7 v9,σ = [some (.ref la),some (.ref lb),some (.int (many:Nat)),some (.ref ln),some (.ref D),some (.int (plN rows:Nat)),some (.ref sd),v7,v8,v9]/\Same H5 H'/\∀ j r,j < i->rows[j]? = some r->(needR names r && !(byPl r.k && decide (j < many))) = false) ⟨_,_,rfl,Same.refl _,fun j r hj=>absurd hj (Nat.not_lt_zero _)⟩ ?_ ?_
 ·rintro i σ H6 hi ⟨v7',v9,rfl,s6,hz6⟩
  rw [Int.zero_add]
  dsimp only [gName]
  obtain ⟨r,hr'⟩:∃ r,rows[i]? = some r:=⟨_,List.getElem?_eq_getElem hi⟩
  have rok:=hok r (List.mem_of_getElem? hr')
  have s06:=s05.trans s6
  obtain ⟨u,au,tu⟩:=hus3 hr' s06
  have eD6:=s6 _ _ eD5
  have ll:=lack_law (names:=names) (i:=i) (many:=many) rok.1
  have bad:(needR names r && !(byPl r.k && decide (i < many))) = true->¬ missF rows bars many names = []:=fun h e=>by
   have:=(miss4.mp e).2.2.2 i r hr'
   rw [h] at this
   cases this
  have good:∀ (H':Hp) (v9:Option V),Same H5 H'->(needR names r && !(byPl r.k && decide (i < many))) = false->∃ v7 v9',([some (.ref la),some (.ref lb),some (.int (many:Nat)),some (.ref ln),some (.ref D),some (.int (plN rows:Nat)),some (.ref sd),some (.int (i:Nat)),v8,v9]:List (Option V)) = [some (.ref la),some (.ref lb),some (.int (many:Nat)),some (.ref ln),some (.ref D),some (.int (plN rows:Nat)),some (.ref sd),v7,v8,v9']/\Same H5 H'/\∀ j r,j < i + 1->rows[j]? = some r->(needR names r && !(byPl r.k && decide (j < many))) = false:=fun H' v9 s h=>⟨_,_,rfl,s,fun j r2 hj hr2=>by
   rcases Nat.lt_or_ge j i with c | c
   ·exact hz6 j r2 c hr2
   ·have:j = i:=by omega
    subst this
    rw [hr'] at hr2
    cases hr2
    exact h⟩
  refine ⟨_,pss_one (ps_if (PW.pt (pw_and (pt_cmpR op_notIn_seq (pe_ix ix_list (pv 4) (pv 7) (fun _ _=>rfl)) (pe_tup (ac pe_str (ac pe_str pa_nil))) (by with_unfolding_all rfl)) (pw_and1 (pt_not (pt_val (pe_ix ix_tup (pe_ix ix_list (pv 0) (pv 7) (fun _ _=>rfl)) pe_int (fun _ _=>rfl))))))) (pss_cons (ps_set (i:=9) scLFits.nd rfl (Or.inl rfl) (pe_and (pe_cmpR op_ne (pe_ix ix_list (pv 4) (pv 7) (fun _ _=>rfl)) pe_str (nomark _)) (pe_one (pe_cmpR op_lt (pv 7) (pv 2) (nomark _))))) (pss_one (ps_if (PW.pt (pw_and (pt_not (pt_val (pv 9))) (pw_and1 (PW.pt (pw_or (pt_cmpR op_eq (pe_ix ix_list (pv 4) (pv 7) (fun _ _=>rfl)) pe_str (nomark _)) (pw_or1 (pt_cmpR op_notIn_seq (pe_ix ix_tup (pe_ix ix_list (pv 0) (pv 7) (fun _ _=>rfl)) pe_int (fun _ _=>rfl)) (pv 3) (by with_unfolding_all rfl)))))))) (pss_one (ps_ret pe_bl)) pss_nil))) pss_nil),?_⟩
  refine ⟨_,rfl,_,rfl,D,_,_,_,rfl,rfl,SqL.of eD6,wAt hr',(by show 2<=sizeLine; decide),fun tt htt=>?_⟩
  have s7:=same_new htt (.tup [.str "tail",.str "bag"])
  have g7:upd H6 tt (.tup [.str "tail",.str "bag"]) tt = some (.tup [.str "tail",.str "bag"]):=upd_same
  have s07:=s06.trans s7
  have s57:=s6.trans s7
  have eD7:=s7 _ _ eD6
  have tu7:=s7.sqT tu
  generalize upd H6 tt (.tup [.str "tail",.str "bag"]) = H7 at s7 g7 s07 s57 eD7 tu7 |-
  refine ⟨tt,_,rfl,.inr (SqT.of g7),rfl,rfl,_,rfl,?_⟩
  have e1':(if true = true then !inV (.str (kw r.k)) [.str "tail",.str "bag"] else inV (.str (kw r.k)) [.str "tail",.str "bag"]) = !(decide (r.k = 2) || decide (r.k = 4)):=by
   have e:∀ k:Nat,k < 5->(!inV (.str (kw k)) [.str "tail",.str "bag"]) = !(decide (k = 2) || decide (k = 4)):=by decide +kernel
   rw [if_pos rfl]
   exact e r.k rok.1
  rw [e1']
  clear e1'
  by_cases hk:(decide (r.k = 2) || decide (r.k = 4)) = true
  ·refine iteC (by rw [hk]; rfl) ?_
   refine iteF ?_
   exact good _ _ s57 (by rw [ll,hk]; rfl)
  have hk':(decide (r.k = 2) || decide (r.k = 4)) = false:=by simpa using hk
  have hk3:r.k = 0\/r.k = 1\/r.k = 3:=by
   have:=rok.1
   simp only [Bool.or_eq_false_iff,decide_eq_false_iff_not] at hk'
   omega
  rw [hk'] at ll
  refine iteB (by rw [hk']; rfl) ?_
  refine ⟨_,rfl,_,rfl,la,_,_,_,rfl,rfl,SqL.of (s07 _ _ hla),au,u,_,2,_,rfl,rfl,tu7,row_at2 hk3,_,rfl,?_⟩
  cases hb:r.b with
  | true=>
   refine iteF ?_
   exact good _ _ s57 (by rw [ll,hb]; rfl)
  | false=>
   rw [hb] at ll
   refine iteT ?_
   refine ⟨_,rfl,_,rfl,D,_,_,_,rfl,rfl,SqL.of eD7,wAt hr',rfl,_,rfl,?_⟩
   have ek3:(!decide (V.str (kw r.k) = V.str "tag")) = !decide (r.k = 3):=by
    have e:∀ k:Nat,k < 5->decide (V.str (kw k) = V.str "tag") = decide (k = 3):=by decide +kernel
    rw [e r.k rok.1]
   have ek0:decide (V.str (kw r.k) = V.str "seat") = decide (r.k = 0):=by
    have e:∀ k:Nat,k < 5->decide (V.str (kw k) = V.str "seat") = decide (k = 0):=by decide +kernel
    exact e r.k rok.1
   by_cases h3:r.k = 3
   ·refine iteC (by rw [ek3,decide_eq_true h3]; rfl) ?_
    have hbp:(!decide (r.k = 3) && decide (i < many)) = false:=by rw [decide_eq_true h3]; rfl
    dsimp only [gName]
    refine ⟨_,rfl,_,rfl,?_⟩
    refine iteT ?_
    refine ⟨_,rfl,_,rfl,D,_,_,_,rfl,rfl,SqL.of eD7,wAt hr',rfl,_,rfl,?_⟩
    by_cases h0:r.k = 0
    ·refine iteB (by rw [ek0,decide_eq_true h0]) ?_
     refine iteT ?_
     exact no _ s07 (bad (by rw [ll,hbp,decide_eq_true h0]; rfl))
    ·refine iteC (by rw [ek0,decide_eq_false h0]) ?_
     refine ⟨_,rfl,_,rfl,la,_,_,_,rfl,rfl,SqL.of (s07 _ _ hla),au,u,_,1,_,rfl,rfl,tu7,row_at1 rok,_,rfl,ln,_,rfl,.inl (SqL.of (s07 _ _ hln)),rfl,flatStrs,_,rfl,?_⟩
     by_cases hn:r.z ∈ names
     ·refine iteC (by rw [if_pos rfl,inStrs,decide_eq_true hn]; rfl) ?_
      exact good _ _ s57 (by rw [ll,hbp,decide_eq_false h0,decide_eq_true hn]; rfl)
     ·refine iteB (by rw [if_pos rfl,inStrs,decide_eq_false hn]; rfl) ?_
      exact no _ s07 (bad (by rw [ll,hbp,decide_eq_false h0,decide_eq_false hn]; rfl))
   refine iteB (by rw [ek3,decide_eq_false h3]; rfl) ?_
   refine ⟨_,rfl,_,rfl,_,_,rfl,rfl,?_⟩
   by_cases hm:i < many
   ·rw [show decide (((i:Nat):Int) < ((many:Nat):Int)) = true from decide_eq_true (by omega)]
    dsimp only [gName]
    refine ⟨_,rfl,_,rfl,?_⟩
    refine iteF ?_
    refine iteF ?_
    exact good _ _ s57 (by rw [ll,decide_eq_true hm,decide_eq_false h3]; rfl)
   ·rw [show decide (((i:Nat):Int) < ((many:Nat):Int)) = false from decide_eq_false (by omega)]
    have hbp:(!decide (r.k = 3) && decide (i < many)) = false:=by rw [decide_eq_false hm,Bool.and_false]
    dsimp only [gName]
    refine ⟨_,rfl,_,rfl,?_⟩
    refine iteT ?_
    refine ⟨_,rfl,_,rfl,D,_,_,_,rfl,rfl,SqL.of eD7,wAt hr',rfl,_,rfl,?_⟩
    by_cases h0:r.k = 0
    ·refine iteB (by rw [ek0,decide_eq_true h0]) ?_
     refine iteT ?_
     exact no _ s07 (bad (by rw [ll,hbp,decide_eq_true h0]; rfl))
    ·refine iteC (by rw [ek0,decide_eq_false h0]) ?_
     refine ⟨_,rfl,_,rfl,la,_,_,_,rfl,rfl,SqL.of (s07 _ _ hla),au,u,_,1,_,rfl,rfl,tu7,row_at1 rok,_,rfl,ln,_,rfl,.inl (SqL.of (s07 _ _ hln)),rfl,flatStrs,_,rfl,?_⟩
     by_cases hn:r.z ∈ names
     ·refine iteC (by rw [if_pos rfl,inStrs,decide_eq_true hn]; rfl) ?_
      exact good _ _ s57 (by rw [ll,hbp,decide_eq_false h0,decide_eq_true hn]; rfl)
     ·refine iteB (by rw [if_pos rfl,inStrs,decide_eq_false hn]; rfl) ?_
      exact no _ s07 (bad (by rw [ll,hbp,decide_eq_false h0,decide_eq_false hn]; rfl))
 ·rintro σ H6 ⟨v7',v9,rfl,s6,hz6⟩
  refine ⟨_,pss_one (ps_ret pe_bl),?_⟩
  have:=q H6 (s05.trans s6)
  rw [decide_eq_true (miss4.mpr ⟨nd,tl,hz5,fun i r hr'=>hz6 i r (List.getElem?_eq_some_iff.mp hr').1 hr'⟩)] at this
  exact this
end
theorem cut_takeN {xs:List V} {n:Nat}:cutV xs none (some (n:Int)) = xs.take n:=by
 unfold cutV
 rw [HT.sIx_nat,HT.sIx_none,List.drop_zero,Nat.sub_zero]
 by_cases h:n<=xs.length
 ·rw [Nat.min_eq_left h]
 ·rw [Nat.min_eq_right (by omega),List.take_of_length_le (Nat.le_refl _),List.take_of_length_le (by omega)]
theorem cut_dropN {xs:List V} {n:Nat}:cutV xs (some (n:Int)) none = xs.drop n:=by
 unfold cutV
 rw [HT.sIx_nat,HT.sIx_none]
 by_cases h:n<=xs.length
 ·rw [Nat.min_eq_left h]
  exact List.take_of_length_le (by rw [List.length_drop]; exact Nat.le_refl _)
 ·rw [Nat.min_eq_right (by omega),List.drop_of_length_le (Nat.le_refl _),List.drop_of_length_le (by omega)]
  simp
def spTurn (K:PySem.W.Frag):Sp:=fun vs H Q _=>∃ (many:Nat) (ln t:Addr) (names c:List Str),vs = [.int (many:Nat),.ref ln,.ref t]/\H ln = some (.lst (names.map V.str))/\SqT K H t (c.map V.str)/\names.length<=800/\
 ((c = cLess/\∀ (u:Addr) (H':Hp),Same H H'->H' u = some (.tup [.int (((many:Nat):Int) - 1),.ref ln])->Q (.ref u) H')\/
  (c = cMore/\∀ (u:Addr) (H':Hp),Same H H'->H' u = some (.tup [.int (((many:Nat):Int) + 1),.ref ln])->Q (.ref u) H')\/
  (∃ z,c = cIn z/\∀ (u l:Addr) (H':Hp),Same H H'->H l = none->H' l = some (.lst ((names ++ [z]).map V.str))->H' u = some (.tup [.int (many:Nat),.ref l])->Q (.ref u) H')\/
  (∃ z,c = cOut z/\z ∈ names/\∀ (u l:Addr) (i:Nat) (H':Hp),Same H H'->H l = none->names[i]? = some z->H' l = some (.lst ((names.eraseIdx i).map V.str))->H' u = some (.tup [.int (many:Nat),.ref l])->Q (.ref u) H'))
structure TxtU (mg:Str->Option Value):Prop where
 len:mg "len" = none
 max:mg "max" = none
 range:mg "range" = none
section
variable {P:Program} {w:World} {K:PySem.W.Frag} {mg:Str->Option Value} {base:Heap} {f CF:Addr} {fd:FuncData} {c:C5} {m:MA}
theorem ndJNC:([Str.ofString "_law_j",Str.ofString "_law_names",Str.ofString "_law_change"]:List Str).Nodup:=by decide +kernel
theorem scTurn:FnScope ["_law_many","_law_names","_law_change","_law_at"] ["_law_many","_law_names","_law_change"] (defScope sTurned):=⟨rfl,rfl,rfl,by decide +kernel,rfl,by decide +kernel,by decide +kernel⟩
theorem ok_turn (F:Fun K "_law_turned" "_law_turned" sTurned f fd) (U:TxtU mg):FnOk P w K mg base CX0 1 f fd ["_law_many","_law_names","_law_change"] (spTurn K):=by
 refine F.ok scTurn (fun vs H Q E h=>?_) (fun cdv A outer s H vs Q E hr h=>?_)
 ·obtain ⟨many,ln,t,names,c,rfl,_⟩:=h
  rfl
 obtain ⟨many,ln,t,names,c,rfl,hln,ht,n8,q⟩:=h
 refine pss_go (ps_if (pt_cmpR op_eq (pe_ix ix_tup (pv 2) pe_int (fun _ _=>rfl)) pe_str (nomark _)) (pss_one (ps_ret (pe_tup (ac (pe_op op_sub (pv 0) pe_int) (ac (pv 1) pa_nil))))) pss_nil) ?_
 rcases q with ⟨rfl,q⟩ | ⟨rfl,q⟩ | ⟨z,rfl,q⟩ | ⟨z,rfl,hz,q⟩
 ·refine ⟨_,rfl,t,_,0,.str "less",rfl,rfl,ht,rfl,rfl,_,rfl,?_⟩
  refine iteB (by decide +kernel) ?_
  refine ⟨_,rfl,_,_,rfl,rfl,_,rfl,(by show 2<=sizeLine; decide),fun u hu=>?_⟩
  exact q u _ (same_new hu _) upd_same
 ·refine ⟨_,rfl,t,_,0,.str "more",rfl,rfl,ht,rfl,rfl,_,rfl,?_⟩
  refine iteC (by decide +kernel) ?_
  refine pss_go (ps_if (pt_cmpR op_eq (pe_ix ix_tup (pv 2) pe_int (fun _ _=>rfl)) pe_str (nomark _)) (pss_one (ps_ret (pe_tup (ac (pe_op op_add (pv 0) pe_int) (ac (pv 1) pa_nil))))) pss_nil) ?_
  refine ⟨_,rfl,t,_,0,.str "more",rfl,rfl,ht,rfl,rfl,_,rfl,?_⟩
  refine iteB (by decide +kernel) ?_
  refine ⟨_,rfl,_,_,rfl,rfl,_,rfl,(by show 2<=sizeLine; decide),fun u hu=>?_⟩
  exact q u _ (same_new hu _) upd_same
 ·refine ⟨_,rfl,t,_,0,.str "in",rfl,rfl,ht,rfl,rfl,_,rfl,?_⟩
  refine iteC (by decide +kernel) ?_
  refine pss_go (ps_if (pt_cmpR op_eq (pe_ix ix_tup (pv 2) pe_int (fun _ _=>rfl)) pe_str (nomark _)) (pss_one (ps_ret (pe_tup (ac (pe_op op_add (pv 0) pe_int) (ac (pv 1) pa_nil))))) pss_nil) ?_
  refine ⟨_,rfl,t,_,0,.str "in",rfl,rfl,ht,rfl,rfl,_,rfl,?_⟩
  refine iteC (by decide +kernel) ?_
  refine pss_go (ps_if (pt_cmpR op_eq (pe_ix ix_tup (pv 2) pe_int (fun _ _=>rfl)) pe_str (nomark _)) (pss_one (ps_ret (pe_tup (ac (pv 0) (ac (pe_op op_cat (pv 1) (pe_lst (ac (pe_ix ix_tup (pv 2) pe_int (fun _ _=>rfl)) pa_nil))) pa_nil))))) pss_nil) ?_
  refine ⟨_,rfl,t,_,0,.str "in",rfl,rfl,ht,rfl,rfl,_,rfl,?_⟩
  refine iteB (by decide +kernel) ?_
  refine ⟨_,rfl,_,rfl,_,rfl,t,_,1,.str z,rfl,rfl,ht,rfl,(by show 1<=sizeLine; decide),fun l1 hl1=>?_⟩
  have s1:=same_new hl1 (.lst [.str z])
  refine ⟨ln,l1,_,_,rfl,rfl,s1 _ _ hln,upd_same,(by rw [List.length_map]; exact le1000 (by show names.length + 1<=1000; omega)),fun l hl=>?_⟩
  have s2:=same_new hl (.lst (names.map V.str ++ [.str z]))
  refine ⟨(by show 2<=sizeLine; decide),fun u hu=>?_⟩
  have s3:=same_new hu (.tup [.int (many:Nat),.ref l])
  exact q u l _ (s1.trans (s2.trans s3)) (s1.free hl) (by rw [List.map_append]; exact s3 _ _ upd_same) upd_same
 ·refine ⟨_,rfl,t,_,0,.str "out",rfl,rfl,ht,rfl,rfl,_,rfl,?_⟩
  refine iteC (by decide +kernel) ?_
  refine pss_go (ps_if (pt_cmpR op_eq (pe_ix ix_tup (pv 2) pe_int (fun _ _=>rfl)) pe_str (nomark _)) (pss_one (ps_ret (pe_tup (ac (pe_op op_add (pv 0) pe_int) (ac (pv 1) pa_nil))))) pss_nil) ?_
  refine ⟨_,rfl,t,_,0,.str "out",rfl,rfl,ht,rfl,rfl,_,rfl,?_⟩
  refine iteC (by decide +kernel) ?_
  refine pss_go (ps_if (pt_cmpR op_eq (pe_ix ix_tup (pv 2) pe_int (fun _ _=>rfl)) pe_str (nomark _)) (pss_one (ps_ret (pe_tup (ac (pv 0) (ac (pe_op op_cat (pv 1) (pe_lst (ac (pe_ix ix_tup (pv 2) pe_int (fun _ _=>rfl)) pa_nil))) pa_nil))))) pss_nil) ?_
  refine ⟨_,rfl,t,_,0,.str "out",rfl,rfl,ht,rfl,rfl,_,rfl,?_⟩
  refine iteC (by decide +kernel) ?_
  refine pss_go (ps_if (pt_cmpR op_notIn_seq (pe_ix ix_tup (pv 2) pe_int (fun _ _=>rfl)) (pv 1) (by with_unfolding_all rfl)) (pss_one (ps_ret (pe_tup (ac (pe_un un_neg pe_int) (ac (pv 1) pa_nil))))) pss_nil) ?_
  refine ⟨_,rfl,t,_,1,.str z,rfl,rfl,ht,rfl,_,rfl,ln,_,rfl,.inl (SqL.of hln),rfl,flatStrs,_,rfl,?_⟩
  refine iteC (by rw [if_pos rfl,inStrs,decide_eq_true hz]; rfl) ?_
  refine pss_go (ps_set (i:=3) scTurn.nd rfl (Or.inl rfl) (cB (call_maxL rfl) U.max boot_max (ac (pe_lc ["_law_names","_law_change"] ["_law_j","_law_names","_law_change"] [none,some 1,some 2] rfl ⟨rfl,rfl,rfl,rfl⟩ (pi_range1 rfl U.range (ac (cB call_len_seq U.len PySem.boot_len (ac (pv 1) pa_nil)) pa_nil)) (gown_name 0) rfl rfl rfl
   (fun pins fp s H C=>⟨pg_name (i:=0) ndJNC rfl (Or.inl rfl) (.inr rfl),pif_one (pt_cmpR op_eq (pe_ix (r:=rIxL K) ix_list (pv 1) (pv 0) (fun _ _=>rfl)) (pe_ix (r:=rIxT K) ix_tup (pv 2) pe_int (fun _ _=>rfl)) (nomark _)),pv 0⟩)) pa_nil))) ?_
  refine ⟨_,rfl,ln,_,rfl,.inl (SqL.of hln),((names.length:Nat):Int),(by rw [List.length_map]),by omega,by omega,fun D hD=>?_⟩
  rw [show ((names.length:Nat):Int).toNat = names.length from rfl]
  refine lc_selr (n:=names.length) (fun i=>decide (names.getD i "" = z)) (fun i=>.int (i:Nat)) hD (by omega) (fun i H' N S hi sH n1 s1=>?_) (fun H1 s1 e1=>?_)
  ·rw [Int.zero_add]
   refine ⟨_,rfl,_,rfl,ln,_,_,.str (names.getD i ""),rfl,rfl,SqL.of (sH _ _ hln),atI_nat (by rw [List.getElem?_map,List.getElem?_eq_getElem hi,List.getD_eq_getElem?_getD,List.getElem?_eq_getElem hi]; rfl),_,rfl,t,_,1,.str z,rfl,rfl,sH.sqT ht,rfl,rfl,_,rfl,?_⟩
   have e:decide (V.str (names.getD i "") = V.str z) = decide (names.getD i "" = z):=decide_eq_decide.mpr ⟨fun h=>V.str.inj h,fun h=>by rw [h]⟩
   rw [e]
   exact ⟨fun e=>⟨_,rfl,n1 _ (Same.refl _) e⟩,fun e=>s1 _ (Same.refl _) e⟩
  have e1:H1 D = some (.lst ((((List.range names.length).filter fun i=>decide (names.getD i "" = z)).map fun (i:Nat)=>(i:Int)).map V.int)):=by rw [e1,List.map_map]; rfl
  obtain ⟨j,hj,ej⟩:=List.mem_iff_getElem.mp hz
  have hne:((List.range names.length).filter fun i=>decide (names.getD i "" = z)).map (fun (i:Nat)=>(i:Int)) ≠ []:=fun c=>by
   have hm:(j:Int) ∈ ((List.range names.length).filter fun i=>decide (names.getD i "" = z)).map (fun (i:Nat)=>(i:Int)):=List.mem_map.mpr ⟨j,List.mem_filter.mpr ⟨List.mem_range.mpr hj,decide_eq_true (by rw [List.getD_eq_getElem?_getD,List.getElem?_eq_getElem hj]; exact ej)⟩,rfl⟩
   rw [c] at hm
   cases hm
  refine ⟨D,_,rfl,SqL.of e1,hne,fun mm hm=>?_⟩
  obtain ⟨i,hi,rfl⟩:=List.mem_map.mp hm
  obtain ⟨hi1,hi2⟩:=List.mem_filter.mp hi
  have hil:=List.mem_range.mp hi1
  have ei:names[i]? = some z:=by
   have:=of_decide_eq_true hi2
   rw [List.getD_eq_getElem?_getD,List.getElem?_eq_getElem hil] at this
   rw [List.getElem?_eq_getElem hil]
   exact congrArg some this
  dsimp only [gName]
  refine ⟨_,pss_one (ps_ret (pe_tup (ac (pv 0) (ac (pe_op op_cat (pe_slice sl_list (pv 1) po_none (po_some (pv 3))) (pe_slice sl_list (pv 1) (po_some (pe_op op_add (pv 3) pe_int)) po_none)) pa_nil)))),?_⟩
  have hln1:=s1 _ _ hln
  refine ⟨_,rfl,_,rfl,_,rfl,_,rfl,ln,_,rfl,SqL.of hln1,fun l2 hl2=>?_⟩
  rw [show cutV (names.map V.str) none (some (i:Int)) = (names.take i).map V.str from (cut_takeN (n:=i)).trans (List.map_take ..).symm]
  have s2:=same_new hl2 (.lst ((names.take i).map V.str))
  refine ⟨_,rfl,_,rfl,_,_,rfl,rfl,_,rfl,ln,_,rfl,SqL.of (s2 _ _ hln1),fun l3 hl3=>?_⟩
  rw [show cutV (names.map V.str) (some ((i:Int) + 1)) none = (names.drop (i + 1)).map V.str from (cut_dropN (n:=i + 1)).trans (List.map_drop ..).symm]
  have s3:=same_new hl3 (.lst ((names.drop (i + 1)).map V.str))
  refine ⟨l2,l3,_,_,rfl,rfl,s3 _ _ upd_same,upd_same,(by rw [List.length_map,List.length_map,List.length_take,List.length_drop]; exact le1000 (by omega)),fun l4 hl4=>?_⟩
  have s4:=same_new hl4 (.lst ((names.take i).map V.str ++ (names.drop (i + 1)).map V.str))
  refine ⟨(by show 2<=sizeLine; decide),fun u hu=>?_⟩
  have s5:=same_new hu (.tup [.int (many:Nat),.ref l4])
  exact q u l4 i _ (s1.trans (s2.trans (s3.trans (s4.trans s5)))) ((s1.trans (s2.trans s3)).free hl4) ei (by rw [List.eraseIdx_eq_take_drop_succ,List.map_append]; exact s5 _ _ upd_same) upd_same
end
def spNthD (K:PySem.W.Frag):Sp:=fun vs H Q _=>∃ (a:Addr) (ns:List Int) (k:Nat),vs = [.ref a,.int k]/\SqL K H a (ns.map V.int)/\Q (.int (ns.getD k 0)) H
def rIsi (K:PySem.W.Frag):List V->Hp->VK->Prop:=fun xs H Q=>∃ (x:V) (T:String) (t:Value) (b:Bool),xs = [x,.ty T]/\TyOf K H x t/\PySem.W.kitOne K t (.type T) = some b/\Q (.bl b) H
def isCh (c:List Str):Prop:=c = cLess\/c = cMore\/(∃ z,c = cIn z)\/∃ z,c = cOut z
def spIsCh (K:PySem.W.Frag):Sp:=fun vs H Q _=>∃ (t:Addr) (c:List Str),vs = [.ref t]/\SqT K H t (c.map V.str)/\isCh c/\∀ H',Same H H'->Q (.bl true) H'
structure TxtC (mg:Str->Option Value):Prop where
 isi:mg "isinstance" = none
 tuple:mg "tuple" = none
 str:mg "str" = none
 all:mg "all" = none
 len:mg "len" = none
section
variable {P:Program} {w:World} {K:PySem.W.Frag} {mg:Str->Option Value} {base:Heap} {f CF:Addr} {fd:FuncData} {c:C5} {m:MA}
theorem ok_nthD (F:Fun K "_law_nth" "_law_nth" sNth f fd) (T:TxtL mg):FnOk P w K mg base CX0 1 f fd ["_law_script","_law_k"] (spNthD K):=by
 refine F.ok scNth (fun vs H Q E h=>?_) (fun cdv A outer s H vs Q E hr h=>?_)
 ·obtain ⟨a,ns,k,rfl,_⟩:=h
  rfl
 obtain ⟨a,ns,k,rfl,hS,q⟩:=h
 refine ⟨_,pss_one (ps_ret (pe_ifExp (pt_cmpR op_lt (pv 1) (cB call_len_seq T.len PySem.boot_len (ac (pv 0) pa_nil)) (nomark _)) (pe_ix ix_list (pv 0) (pv 1) (fun _ _=>rfl)) pe_int)),?_⟩
 refine ⟨_,rfl,_,rfl,a,_,rfl,.inl hS,_,_,rfl,rfl,_,rfl,?_⟩
 rw [List.length_map]
 refine ite2 (fun c=>?_) (fun c=>?_)
 ·have c':(k:Int) < (ns.length:Int):=of_decide_eq_true c
  have hk:k < ns.length:=by omega
  rw [List.getD_eq_getElem?_getD,List.getElem?_eq_getElem hk] at q
  refine ⟨_,rfl,_,rfl,a,_,(k:Int),.int ns[k],rfl,rfl,hS,atI_nat (by rw [List.getElem?_map,List.getElem?_eq_getElem hk]; rfl),q⟩
 ·have c':¬ (k:Int) < (ns.length:Int):=fun h=>c (decide_eq_true h)
  rw [List.getD_eq_getElem?_getD,List.getElem?_eq_none (by omega)] at q
  exact q
theorem scIsCh:FnScope ["_law_change"] ["_law_change"] (defScope sIsCh):=⟨rfl,rfl,rfl,by decide +kernel,rfl,by decide +kernel,by decide +kernel⟩
theorem ok_isch (F:Fun K "_law_is_change" "_law_is_change" sIsCh f fd) (U:TxtC mg):FnOk P w K mg base CX0 1 f fd ["_law_change"] (spIsCh K):=by
 refine F.ok scIsCh (fun vs H Q E h=>?_) (fun cdv A outer s H vs Q E hr h=>?_)
 ·obtain ⟨t,c,rfl,_⟩:=h
  rfl
 obtain ⟨t,c,rfl,ht,hc,q⟩:=h
 have lc2:c.length<=2:=by
  rcases hc with rfl | rfl | ⟨z,rfl⟩ | ⟨z,rfl⟩ <;> simp
 refine pss_go (ps_if (PW.pt (pw_or (pt_not (pt_val (cB call_isinstT U.isi boot_isinstance (ac (pv 0) (ac (pe_bltn (v:=.ty "tuple") rfl U.tuple PyProof.Rows.boot_tuple rfl) pa_nil))))) (pw_or1 (pt_not (pt_val (cB (call_allB rfl) U.all boot_all (ac (pe_lc [] ["_law_one"] [none] rfl ⟨rfl,rfl,rfl,rfl⟩ (pi_tup (pv 0)) (gown_name 0) rfl rfl rfl
  (fun pins fp s H C=>⟨pg_name (i:=0) ndOneL rfl (Or.inl rfl) (.inr rfl),pif_nil,cB (r:=rIsi K) call_isinst U.isi boot_isinstance (ac (pv 0) (ac (pe_bltn (v:=.ty "str") rfl U.str PyProof.Rows.boot_str rfl) pa_nil))⟩)) pa_nil))))))) (pss_one (ps_ret pe_bl)) pss_nil) ?_
 refine seq_via (fun σ' H'=>σ' = [some (.ref t)]/\Same H H') ?_ (fun key=>?_)
 rotate_left
 ·refine ⟨_,rfl,t,_,_,_,rfl,ht,kt_tuple_tuple K,_,rfl,?_⟩
  refine iteF ?_
  refine ⟨_,rfl,t,rfl,⟨_,ht⟩,fun D hD=>?_⟩
  refine lc_tupl (K:=K) (xs:=c.map V.str) (fun i zs H'=>Same H H'/\H' D = some (.lst zs)/\zs = List.replicate i (.bl true)) ⟨same_new hD _,upd_same,rfl⟩ (fun i zs H' h=>h.1.sqT ht) ?_ ?_
  ·rintro i x zs H' hi hx ⟨sH,hDy,ez⟩
   obtain ⟨z,hz,rfl⟩:=strs_at hx
   refine ⟨fun _=>?_,fun e=>by cases e⟩
   refine ⟨_,rfl,_,_,_,_,rfl,.str z,kt_str_str K,?_⟩
   refine lcN.mk hi (by rw [List.length_map]; exact le1000 (by omega)) hDy (by rw [ez,List.length_replicate]; exact Nat.le_refl _) ⟨same_upd sH hD _,upd_same,?_⟩
   rw [ez,<- List.replicate_succ']
  ·rintro zs H' ⟨sH,hDy,ez⟩
   have e:H' D = some (.lst ((List.replicate (c.map V.str).length true).map V.bl)):=by rw [hDy,ez,List.map_replicate]
   refine ⟨D,_,rfl,SqL.of e,_,rfl,?_⟩
   rw [show (List.replicate (c.map V.str).length true).all id = true from by simp]
   refine iteF ?_
   exact key _ _ ⟨rfl,sH⟩
 rintro σ H1 ⟨rfl,s1⟩
 have ht1:=s1.sqT ht
 refine pss_go (ps_if (pt_cmpR op_eq (cB call_len_seq U.len PySem.boot_len (ac (pv 0) pa_nil)) pe_int (nomark _)) (pss_one (ps_ret (pe_cmpR op_in_seq (pe_ix ix_tup (pv 0) pe_int (fun _ _=>rfl)) (pe_tup (ac pe_str (ac pe_str pa_nil))) (by with_unfolding_all rfl)))) pss_nil) ?_
 refine ⟨_,rfl,t,_,rfl,.inr ht1,rfl,_,rfl,?_⟩
 rcases hc with rfl | rfl | ⟨z,rfl⟩ | ⟨z,rfl⟩
 ·refine iteB rfl ?_
  refine ⟨_,rfl,t,_,0,.str "less",rfl,rfl,ht1,rfl,(by show 2<=sizeLine; decide),fun tt htt=>?_⟩
  have s2:=same_new htt (.tup [.str "less",.str "more"])
  refine ⟨tt,_,rfl,.inr (SqT.of upd_same),rfl,rfl,?_⟩
  exact q _ (s1.trans s2)
 ·refine iteB rfl ?_
  refine ⟨_,rfl,t,_,0,.str "more",rfl,rfl,ht1,rfl,(by show 2<=sizeLine; decide),fun tt htt=>?_⟩
  have s2:=same_new htt (.tup [.str "less",.str "more"])
  refine ⟨tt,_,rfl,.inr (SqT.of upd_same),rfl,rfl,?_⟩
  exact q _ (s1.trans s2)
 ·refine iteC rfl ?_
  refine ⟨_,pss_one (ps_ret (pe_and (pe_cmpR op_eq (cB call_len_seq U.len PySem.boot_len (ac (pv 0) pa_nil)) pe_int (nomark _)) (pe_one (pe_cmpR op_in_seq (pe_ix ix_tup (pv 0) pe_int (fun _ _=>rfl)) (pe_tup (ac pe_str (ac pe_str pa_nil))) (by with_unfolding_all rfl))))),?_⟩
  refine ⟨_,rfl,t,_,rfl,.inr ht1,rfl,_,rfl,?_⟩
  refine iteB rfl ?_
  refine ⟨_,rfl,t,_,0,.str "in",rfl,rfl,ht1,rfl,(by show 2<=sizeLine; decide),fun tt htt=>?_⟩
  have s2:=same_new htt (.tup [.str "out",.str "in"])
  refine ⟨tt,_,rfl,.inr (SqT.of upd_same),rfl,rfl,?_⟩
  exact q _ (s1.trans s2)
 ·refine iteC rfl ?_
  refine ⟨_,pss_one (ps_ret (pe_and (pe_cmpR op_eq (cB call_len_seq U.len PySem.boot_len (ac (pv 0) pa_nil)) pe_int (nomark _)) (pe_one (pe_cmpR op_in_seq (pe_ix ix_tup (pv 0) pe_int (fun _ _=>rfl)) (pe_tup (ac pe_str (ac pe_str pa_nil))) (by with_unfolding_all rfl))))),?_⟩
  refine ⟨_,rfl,t,_,rfl,.inr ht1,rfl,_,rfl,?_⟩
  refine iteB rfl ?_
  refine ⟨_,rfl,t,_,0,.str "out",rfl,rfl,ht1,rfl,(by show 2<=sizeLine; decide),fun tt htt=>?_⟩
  have s2:=same_new htt (.tup [.str "out",.str "in"])
  refine ⟨tt,_,rfl,.inr (SqT.of upd_same),rfl,rfl,?_⟩
  exact q _ (s1.trans s2)
end
def cutI (ns:List Int) (a b:Nat):List Int:=(ns.drop (min a ns.length)).take (min b ns.length - min a ns.length)
theorem cut_i (ns:List Int) (a b:Nat):cutV (ns.map V.int) (some (a:Int)) (some (b:Int)) = (cutI ns a b).map V.int/\(cutI ns a b).length<=b - a:=by
 unfold cutI
 refine ⟨?_,?_⟩
 ·unfold cutV
  rw [HT.sIx_nat,HT.sIx_nat,List.length_map,List.map_take,List.map_drop]
 ·rw [List.length_take,List.length_drop]
  omega
def rowH (n:Int):List Int:=(List.range 30).map fun (k:Nat)=>thingF (n / 8 + (k:Int) * (k:Int))
def handF (ns:List Int) (zs:List Str):List Item:=if V.int (ns.getD 2 0 % 8) = V.int 5 then ((cutI ns 23 37).map (itemF zs)).take 7 ++ [.row (rowH (ns.getD 2 0))] else (cutI ns 23 37).map (itemF zs)
theorem flat_le {α : Type} {b:Nat}:∀ (l:List (List α)),(∀ x ∈ l,x.length<=b)->l.flatten.length<=b * l.length
 | [],_=>Nat.le_refl _
 | x :: l,h=>by
  rw [List.flatten_cons,List.length_append,List.length_cons,Nat.mul_succ]
  have:=flat_le l fun y hy=>h y (List.mem_cons_of_mem _ hy)
  have:=h x List.mem_cons_self
  omega
theorem hand_small (ns:List Int) (zs:List Str):(laidT (handF ns zs)).length<=100/\(laidP (handF ns zs)).length<=100/\(handF ns zs).length<=14:=by
 have l14:=(cut_i ns 23 37).2
 have hI:∀ (cs:List Int),(laidT (cs.map (itemF zs))).length<=4 * cs.length/\(laidP (cs.map (itemF zs))).length<=3 * cs.length:=fun cs=>by
  unfold laidT laidP
  refine ⟨Nat.le_trans (flat_le (b:=4) _ fun x hx=>?_) (by simp),Nat.le_trans (flat_le (b:=3) _ fun x hx=>?_) (by simp)⟩
  ·rw [List.map_map] at hx
   obtain ⟨c,_,rfl⟩:=List.mem_map.mp hx
   exact (item_small zs c).1
  ·rw [List.map_map] at hx
   obtain ⟨c,_,rfl⟩:=List.mem_map.mp hx
   exact (item_small zs c).2
 unfold handF
 split
 ·have e:laidT (((cutI ns 23 37).map (itemF zs)).take 7 ++ [.row (rowH (ns.getD 2 0))]) = laidT (((cutI ns 23 37).take 7).map (itemF zs)) ++ rowH (ns.getD 2 0):=by
   unfold laidT
   rw [List.map_append,List.flatten_append,List.map_take (f:=itemF zs)]
   simp [itT]
  have e':laidP (((cutI ns 23 37).map (itemF zs)).take 7 ++ [.row (rowH (ns.getD 2 0))]) = laidP (((cutI ns 23 37).take 7).map (itemF zs)):=by
   unfold laidP
   rw [List.map_append,List.flatten_append,List.map_take (f:=itemF zs)]
   simp [itP]
  have h:=hI ((cutI ns 23 37).take 7)
  have lr:(rowH (ns.getD 2 0)).length = 30:=by unfold rowH; rw [List.length_map,List.length_range]
  rw [List.length_take] at h
  rw [e,e',List.length_append,lr,List.length_append,List.length_take,List.length_map]
  refine ⟨by omega,by omega,?_⟩
  show min 7 _ + 1<=14
  omega
 ·have h:=hI (cutI ns 23 37)
  rw [List.length_map]
  omega
def spHand (K:PySem.W.Frag):Sp:=fun vs H Q _=>∃ (sa pl:Addr) (ns:List Int) (zs:List Str),vs = [.ref sa,.ref pl]/\SqL K H sa (ns.map V.int)/\H pl = some (.lst (zs.map V.str))/\0 < zs.length/\(∀ z ∈ zs,z.length<=100)/\
 ∀ (r:Addr) (xs:List V) (H':Hp),Same H H'->H r = none->H' r = some (.lst xs)->Paired (Says K T' H' 3) xs ((handF ns zs).map itemD)->Q (.ref r) H'
section
variable {P:Program} {w:World} {K:PySem.W.Frag} {mg:Str->Option Value} {base:Heap} {f CF:Addr} {fd:FuncData} {c:C5} {m:MA}
theorem ndKS:([Str.ofString "_law_k",Str.ofString "_law_script"]:List Str).Nodup:=by decide +kernel
theorem paired_take {α β : Type} {R : α->β->Prop}:∀ {xs:List α} {ys:List β} (n:Nat),Paired R xs ys->Paired R (xs.take n) (ys.take n)
 | _,_,0,_=>.nil
 | _,_,_ + 1,.nil=>.nil
 | _,_,n + 1,.cons h t=>.cons h (paired_take n t)
theorem scHand:FnScope ["_law_script","_law_pool_here","_law_handed_here"] ["_law_script","_law_pool_here"] (defScope sHanded):=⟨rfl,rfl,rfl,by decide +kernel,rfl,by decide +kernel,by decide +kernel⟩
theorem ok_hand {g1 g2 g3:Addr} {e1 e2 e3:FuncData} (F:Fun K "_law_handed" "_law_handed" sHanded f fd) (hrg:mg "range" = none) (cI:Callee P w K mg base 2 "_law_items" g1 e1 ["_law_cells","_law_pool_here"] (spItems K)) (cN:Callee P w K mg base 1 "_law_nth" g2 e2 ["_law_script","_law_k"] (spNthD K)) (cT:Callee P w K mg base 1 "_law_thing" g3 e3 ["_law_cell"] spThing):FnOk P w K mg base CX0 3 f fd ["_law_script","_law_pool_here"] (spHand K):=by
 refine F.ok scHand (fun vs H Q E h=>?_) (fun cdv A outer s H vs Q E hr h=>?_)
 ·obtain ⟨sa,pl,ns,zs,rfl,_⟩:=h
  rfl
 obtain ⟨sa,pl,ns,zs,rfl,hS,hpl,z0,z1,q⟩:=h
 have hr1:Room 1 _:=hr.mono (by decide)
 refine pss_go (ps_set (i:=2) scHand.nd rfl (Or.inl rfl) (cF cI hr (ac (pe_slice sl_list (pv 0) (po_some pe_int) (po_some pe_int)) (ac (pv 1) pa_nil)))) ?_
 refine ⟨_,rfl,_,rfl,_,rfl,sa,_,rfl,hS,fun ca hca=>?_⟩
 obtain ⟨ec,lc⟩:=cut_i ns 23 37
 rw [show cutV (ns.map V.int) (some 23) (some 37) = (cutI ns 23 37).map V.int from ec]
 have s1:=same_new hca (.lst ((cutI ns 23 37).map V.int))
 refine ⟨_,rfl,ca,pl,cutI ns 23 37,zs,rfl,SqL.of upd_same,by omega,s1 _ _ hpl,z0,z1,fun r xs H2 s2 nr hr' hx=>?_⟩
 have s02:=s1.trans s2
 have nr0:H r = none:=s1.free nr
 dsimp only [gName]
 refine pss_go (ps_if (pt_cmpR op_eq (pe_op op_mod (cF cN hr1 (ac (pv 0) (ac pe_int pa_nil))) pe_int) pe_int (nomark _)) (pss_one (ps_set (i:=2) scHand.nd rfl (Or.inl rfl) (pe_op op_cat (pe_slice sl_list (pv 2) po_none (po_some pe_int)) (pe_lst (ac (pe_tup (ac pe_str (ac (pe_lc ["_law_script"] ["_law_k","_law_script"] [none,some 0] rfl ⟨rfl,rfl,rfl,rfl⟩ (pi_range1 rfl hrg (ac pe_int pa_nil)) (gown_name 0) rfl rfl rfl
  (fun pins fp s H C=>⟨pg_name (i:=0) ndKS rfl (Or.inl rfl) (.inr rfl),pif_nil,cF cT hr1 (ac (pe_op op_add (pe_op op_fdiv (cF cN hr1 (ac (pv 1) (ac pe_int pa_nil))) pe_int) (pe_op op_mul (pv 0) (pv 0))) pa_nil)⟩)) pa_nil))) pa_nil))))) pss_nil) ?_
 refine ⟨_,rfl,sa,ns,2,rfl,s02.seq hS,_,_,rfl,rfl,(by show (0:Int) < 8; decide),rfl,_,rfl,?_⟩
 by_cases h5:V.int (ns.getD 2 0 % 8) = V.int 5
 rotate_left
 ·refine dF h5 ?_
  refine ⟨_,pss_one (ps_ret (pv 2)),_,rfl,q r xs H2 s02 nr0 hr' ?_⟩
  unfold handF
  rw [if_neg h5]
  exact hx
 refine dT h5 ?_
 refine ⟨_,rfl,_,rfl,r,_,rfl,SqL.of hr',fun l3 hl3=>?_⟩
 rw [show cutV xs none (some 7) = xs.take 7 from cut_takeN (n:=7)]
 have s3:=same_new hl3 (.lst (xs.take 7))
 have g3:upd H2 l3 (.lst (xs.take 7)) l3 = some (.lst (xs.take 7)):=upd_same
 have s03:=s02.trans s3
 have hx3:=Paired.imp' (fun _ _ z=>z.same s3) hx
 generalize upd H2 l3 (.lst (xs.take 7)) = H3 at s3 g3 s03 hx3 |-
 refine ⟨30,rfl,by decide,by decide,fun D hD=>?_⟩
 refine lc_range (n:=30) (fun j ys H'=>Same H3 H'/\H' D = some (.lst ys)/\ys = ((List.range j).map fun (k:Nat)=>thingF (ns.getD 2 0 / 8 + (k:Int) * (k:Int))).map V.int) ⟨same_new hD _,upd_same,rfl⟩ ?_ ?_
 ·rintro j ys H' hj ⟨sH,hDy,ey⟩
  have e0:(0:Int) + (j:Int) = (j:Nat):=by omega
  rw [e0]
  refine ⟨fun _=>⟨_,rfl,sa,ns,2,rfl,(s03.trans sH).seq hS,_,_,rfl,rfl,⟨by decide,by decide⟩,_,rfl,_,rfl,_,_,rfl,rfl,.inl ⟨by omega,by omega⟩,_,_,rfl,rfl,_,rfl,lcN.mk hj (le1000 (by omega)) hDy (by rw [ey,List.length_map,List.length_map,List.length_range]; exact Nat.le_refl _) ⟨same_upd sH hD _,upd_same,?_⟩⟩,fun z=>absurd z (by decide)⟩
  rw [ey,List.range_succ,List.map_append,List.map_append]
  rfl
 rintro ys H4 ⟨s4,hDy,ey⟩
 have eD:H4 D = some (.lst ((rowH (ns.getD 2 0)).map V.int)):=by rw [hDy,ey]; rfl
 refine ⟨(by show 2<=sizeLine; decide),fun tp htp=>?_⟩
 have s5:=same_new htp (.tup [.str "row",.ref D])
 refine ⟨(by show 1<=sizeLine; decide),fun l6 hl6=>?_⟩
 have s6:=same_new hl6 (.lst [.ref tp])
 have s36:=s4.trans (s5.trans s6)
 have lx:(xs.take 7).length<=7:=by rw [List.length_take]; omega
 refine ⟨l3,l6,_,_,rfl,rfl,s36 _ _ g3,upd_same,(by exact le1000 (by show (xs.take 7).length + 1<=1000; omega)),fun l7 hl7=>?_⟩
 have s7:=same_new hl7 (.lst (xs.take 7 ++ [.ref tp]))
 have s37:=s36.trans s7
 have s07:=s03.trans s37
 have n7:H l7 = none:=(s03.trans s36).free hl7
 have gtp:=(s6.trans s7) _ _ (upd_same (H:=H4) (a:=tp) (o:=.tup [.str "row",.ref D]))
 have gD:=(s5.trans (s6.trans s7)) _ _ eD
 dsimp only [gName]
 refine ⟨_,pss_one (ps_ret (pv 2)),_,rfl,q l7 _ _ s07 n7 upd_same ?_⟩
 unfold handF
 rw [if_pos h5,List.map_append,List.map_take]
 refine Paired.snoc (paired_take 7 (Paired.imp' (fun _ _ z=>z.same s37) hx3)) ?_
 exact Says.tup (SqT.of gtp) (.cons .str (.cons (Says.lst trivial gD (ints_says _)) .nil))
end
theorem same_upd2 {H H2:Hp} {l:Addr} {o:HO} (s:Same H H2) (h:H l = none):Same H (upd H2 l o):=fun b u e=>by rw [upd_ne (ne_of_none e h)]; exact s b u e
theorem PAt.upd {c:C5} {H:Hp} {v D:Addr} {r:Rw} {ys:List V} {o:HO} (h:PAt c H v r) (hD:H D = some (.lst ys)):PAt c (upd H D o) v r:=by
 obtain ⟨dx,h⟩:=h
 refine ⟨dx,?_⟩
 rw [upd_ne (fun e=>by rw [e,hD] at h; cases h)]
 exact h
def rowK (r:Rw):List SB:=match r.k with
 | 0=>[.inl "seat",.inl r.z,.inr r.b] | 1=>[.inl "both",.inl r.z,.inr r.b] | 2=>[.inl "tail",.inl r.z] | 3=>[.inl "tag",.inl r.z,.inr r.b] | _=>[.inl "bag",.inl r.z]
theorem rowK_V {r:Rw}:(rowK r).map sbV = rv r:=by
 obtain ⟨k,z,b⟩:=r
 match k with
 | 0=>rfl
 | 1=>rfl
 | 2=>rfl
 | 3=>rfl
 | n + 4=>rfl
theorem kw_sb:∀ i:Nat,i < 5->∀ j:Nat,j < 5->kw i = kw j->i = j:=by decide +kernel
theorem rowK_hd {r:Rw}:(rowK r)[0]? = some (.inl (kw r.k)):=by
 obtain ⟨k,z,b⟩:=r
 match k with
 | 0=>rfl
 | 1=>rfl
 | 2=>rfl
 | 3=>rfl
 | n + 4=>rfl
theorem rowK_nm {r:Rw}:(rowK r)[1]? = some (.inl r.z):=by
 obtain ⟨k,z,b⟩:=r
 match k with
 | 0=>rfl
 | 1=>rfl
 | 2=>rfl
 | 3=>rfl
 | n + 4=>rfl
def sbB:Option SB->Bool
 | some (.inr b)=>b
 | _=>true
theorem rowK_fr {r:Rw}:fr r.k r.b = sbB ((rowK r)[2]?):=by
 obtain ⟨k,z,b⟩:=r
 match k with
 | 0=>rfl
 | 1=>rfl
 | 2=>rfl
 | 3=>rfl
 | n + 4=>rfl
theorem rowK_pat {c:C5} {H:Hp} {p:Addr} {r r':Rw} (h:rowK r = rowK r') (o:r.ok) (o':r'.ok) (hp:PAt c H p r'):PAt c H p r:=by
 have e1:kw r.k = kw r'.k:=by
  have h1:=rowK_hd (r:=r)
  rw [h,rowK_hd] at h1
  exact (Sum.inl.inj (Option.some.inj h1)).symm
 have e2:r.z = r'.z:=by
  have h1:=rowK_nm (r:=r)
  rw [h,rowK_nm] at h1
  exact (Sum.inl.inj (Option.some.inj h1)).symm
 have e3:fr r.k r.b = fr r'.k r'.b:=by rw [rowK_fr,rowK_fr,h]
 have ek:=kw_sb _ o.1 _ o'.1 e1
 obtain ⟨dx,hp⟩:=hp
 exact ⟨dx,by show H p = some (.ins (c.at r.k) dx (pf (kw r.k) (.str r.z) (fr r.k r.b))); rw [e3,e2,ek]; exact hp⟩
theorem PAt.ext {c:C5} {H:Hp} {v a:Addr} {r:Rw} {x:Heap->Prop} {o:HO} (h:PAt c H v r) (hD:H a = some (.ext x)):PAt c (L2.upd H a o) v r:=by
 obtain ⟨dx,h⟩:=h
 refine ⟨dx,?_⟩
 rw [upd_ne (fun e=>by rw [e,hD] at h; cases h)]
 exact h
theorem db_upd {P:Program} {w:World} {H:Hp} {a D:Addr} {ys:List V} {o:HO} {kvs:List (List SB × V)} (h:DB P w H a kvs) (hD:H D = some (.lst ys)):DB P w (L2.upd H D o) a kvs:=by
 obtain ⟨xs,e,kb⟩:=h
 refine ⟨xs,by rw [upd_ne (fun z=>by rw [z,hD] at e; cases e)]; exact e,Paired.mapP kb fun _ _ z=>⟨z.1,?_,z.2.2⟩⟩
 rw [upd_ne (fun e'=>by have:=z.2.1; rw [e',hD] at this; cases this)]
 exact z.2.1
theorem valV_putN {kvs:List (List SB × V)} {k k':List SB} {v v':V} (hn:valV kvs k = none) (h:valV (putK kvs k v) k' = some v'):valV kvs k' = some v'\/(k' = k/\v' = v):=by
 rw [putK_new v hn] at h
 unfold valV at h |-
 rw [List.find?_append] at h
 cases e:kvs.find? fun kv=>decide (kv.1 = k') with
 | some p=>rw [e] at h; exact .inl h
 | none=>
  rw [e] at h
  by_cases ek:k = k'
  ·rw [List.find?_cons_of_pos (by simpa using ek)] at h
   cases h
   exact .inr ⟨ek.symm,rfl⟩
  ·rw [List.find?_cons_of_neg (by simpa using ek)] at h
   cases h
theorem put_len {kvs:List (List SB × V)} {k:List SB} {v:V} (hn:valV kvs k = none):(putK kvs k v).length = kvs.length + 1:=by rw [putK_new v hn,List.length_append]; rfl
def rNil (n:Bool):R2:=fun x y H Q=>∃ (a c:Addr) (xs:List V),x = .ref a/\y = .ref c/\H a = some (.lst xs)/\H c = some (.lst [])/\Q (.bl (n != xs.isEmpty)) H
theorem op_eqNil {X:Cx} (hu:X.A.units + 64 < cLine):OpR X (compareOp .Eq) (rNil false):=by
 intro pins s σ H x y v u Q I rx ry h
 obtain ⟨a,c,xs,rfl,rfl,ha,hc,q⟩:=h
 cases xs with
 | nil=>exact op_eqS hu pins s σ H _ _ v u Q I rx ry ⟨a,c,0,.lst [],fun _=>True,fun _=>True,rfl,rfl,by decide,Says.lst True.intro ha .nil,Says.lst True.intro hc .nil,q⟩
 | cons z zs=>exact op_eqLen (by omega) pins s σ H _ _ v u Q I rx ry ⟨a,c,_,_,rfl,rfl,ha,hc,by simp,q⟩
theorem mt_nil {rows:List Rw} {bars names:List Str} {w many:Nat} (h:mtF rows bars w many names = []):missF rows bars many names = []:=by
 unfold mtF at h
 rw [List.append_eq_nil_iff,List.append_eq_nil_iff,List.replicate_eq_nil_iff,List.replicate_eq_nil_iff,List.map_eq_nil_iff] at h
 obtain ⟨⟨h1,h2⟩,h3⟩:=h
 have:w = many:=by omega
 rw [<- this]
 exact h3
theorem mt_zero {rows:List Rw} {bars names:List Str} {many:Nat} (V1:Valid rows bars) (h:missF rows bars many names = []):fewD rows<=many/\many<=mostW rows many/\mtF rows bars many many names = []:=by
 obtain ⟨_,h2,_,h4⟩:=(miss_iff V1).mp h
 refine ⟨?_,?_,?_⟩
 ·refine (few_le (plN rows)).mpr fun i r hi hr nr=>(few_le (plN rows)).mp h4 i r hi hr ?_
  unfold needR isBoth at nr |-
  rw [Bool.and_eq_true] at nr |-
  refine ⟨nr.1,?_⟩
  cases hb:byNm r.k with
  | false=>rfl
  | true=>
   have:r.z ∈ nms rows:=List.mem_map.mpr ⟨r,List.mem_filter.mpr ⟨List.mem_of_getElem? hr,hb⟩,rfl⟩
   have n2:=nr.2
   rw [hb,decide_eq_true this] at n2
   cases n2
 ·unfold mostW
  rcases h2 with h2 | h2
  ·rw [if_pos h2]; omega
  ·split <;> omega
 ·unfold mtF
  rw [h,Nat.sub_self]
  rfl
theorem runs_ch {G:Nat->List Str->Prop} {c:List Str} {r:List (List Str)} {m:Nat} {ns:List Str} (h:Runs G (c :: r) m ns):isCh c:=by
 rcases h with ⟨e,_⟩ | ⟨e,_⟩ | ⟨z,e,_⟩ | ⟨z,e,_⟩
 ·exact .inl e
 ·exact .inr (.inl e)
 ·exact .inr (.inr (.inl ⟨z,e⟩))
 ·exact .inr (.inr (.inr ⟨z,e⟩))
theorem okw {rows:List Rw} {many w:Nat} (h:w<=mostW rows many):(firstK 2 0 rows).isSome = true\/w<=plN rows:=by
 unfold mostW at h
 split at h
 next e=>exact .inl e
 ·exact .inr h
theorem min_len {rows:List Rw} {bars names:List Str} {many w w':Nat} (h:MinW rows bars many names w) (h':MinW rows bars many names w'):(mtF rows bars w many names).length = (mtF rows bars w' many names).length:=
 Nat.le_antisymm (h.2.2 w' h'.1 h'.2.1) (h'.2.2 w h.1 h.2.1)
theorem lt_bits {zs:List Str} (h:∀ z ∈ zs,nameB z = true):∀ z ∈ zs,z.length<=100:=fun z hz=>by
 have:=(nameB_iff.mp (h z hz)).2.1
 omega
theorem says_ch {K:PySem.W.Frag} {ok:Addr->Prop} {H:Hp} {x:V} {c:List Str} (h:Says K ok H 1 x (chD c)):∃ t,x = .ref t/\SqT K H t (c.map V.str):=by
 rcases h with h | ⟨a,xs,ds,ex,e,hs,q⟩ | ⟨a,xs,ds,_,e,_⟩
 ·cases x <;> exact h.elim
 ·cases e
  have:∀ (c:List Str) (xs:List V),Paired (Says K ok H 0) xs (c.map Dt.str)->xs = c.map V.str:=fun c=>by
   induction c with
   | nil=>intro xs h; cases h; rfl
   | cons z c ih=>
    intro xs h
    cases h with
    | cons h t=>
     rename_i x1 x2
     rw [ih _ t]
     cases x1 <;> first | exact h.elim | skip
     cases h
     rfl
  rw [this c xs q] at hs
  exact ⟨a,ex,hs⟩
 ·cases e
def spLawB (K:PySem.W.Frag):Sp:=fun vs H Q _=>∃ (a:Addr) (ns:List Int),vs = [.ref a]/\SqL K H a (ns.map V.int)/\ns.length<=63/\(∀ m ∈ ns,Builtin.Int.intBits m<=1048576)/\∀ H',Q (.bl true) H'
structure TxtV (mg:Str->Option Value):Prop where
 len:mg "len" = none
 isi:mg "isinstance" = none
 list:mg "list" = none
 range:mg "range" = none
section
variable {P:Program} {w:World} {K:PySem.W.Frag} {mg:Str->Option Value} {base:Heap} {f CF:Addr} {fd:FuncData} {c:C5} {m:MA}
theorem ndOL:([Str.ofString "_law_one",Str.ofString "_law_like"]:List Str).Nodup:=by decide +kernel
theorem ndNTH:([Str.ofString "_law_name",Str.ofString "_law_thing_here"]:List Str).Nodup:=by decide +kernel
theorem scLaw:FnScope ["_law_script","_law_pool_here","_law_specs_here","_law_shut","_law_handed_here","_law_things","_law_pairs","_law_like","_law_shape","_law_found","_law_many","_law_names","_law_told","_law_change","_law_size"] ["_law_script"] (defScope sLaw):=⟨rfl,rfl,rfl,by decide +kernel,rfl,by decide +kernel,by decide +kernel⟩
theorem ok_law {f1 f2 f3 f4 f5 f6 f7 f8 f9 f10 f11 f12 f13 gF:Addr} {e1 e2 e3 e4 e5 e6 e7 e8 e9 e10 e11 e12 e13 eF:FuncData} (F:Fun K "law" "law" sLaw f fd) (U:TxtV mg) (cN:Callee P w K mg base 1 "_law_nth" f1 e1 ["_law_script","_law_k"] (spNthD K)) (cPo:Callee P w K mg base 2 "_law_pool" f2 e2 ["_law_cell"] (spPool K)) (cSp:Callee P w K mg base 1 "_law_specs" f3 e3 ["_law_cells","_law_pool_here"] (spSpecs K)) (cB':Callee P w K mg base 1 "_law_bars" f4 e4 ["_law_cells","_law_pool_here","_law_specs_here"] (spLBars K)) (cH:Callee P w K mg base 3 "_law_handed" f5 e5 ["_law_script","_law_pool_here"] (spHand K)) (cL:Callee P w K mg base 1 "_law_laid" f6 e6 ["_law_items_here"] (spLaid K))
  (mCF:mg "Form" = some (.ref CF)) (MF:Mk K CF gF) (GF:FnOk P w K mg base CX0 3 gF eF ["self","parameters","bars"] (spFI c CF)) (bF:Binds K eF ["self","parameters","bars"] []) (cP:Callee P w K mg base 5 "parameter_of" f7 e7 ["told"] (spPof K c)) (cM:Callee P w K mg base 6 "mends" f8 e8 ["form","call"] (spMends K c CF)) (cNe:Callee P w K mg base 7 "nearest" f9 e9 ["form","call"] (spNear K c CF)) (cNu:Callee P w K mg base 1 "_law_is_number" f10 e10 ["_law_found"] spOneI) (cFt:Callee P w K mg base 1 "_law_fits" f11 e11 ["_law_specs_here","_law_shut","_law_many","_law_names"] spLFits) (cTu:Callee P w K mg base 1 "_law_turned" f12 e12 ["_law_many","_law_names","_law_change"] (spTurn K)) (cIs:Callee P w K mg base 1 "_law_is_change" f13 e13 ["_law_change"] (spIsCh K)):FnOk P w K mg base CX0 8 f fd ["_law_script"] (spLawB K):=by
 refine F.ok scLaw (fun vs H Q E h=>?_) (fun cdv A outer s H vs Q E hr h=>?_)
 ·obtain ⟨a,ns,rfl,_⟩:=h
  rfl
 obtain ⟨sa,ns,rfl,hS,h63,hbit,q⟩:=h
 have hr1:Room 1 _:=hr.mono (by decide)
 have hr2:Room 2 _:=hr.mono (by decide)
 have hr3:Room 3 _:=hr.mono (by decide)
 have hr4:Room 4 _:=hr.mono (by decide)
 have hr5:Room 5 _:=hr.mono (by decide)
 have hr6:Room 6 _:=hr.mono (by decide)
 have hU:=hr.units
 have hu1:=hu_of hr
 refine pss_go (ps_set (i:=1) scLaw.nd rfl (Or.inl rfl) (cF cPo hr2 (ac (cF cN hr1 (ac (pv 0) (ac pe_int pa_nil))) pa_nil))) ?_
 refine ⟨_,rfl,sa,ns,0,rfl,hS,_,rfl,fun pa zs H2 s2 np hpa zn zb z0 z30=>?_⟩
 dsimp only [gName]
 refine pss_go (ps_set (i:=2) scLaw.nd rfl (Or.inl rfl) (cF cSp hr1 (ac (pe_slice sl_list (pv 0) (po_some pe_int) (po_some pe_int)) (ac (pv 1) pa_nil)))) ?_
 refine ⟨_,rfl,_,rfl,_,rfl,sa,_,rfl,s2.seq hS,fun ca hca=>?_⟩
 obtain ⟨ec,lc⟩:=cut_i ns 3 23
 rw [show cutV (ns.map V.int) (some 3) (some 23) = (cutI ns 3 23).map V.int from ec]
 have s3:=same_new hca (.lst ((cutI ns 3 23).map V.int))
 refine ⟨_,rfl,ca,pa,_,zs,rfl,SqL.of upd_same,by omega,s3 _ _ hpa,z0,zb,fun la us rows H4 s4 nla hla hu vr=>?_⟩
 have s04:=s2.trans (s3.trans s4)
 have hpa:=(s3.trans s4) _ _ hpa
 clear s3 hca
 dsimp only [gName]
 refine pss_go (ps_set (i:=3) scLaw.nd rfl (Or.inl rfl) (cF cB' hr1 (ac (pe_lc ["_law_script"] ["_law_k","_law_script"] [none,some 0] rfl ⟨rfl,rfl,rfl,rfl⟩ (pi_range1 rfl U.range (ac (pe_op op_mod (cF cN hr1 (ac (pv 0) (ac pe_int pa_nil))) pe_int) pa_nil)) (gown_name 0) rfl rfl rfl
  (fun pins fp s H C=>⟨pg_name (i:=0) ndKS rfl (Or.inl rfl) (.inr rfl),pif_nil,pe_op op_fdiv (cF cN hr1 (ac (pv 1) (ac (pv 0) pa_nil))) pe_int⟩)) (ac (pv 1) (ac (pv 2) pa_nil))))) ?_
 have m5:=Int.emod_lt_of_pos (ns.getD 1 0) (show (0:Int) < 5 by decide)
 have m50:=Int.emod_nonneg (ns.getD 1 0) (show (5:Int) ≠ 0 by decide)
 refine ⟨_,rfl,sa,ns,1,rfl,s04.seq hS,_,_,rfl,rfl,(by show (0:Int) < 5; decide),ns.getD 1 0 % 5,rfl,by omega,by omega,fun D hD=>?_⟩
 obtain ⟨nn,hnn⟩:∃ nn:Nat,(ns.getD 1 0 % 5).toNat = nn:=⟨_,rfl⟩
 rw [hnn]
 have hn5:nn<=5:=by omega
 refine lc_range (n:=nn) (fun j ys H'=>Same H4 H'/\H' D = some (.lst ys)/\∃ cs:List Int,ys = cs.map V.int/\cs.length = j) ⟨same_new hD _,upd_same,[],rfl,rfl⟩ ?_ ?_
 ·rintro j ys H' hj ⟨sH,hDy,cs,ey,el⟩
  rw [Int.zero_add]
  refine ⟨fun _=>⟨_,rfl,_,rfl,sa,ns,j,rfl,(s04.trans sH).seq hS,_,_,rfl,rfl,⟨by decide,by decide⟩,lcN.mk hj (le1000 (by omega)) hDy (by rw [ey,List.length_map]; omega) ⟨same_upd sH hD _,upd_same,cs ++ [_],by rw [ey,List.map_append]; rfl,by rw [List.length_append,el]; rfl⟩⟩,fun z=>absurd z (by decide)⟩
 rintro ys H5 ⟨s5,hD5,cs,ey,el⟩
 rw [ey] at hD5
 refine ⟨_,rfl,_,rfl,D,pa,la,cs,zs,us,rows,rfl,SqL.of hD5,by omega,s5 _ _ hpa,z0,zb,s5 _ _ hla,tats_same s5 hu,vr,fun lb bars H6 s6 nlb hlb V1=>?_⟩
 have s46:=s5.trans s6
 have s06:=s04.trans s46
 have hpa:=s46 _ _ hpa
 have hla:=s46 _ _ hla
 have hu:=tats_same s46 hu
 have l24:=V1.l24
 have l60:=V1.l60
 have lu:us.length = rows.length:=hu.length
 have zl:=lt_bits zb
 clear s5 hD5 ey el hD s46 s04 s4 vr
 dsimp only [gName]
 refine pss_go (ps_set (i:=4) scLaw.nd rfl (Or.inl rfl) (cF cH hr3 (ac (pv 0) (ac (pv 1) pa_nil)))) ?_
 refine ⟨_,rfl,_,rfl,sa,pa,ns,zs,rfl,s06.seq hS,hpa,z0,zl,fun lh xs H7 s7 nlh hlh hxs=>?_⟩
 obtain ⟨ht1,hp1,h14⟩:=hand_small ns zs
 have hcall:CallAt K H7 lh (handF ns zs):=⟨xs,SqL.of hlh,hxs⟩
 have s07:=s06.trans s7
 dsimp only [gName]
 refine pss_go (ps_asg (cF cL hr1 (ac (pv 4) pa_nil)) (pg_tup rfl (pgs_cons (pg_name (i:=5) scLaw.nd rfl (Or.inl rfl)) (pgs_cons (pg_name (i:=6) scLaw.nd rfl (Or.inl rfl)) pgs_nil)))) ?_
 refine ⟨_,rfl,lh,handF ns zs,xs,rfl,SqL.of hlh,hxs,by omega,by omega,fun pt H8 s8 ⟨lt,lp,ys,nlt,nlp,_,_,hpt,hlt,hlp,hys⟩=>?_⟩
 refine ⟨pt,_,rfl,SqT.of hpt,rfl,_,_,rfl,_,_,rfl,rfl,?_⟩
 have s68:=s7.trans s8
 have s08:=s06.trans s68
 have hcall:=hcall.same s8
 have hpa:=s68 _ _ hpa
 have hla:=s68 _ _ hla
 have hu:=tats_same s68 hu
 have hlb:=s68 _ _ hlb
 have hlh:=s8 _ _ hlh
 have hxs:=Paired.imp' (fun _ _ z=>z.same s8) hxs
 clear s7 nlh hpt s68
 dsimp only [gName]
 refine pss_go (ps_set (i:=7) scLaw.nd rfl (Or.inr rfl) (pe_d0B (P:=P) (w:=w) rfl rfl)) ?_
 intro kd hkd hsys
 dsimp only [gName]
 have s9:=same_new hkd (.ext (dBφ P w kd []))
 have g9:upd H8 kd (.ext (dBφ P w kd [])) kd = some (.ext (dBφ P w kd [])):=upd_same
 generalize upd H8 kd (.ext (dBφ P w kd [])) = H9 at s9 g9 |-
 have hla9:=s9 _ _ hla
 refine pss_go (ps_set (i:=8) scLaw.nd rfl (Or.inl rfl) (pe_make MF GF hr4 rfl mCF bF .nil pass0 (ac (pe_lc ["_law_like"] ["_law_one","_law_like"] [none,some 7] rfl ⟨rfl,rfl,rfl,rfl⟩ (pi_list (pv 2)) (gown_name 0) rfl rfl rfl
   (fun pins fp s H C=>⟨pg_name (i:=0) ndOL rfl (Or.inl rfl) (.inr rfl),pif_nil,pe_setdB (P:=P) (w:=w) rfl rfl hu1 (pv 1) (ac (pv 0) (ac (cF cP hr5 (ac (pv 0) pa_nil)) pa_nil))⟩)) (ac (pv 3) pa_nil)))) ?_
 refine ⟨_,rfl,la,rfl,⟨_,SqL.of hla9⟩,fun D hD=>?_⟩
 have neD:D ≠ kd:=fun e=>by rw [e,g9] at hD; cases hD
 have nD:H8 D = none:=s9.free hD
 refine lc_list (K:=K) (xs:=us.map V.ref) (fun i ys H'=>∃ (ps:List Addr) (kvs:List (List SB × V)),ys = ps.map V.ref/\Same H8 H'/\H' D = some (.lst ys)/\Paired (PAt c H') ps (rows.take i)/\DB P w H' kd kvs/\kvs.length<=i/\∀ k v,valV kvs k = some v->∃ r pa,r.ok/\k = rowK r/\v = .ref pa/\PAt c H' pa r)
  ⟨[],[],rfl,s9.trans (same_new hD _),upd_same,.nil,⟨[],by rw [upd_ne neD.symm]; exact g9,.nil⟩,Nat.le_refl _,(fun k v h=>by cases h)⟩ (fun i ys H' ⟨_,_,_,sH,_⟩=>SqL.of (sH _ _ hla)) ?_ ?_
 ·rintro i x ys H2 hi hx ⟨ps,kvs,rfl,s2,hD2,hp2,db2,lk,hv2⟩
  obtain ⟨u,hu',rfl⟩:=refs_at hx
  obtain ⟨r,hr',tr⟩:=paired_at hu hu'
  have rk:=V1.ok r (List.mem_of_getElem? hr')
  have hil:i < rows.length:=(List.getElem?_eq_some_iff.mp hr').1
  have er:rows[i] = r:=(List.getElem?_eq_some_iff.mp hr').2
  have lps:ps.length<=i:=by rw [hp2.length,List.length_take]; omega
  refine ⟨fun _=>?_,fun e=>Bool.noConfusion e⟩
  refine ⟨_,rfl,⟨kd,kvs,rfl,db2⟩,_,rfl,_,rfl,u,r.k,.str r.z,r.b,rfl,rk.1,s2 _ _ tr,.inl ⟨r.z,rfl,nameB_ok rk.2⟩,rk.2,fun pa dx H3 s3 ho=>?_⟩
  have pa3:PAt c H3 pa r:=⟨dx,ho⟩
  have s23:=s2.trans s3
  have db3:=db2.same s3
  refine ⟨kd,u,kvs,rowK r,.ref pa,rfl,rfl,db3,hsys,by omega,by rw [rowK_V]; exact s23 _ _ tr,fun v' hv'=>?_,fun hn H4 ⟨o4,e4⟩ db4=>?_⟩
  ·obtain ⟨r',pa',rk',ek,ev,hp'⟩:=hv2 _ _ hv'
   subst ev
   have hq:PAt c H3 pa' r:=(rowK_pat ek rk rk' hp').same s3
   refine lcN.mk hi (le1000 (by rw [List.length_map]; omega)) (s3 _ _ hD2) (by rw [List.length_map]; exact lps) ⟨ps ++ [pa'],kvs,by rw [List.map_append]; rfl,same_upd2 s23 nD,upd_same,?_,?_,by omega,fun k v hkv=>?_⟩
   ·rw [List.take_succ_eq_append_getElem hil,er]
    exact Paired.snoc (Paired.imp' (fun _ _ z=>PAt.upd (z.same s3) (s3 _ _ hD2)) hp2) (PAt.upd hq (s3 _ _ hD2))
   ·exact db_upd db3 (s3 _ _ hD2)
   ·obtain ⟨r1,p1,a1,a2,a3,a4⟩:=hv2 k v hkv
    exact ⟨r1,p1,a1,a2,a3,PAt.upd (a4.same s3) (s3 _ _ hD2)⟩
  ·obtain ⟨xs3,ex3,_⟩:=id db3
   have s4:Same H8 H4:=by rw [e4]; exact same_upd2 s23 hkd
   have hD4:H4 D = some (.lst (ps.map V.ref)):=by rw [e4,upd_ne neD]; exact s3 _ _ hD2
   have ups:∀ {v:Addr} {r:Rw},PAt c H3 v r->PAt c H4 v r:=fun z=>by rw [e4]; exact PAt.ext z ex3
   refine lcN.mk hi (le1000 (by rw [List.length_map]; omega)) hD4 (by rw [List.length_map]; exact lps) ⟨ps ++ [pa],_,by rw [List.map_append]; rfl,same_upd2 s4 nD,upd_same,?_,db_upd db4 hD4,by rw [put_len hn]; omega,fun k v hkv=>?_⟩
   ·rw [List.take_succ_eq_append_getElem hil,er]
    exact Paired.snoc (Paired.imp' (fun _ _ z=>PAt.upd (ups (z.same s3)) hD4) hp2) (PAt.upd (ups pa3) hD4)
   ·rcases valV_putN hn hkv with h | ⟨h1,h2⟩
    ·obtain ⟨r1,p1,a1,a2,a3,a4⟩:=hv2 k v h
     exact ⟨r1,p1,a1,a2,a3,PAt.upd (ups (a4.same s3)) hD4⟩
    ·exact ⟨r,pa,rk,h1,h2,PAt.upd (ups pa3) hD4⟩
 rintro ys1 H10 ⟨ps,kvs,rfl,s10,hD10,hp10,_,_,_⟩
 rw [List.length_map,lu,List.take_length] at hp10
 refine ⟨_,rfl,?_⟩
 intro x dx hx hdx hne
 have smk:Same H10 (upd (upd H10 dx (.own x)) x (.ins CF dx [])):=same_make0 hx hdx
 have hx1:upd (upd H10 dx (.own x)) x (.ins CF dx []) x = some (.ins CF dx []):=upd_same
 generalize upd (upd H10 dx (.own x)) x (.ins CF dx []) = H11 at smk hx1 |-
 refine ⟨x,D,dx,.ref lb,ps,rows,bars,rfl,hx1,smk _ _ hD10,pats_same smk hp10,.inr ⟨lb,rfl,(s10.trans smk) _ _ hlb⟩,V1,fun H12 sx F6 L6=>?_⟩
 refine ⟨rfl,?_⟩
 have s812:Same H8 H12:=fun b' u e=>sx b' u (smk _ _ (s10 _ _ e)) (ne_of_none (s10 _ _ e) hx)
 have hF:FormOk c CF H12 x rows bars:=⟨let ⟨dx,fs,lr,lb,ld,ps,h1,h2,h3,h4,h5,h6,_,_⟩:=F6; ⟨dx,fs,lr,lb,ld,ps,h1,h2,h3,h4,h5,h6⟩,by omega,by omega,V1.ok⟩
 clear s9 g9 hla9 neD nD hD hkd hsys smk hx1 s10 hD10 hp10 sx F6 L6
 have s012:=s08.trans s812
 have hcall:=hcall.same s812
 have hpa:=s812 _ _ hpa
 have hla:=s812 _ _ hla
 have hu:=tats_same s812 hu
 have hlb:=s812 _ _ hlb
 have hlt:=s812 _ _ hlt
 have hlp:=s812 _ _ hlp
 have hys:=Paired.imp' (fun _ _ z=>z.same s812) hys
 have hlh:=s812 _ _ hlh
 have hxs:=Paired.imp' (fun _ _ z=>z.same s812) hxs
 dsimp only [gName]
 have ln:(namesOf (handF ns zs)).length<=100:=by unfold namesOf; rw [List.length_map]; exact hp1
 generalize hit:handF ns zs = it at *
 refine pss_go (ps_set (i:=9) scLaw.nd rfl (Or.inl rfl) (cF cM hr6 (ac (pv 8) (ac (pv 4) pa_nil)))) ?_
 refine ⟨_,rfl,_,rfl,x,lh,it,rows,bars,rfl,hF,l24,l60,hcall,ht1,hp1,fun ww lf H13 s13 hmin ⟨nlf,vs,hlf,hvs⟩=>?_⟩
 dsimp only [gName]
 refine pss_go (ps_set (i:=10) scLaw.nd rfl (Or.inl rfl) (cB call_len_seq U.len PySem.boot_len (ac (pv 5) pa_nil))) ?_
 refine ⟨_,rfl,lt,_,rfl,.inl (SqL.of (s13 _ _ hlt)),?_⟩
 rw [List.length_map]
 dsimp only [gName]
 have hlp13:=s13 _ _ hlp
 have hys13:=Paired.imp' (fun _ _ z=>z.same s13) hys
 refine pss_go (ps_lc (i:=11) [] ["_law_name","_law_thing_here"] [none,none] scLaw.nd rfl (Or.inl rfl) rfl ⟨rfl,rfl,rfl,rfl⟩ (pi_list (pv 6)) (gown_tup2 (K:=K) (n:=2) 0 1) rfl rfl rfl
   (fun pins fp s H C=>⟨pg_tup rfl (pgs_cons (pg_name (i:=0) ndNTH rfl (Or.inl rfl) (.inr rfl)) (pgs_cons (pg_name (i:=1) ndNTH rfl (Or.inl rfl) (.inr rfl)) pgs_nil)),pif_nil,pv 0⟩)) ?_
 refine ⟨_,rfl,lp,rfl,⟨_,SqL.of hlp13⟩,fun D hD=>?_⟩
 have lys:ys.length = (laidP it).length:=by rw [hys.length,List.length_map]
 refine lc_list (K:=K) (xs:=ys) (fun i zs H'=>Same H13 H'/\H' D = some (.lst zs)/\zs = ((namesOf it).take i).map V.str) ⟨same_new hD _,upd_same,rfl⟩ (fun i zs H' h=>SqL.of (h.1 _ _ hlp13)) ?_ ?_
 ·rintro i x zs H' hlt hx ⟨sH,hDy,ez⟩
  obtain ⟨d,hd,hy⟩:=Paired.get hys13 hx
  obtain ⟨pr',hpr,rfl⟩:=pair_get hd
  obtain ⟨b,rfl,hb⟩:=pair_says (hy.same sH)
  refine ⟨b,_,rfl,hb,rfl,_,_,rfl,_,_,rfl,rfl,fun _=>⟨_,rfl,?_⟩,fun e=>Bool.noConfusion e⟩
  have hi:i < (namesOf it).length:=by unfold namesOf; rw [List.length_map]; omega
  have en:(namesOf it)[i] = pr'.1:=by
   have:(namesOf it)[i]? = some pr'.1:=by unfold namesOf; rw [List.getElem?_map,hpr]; rfl
   rw [List.getElem?_eq_getElem hi] at this
   exact Option.some.inj this
  refine lcN.mk hlt (le1000 (by omega)) hDy (by rw [ez,List.length_map,List.length_take]; omega) ⟨same_upd sH hD _,upd_same,?_⟩
  rw [ez,List.take_succ_eq_append_getElem hi,en,List.map_append]
  rfl
 rintro ns0 H14 ⟨s14,hD14,en0⟩
 have e14:H14 D = some (.lst ((namesOf it).map V.str)):=by
  rw [hD14,en0,List.take_of_length_le]
  unfold namesOf
  rw [List.length_map]
  omega
 clear en0 hD14 lys hys13 hlp13
 have s1214:=s13.trans s14
 have hlf14:=s14 _ _ hlf
 have hvs14:=Paired.imp' (fun _ _ z=>z.same s14) hvs
 have nDf:D ≠ lf:=fun e=>by rw [e,hlf] at hD; cases hD
 dsimp only [gName]
 refine pss_go (ps_set (i:=12) scLaw.nd rfl (Or.inl rfl) (cF cNe hr (ac (pv 8) (ac (pv 4) pa_nil)))) ?_
 refine ⟨_,rfl,_,rfl,x,lh,it,rows,bars,rfl,hF.same s1214,l24,l60,hcall.same s1214,ht1,hp1,fun w2 H15 s15 hmin2=>?_⟩
 rw [min_len hmin2 hmin]
 have lvs:vs.length = (mtF rows bars ww (laidT it).length (namesOf it)).length:=by rw [hvs.length,List.length_map]
 have s1215:=s1214.trans s15
 have hlf15:=s15 _ _ hlf14
 have e15:=s15 _ _ e14
 dsimp only [gName]
 refine pss_go (ps_if (PW.pt (pw_or (pt_not (pt_val (cB call_isinst U.isi boot_isinstance (ac (pv 9) (ac (pe_bltn (v:=.ty "list") rfl U.list PyProof.Rows.boot_list rfl) pa_nil))))) (pw_or (pt_not (pt_val (cF cNu hr1 (ac (pv 12) pa_nil)))) (pw_or1 (pt_cmpR op_ne (pv 12) (cB call_len_seq U.len PySem.boot_len (ac (pv 9) pa_nil)) (nomark _)))))) (pss_one (ps_ret pe_bl)) pss_nil) ?_
 refine ⟨_,rfl,_,_,_,_,rfl,.lst hlf15,kt_list_list K,_,rfl,?_⟩
 refine iteF ?_
 refine ⟨_,rfl,_,rfl,_,rfl,?_⟩
 refine iteF ?_
 refine ⟨_,rfl,_,rfl,lf,_,rfl,.inl (SqL.of hlf15),rfl,_,rfl,?_⟩
 refine iteC (by rw [lvs,decide_eq_true rfl]; rfl) ?_
 refine pss_go (ps_if (PW.pt (pw_or (pt_cmpR (op_neS hU) (pv 4) (cF cH hr3 (ac (pv 0) (ac (pv 1) pa_nil))) (nomark _)) (pw_or1 (pt_cmpR op_ne (pe_cmpR (op_eqNil hU) (pv 9) (pe_lst pa_nil) (nomark _)) (cF cFt hr1 (ac (pv 2) (ac (pv 3) (ac (pv 10) (ac (pv 11) pa_nil))))) (nomark _))))) (pss_one (ps_ret pe_bl)) pss_nil) ?_
 refine seq_via (fun σ' H'=>σ' = [some (.ref sa),some (.ref pa),some (.ref la),some (.ref lb),some (.ref lh),some (.ref lt),some (.ref lp),some (.ref kd),some (.ref x),some (.ref lf),some (.int ((laidT it).length:Nat)),some (.ref D),some (.int ((mtF rows bars ww (laidT it).length (namesOf it)).length:Nat)),none,none]/\Same H15 H') ?_ (fun key=>?_)
 rotate_left
 ·refine ⟨_,rfl,_,rfl,_,rfl,sa,pa,ns,zs,rfl,(s012.trans s1215).seq hS,s1215 _ _ hpa,z0,zl,fun lh2 xs2 H16 s16 nlh2 hlh2 hxs2=>?_⟩
  rw [hit] at hxs2
  refine ⟨lh,lh2,3,.lst (it.map itemD),T',T',rfl,rfl,by decide,Says.lst trivial ((s1215.trans s16) _ _ hlh) (Paired.imp' (fun _ _ z=>z.same (s1215.trans s16)) hxs),Says.lst trivial hlh2 hxs2,_,rfl,?_⟩
  refine iteF ?_
  refine ⟨_,rfl,(by show 0<=sizeLine; decide),fun le hle=>?_⟩
  have s17:=same_new hle (.lst [])
  have s67:=s16.trans s17
  refine ⟨lf,le,vs,rfl,rfl,s67 _ _ hlf15,upd_same,?_⟩
  have sA:=s1215.trans s67
  refine ⟨_,rfl,_,rfl,_,rfl,_,rfl,la,lb,D,(laidT it).length,us,rows,bars,namesOf it,rfl,sA _ _ hla,tats_same sA hu,V1,sA _ _ hlb,s67 _ _ e15,by omega,fun H18 s18=>?_⟩
  refine ⟨rfl,_,rfl,?_⟩
  have eq:(false != vs.isEmpty) = decide (missF rows bars (laidT it).length (namesOf it) = []):=by
   by_cases h0:missF rows bars (laidT it).length (namesOf it) = []
   ·obtain ⟨h1,h2,h3⟩:=mt_zero V1 h0
    have:=hmin.2.2 _ h1 h2
    rw [h3,<- lvs] at this
    have:vs = []:=List.eq_nil_of_length_eq_zero (Nat.le_zero.mp this)
    rw [decide_eq_true h0,this]
    rfl
   ·have:vs ≠ []:=fun e=>by
     rw [e] at lvs
     exact h0 (mt_nil (List.eq_nil_of_length_eq_zero lvs.symm))
    rw [decide_eq_false h0]
    cases vs with
    | nil=>exact absurd rfl this
    | cons a l=>rfl
  refine iteC (by rw [eq,decide_eq_true rfl]; rfl) ?_
  exact key _ _ ⟨rfl,s67.trans s18⟩
 rintro σ H16 ⟨rfl,s16⟩
 have run0:=mends_run (names:=namesOf it) (many:=(laidT it).length) V1 (okw hmin.2.1) hmin.1
 generalize hms:mtF rows bars ww (laidT it).length (namesOf it) = ms at *
 have lms:ms.length<=500:=by
  rw [<- hms]
  unfold mtF
  have h1:=miss_len (rows:=rows) (bars:=bars) (names:=namesOf it) (okw hmin.2.1)
  have h2:ww<=100:=by
   have h2:=hmin.2.1
   have:plN rows<=24:=Nat.le_trans (List.length_filter_le _ _) l24
   unfold mostW at h2
   split at h2 <;> omega
  rw [List.length_append,List.length_append,List.length_replicate,List.length_replicate,List.length_map]
  omega
 have s1216:=s1215.trans s16
 have hlf16:=s16 _ _ hlf15
 have hvs16:=Paired.imp' (fun _ _ z=>z.same (s15.trans s16)) hvs14
 refine pss_go (ps_for PassesOwn.never rfl (pi_list (pv 9)) (pg_name (i:=13) scLaw.nd rfl (Or.inl rfl)) pss_all) ?_
 refine ⟨_,rfl,lf,rfl,⟨_,SqL.of hlf16⟩,for_list (K:=K) (a:=lf) (xs:=vs) (fun i σ H'=>∃ (mm:Nat) (l:Addr) (ns':List Str) (v13:Option V),σ = [some (.ref sa),some (.ref pa),some (.ref la),some (.ref lb),some (.ref lh),some (.ref lt),some (.ref lp),some (.ref kd),some (.ref x),some (.ref lf),some (.int (mm:Nat)),some (.ref l),some (.int (ms.length:Nat)),v13,none]/\Same H16 H'/\l ≠ lf/\H' l = some (.lst (ns'.map V.str))/\ns'.length<=100 + i/\Runs (fun m ns=>missF rows bars m ns = []) (ms.drop i) mm ns') ⟨_,D,_,_,rfl,Same.refl _,nDf,s16 _ _ e15,by omega,run0⟩ (fun i σ H' _ ⟨_,_,_,_,_,s,_⟩=>SqL.of (s _ _ hlf16)) ?_ ?_⟩
 ·rintro i y σ H17 hy ⟨mm,l,ns',v13,rfl,s17,nl,hl,ll,run⟩
  obtain ⟨d,hd,sy⟩:=Paired.get hvs16 hy
  rw [List.getElem?_map] at hd
  obtain ⟨c',hc',rfl⟩:=Option.map_eq_some_iff.mp hd
  obtain ⟨t',rfl,ht'⟩:=says_ch (sy.same s17)
  have hi:i < ms.length:=(List.getElem?_eq_some_iff.mp hc').1
  have ed:ms.drop i = c' :: ms.drop (i + 1):=by rw [List.drop_eq_getElem_cons hi,(List.getElem?_eq_some_iff.mp hc').2]
  rw [ed] at run
  dsimp only [gName]
  refine pss_go (ps_if (pt_not (pt_val (cF cIs hr1 (ac (pv 13) pa_nil)))) (pss_one (ps_ret pe_bl)) pss_nil) ?_
  refine ⟨_,rfl,t',c',rfl,ht',runs_ch run,fun H18' s18'=>?_⟩
  refine ⟨_,rfl,?_⟩
  refine iteF ?_
  refine pss_go (ps_asg (cF cTu hr1 (ac (pv 10) (ac (pv 11) (ac (pv 13) pa_nil)))) (pg_tup rfl (pgs_cons (pg_name (i:=10) scLaw.nd rfl (Or.inl rfl)) (pgs_cons (pg_name (i:=11) scLaw.nd rfl (Or.inl rfl)) pgs_nil)))) ?_
  rcases run with ⟨ec',hm0,run⟩ | ⟨ec',run⟩ | ⟨z,ec',run⟩ | ⟨z,ec',hz,run⟩
  ·refine ⟨_,rfl,_,rfl,_,rfl,mm,l,t',ns',c',rfl,s18' _ _ hl,(s18'.sqT ht'),by omega,.inl ⟨ec',fun u H18 s18 hu'=>?_⟩⟩
   rw [show ((mm:Nat):Int) - 1 = ((mm - 1:Nat):Int) by omega] at hu'
   refine ⟨u,_,rfl,SqT.of hu',rfl,_,_,rfl,_,_,rfl,rfl,?_⟩
   dsimp only [gName]
   refine ⟨_,pss_one (ps_if (pt_cmpR op_lt (pv 10) pe_int (nomark _)) (pss_one (ps_ret pe_bl)) pss_nil),?_⟩
   refine ⟨_,rfl,_,_,rfl,rfl,_,rfl,?_⟩
   refine dF (by show ¬ ((mm - 1:Nat):Int) < 0; omega) ?_
   exact ⟨mm - 1,l,ns',_,rfl,s17.trans (s18'.trans s18),nl,(s18'.trans s18) _ _ hl,by omega,run⟩
  ·refine ⟨_,rfl,_,rfl,_,rfl,mm,l,t',ns',c',rfl,s18' _ _ hl,(s18'.sqT ht'),by omega,.inr (.inl ⟨ec',fun u H18 s18 hu'=>?_⟩)⟩
   rw [show ((mm:Nat):Int) + 1 = ((mm + 1:Nat):Int) by omega] at hu'
   refine ⟨u,_,rfl,SqT.of hu',rfl,_,_,rfl,_,_,rfl,rfl,?_⟩
   dsimp only [gName]
   refine ⟨_,pss_one (ps_if (pt_cmpR op_lt (pv 10) pe_int (nomark _)) (pss_one (ps_ret pe_bl)) pss_nil),?_⟩
   refine ⟨_,rfl,_,_,rfl,rfl,_,rfl,?_⟩
   refine dF (by show ¬ ((mm + 1:Nat):Int) < 0; omega) ?_
   exact ⟨mm + 1,l,ns',_,rfl,s17.trans (s18'.trans s18),nl,(s18'.trans s18) _ _ hl,by omega,run⟩
  ·refine ⟨_,rfl,_,rfl,_,rfl,mm,l,t',ns',c',rfl,s18' _ _ hl,(s18'.sqT ht'),by omega,.inr (.inr (.inl ⟨z,ec',fun u l' H18 s18 nl' hl' hu'=>?_⟩))⟩
   refine ⟨u,_,rfl,SqT.of hu',rfl,_,_,rfl,_,_,rfl,rfl,?_⟩
   dsimp only [gName]
   refine ⟨_,pss_one (ps_if (pt_cmpR op_lt (pv 10) pe_int (nomark _)) (pss_one (ps_ret pe_bl)) pss_nil),?_⟩
   refine ⟨_,rfl,_,_,rfl,rfl,_,rfl,?_⟩
   refine dF (by show ¬ ((mm:Nat):Int) < 0; omega) ?_
   exact ⟨mm,l',ns' ++ [z],_,rfl,s17.trans (s18'.trans s18),(fun e=>by rw [e,(s16.trans (s17.trans s18')) _ _ hlf15] at nl'; cases nl'),hl',by rw [List.length_append]; show ns'.length + 1<=_; omega,run⟩
  ·refine ⟨_,rfl,_,rfl,_,rfl,mm,l,t',ns',c',rfl,s18' _ _ hl,(s18'.sqT ht'),by omega,.inr (.inr (.inr ⟨z,ec',hz,fun u l' j H18 s18 nl' hj hl' hu'=>?_⟩))⟩
   refine ⟨u,_,rfl,SqT.of hu',rfl,_,_,rfl,_,_,rfl,rfl,?_⟩
   dsimp only [gName]
   refine ⟨_,pss_one (ps_if (pt_cmpR op_lt (pv 10) pe_int (nomark _)) (pss_one (ps_ret pe_bl)) pss_nil),?_⟩
   refine ⟨_,rfl,_,_,rfl,rfl,_,rfl,?_⟩
   refine dF (by show ¬ ((mm:Nat):Int) < 0; omega) ?_
   exact ⟨mm,l',ns'.eraseIdx j,_,rfl,s17.trans (s18'.trans s18),(fun e=>by rw [e,(s16.trans (s17.trans s18')) _ _ hlf15] at nl'; cases nl'),hl',Nat.le_trans (List.length_eraseIdx_le ..) (by omega),run j hj⟩
 rintro σ H17 ⟨mm,l,ns',v13,rfl,s17,nl,hl,ll,run⟩
 rw [lvs,List.drop_length] at run
 have run:missF rows bars mm ns' = []:=run
 have hlf17:=s17 _ _ hlf16
 refine pss_go (ps_set (i:=14) scLaw.nd rfl (Or.inl rfl) (cB call_len_seq U.len PySem.boot_len (ac (pv 9) pa_nil))) ?_
 refine ⟨_,rfl,lf,_,rfl,.inl (SqL.of hlf17),?_⟩
 dsimp only [gName]
 refine pss_go (ps_expr (pe_bm0 PySem.F.plainAttrs_list PySem.F.slot_list_clear PySem.F.type_list_clear mt_clear (pv 9))) ?_
 refine ⟨_,rfl,.inl ⟨rfl,_,SqL.of hlf17⟩,lf,vs,rfl,rfl,hlf17,?_⟩
 have s1217:Same H12 (upd H17 lf (.lst [])):=same_upd2 (s1216.trans s17) nlf
 have hl18:upd H17 lf (.lst []) l = some (.lst (ns'.map V.str)):=by rw [upd_ne nl]; exact hl
 generalize upd H17 lf (.lst []) = H18 at s1217 hl18 |-
 refine ⟨_,pss_one (ps_ret (pe_and (cF cFt hr1 (ac (pv 2) (ac (pv 3) (ac (pv 10) (ac (pv 11) pa_nil))))) (pe_one (pe_cmpR op_eq (cB call_len_seq U.len PySem.boot_len (ac (cF cM hr6 (ac (pv 8) (ac (pv 4) pa_nil))) pa_nil)) (pv 14) (nomark _))))),?_⟩
 refine ⟨_,rfl,_,rfl,_,rfl,_,rfl,la,lb,l,mm,us,rows,bars,ns',rfl,s1217 _ _ hla,tats_same s1217 hu,V1,s1217 _ _ hlb,hl18,by omega,fun H19 s19=>?_⟩
 refine ⟨_,rfl,?_⟩
 refine iteB (decide_eq_true run) ?_
 have s1219:=s1217.trans s19
 refine ⟨_,rfl,_,rfl,x,lh,it,rows,bars,rfl,hF.same s1219,l24,l60,hcall.same s1219,ht1,hp1,fun w3 l3 H20 s20 hmin3 ⟨nl3,vs3,hl3,hvs3⟩=>?_⟩
 refine ⟨l3,vs3,rfl,.inl (SqL.of hl3),_,rfl,rfl,?_⟩
 have e3:vs3.length = vs.length:=by
  rw [hvs3.length,List.length_map,lvs,<- hms]
  exact min_len hmin3 hmin
 rw [e3,decide_eq_true rfl]
 exact q _
end
end K32
def PySem.W.Fast.tw9505166943730080705:Unit:=()
def PySem.W.Fast.tw2747719514636279378:Unit:=()
def PySem.W.Fast.tw16646170530552755696:Unit:=()
def PySem.W.Fast.tw14556447938282692111:Unit:=()
def PySem.W.Fast.tw8093163946316257920:Unit:=()
def PySem.W.Fast.tw14508464879754098050:Unit:=()
def PySem.W.Fast.tw6851482427748488115:Unit:=()
def PySem.W.Fast.tw17329985313031813711:Unit:=()
def PySem.W.Fast.tw617934940089746761:Unit:=()
def PySem.W.Fast.tw8019832353397093977:Unit:=()
def PySem.W.Fast.tw6619534207672446695:Unit:=()
def PySem.W.Fast.tw2290154130252147891:Unit:=()
def PySem.W.Fast.tw17307356761074329517:Unit:=()
def PySem.W.Fast.tw13428635432900210772:Unit:=()
def PySem.W.Fast.tw4031826940373691988:Unit:=()
def PySem.W.Fast.tw16106551324615570334:Unit:=()
def PySem.W.Fast.tw9250042763206855614:Unit:=()
def PySem.W.Fast.tw8395884984095350662:Unit:=()
def PySem.W.Fast.tw3066228670534619613:Unit:=()
def PySem.W.Fast.tw7438865165118268476:Unit:=()
def PySem.W.Fast.tw11541106402508283330:Unit:=()
def PySem.W.Fast.tw11157756717599612682:Unit:=()
def PySem.W.Fast.tw11200682929128335364:Unit:=()
def PySem.W.Fast.tw10962121811810981452:Unit:=()
def PySem.W.Fast.tw6180787753687036166:Unit:=()
def PySem.W.Fast.tw7329804052776367066:Unit:=()
def PySem.W.Fast.tw12338204628282125517:Unit:=()
def PySem.W.Fast.tw512565469611560788:Unit:=()
def PySem.W.Fast.tw5338981181897695012:Unit:=()
def PySem.W.Fast.tw9543636831413415559:Unit:=()
def PySem.W.Fast.tw7389767089787400236:Unit:=()
def PySem.W.Fast.tw8256653297163348845:Unit:=()
def PySem.W.Fast.tw4765216774304073014:Unit:=()
def PySem.W.Fast.tw14281761512428055866:Unit:=()
def PySem.W.Fast.tw6224781499225060723:Unit:=()
def PySem.W.Fast.tw4638007261505590252:Unit:=()
def PySem.W.Fast.tw7288866937184958180:Unit:=()
def PySem.W.Fast.tw14151205906971834157:Unit:=()
def PySem.W.Fast.tw16685578623026320771:Unit:=()
def PySem.W.Fast.tw1360043030591680794:Unit:=()
def PySem.W.Fast.tw2268955784189147404:Unit:=()
def PySem.W.Fast.tw9002604197593636101:Unit:=()
def PySem.W.Fast.tw15352029299588727436:Unit:=()
def PySem.W.Fast.tw1295816586999748023:Unit:=()
def PySem.W.Fast.tw15306242887885136216:Unit:=()
def PySem.W.Fast.tw16527528702998928588:Unit:=()
def PySem.W.Fast.tw16621945244878028571:Unit:=()
def PySem.W.Fast.tw10196111253528122220:Unit:=()
def PySem.W.Fast.tw18415269652458486967:Unit:=()
def PySem.W.Fast.tw1670205496426325893:Unit:=()
def PySem.W.Fast.tw16317330104802602761:Unit:=()
def PySem.W.Fast.tw8639158797095860809:Unit:=()
def PySem.W.Fast.tw9660901856988327357:Unit:=()
def PySem.W.Fast.tw2059556429732763073:Unit:=()
def PySem.W.Fast.tw1388641666819925286:Unit:=()
def PySem.W.Fast.tw8383824106601583826:Unit:=()
namespace K32
open PySem L2 PyProof.Rows
theorem ktab_of {w:World} {K:PySem.W.Frag} {Gr:Addr} {es:Array DictEntry} {n:Nat} {t0 t1 t2 t3 t4:Tok} (hl:K.lookup Gr = some ⟨.type "dict",none,.dict es n,#[]⟩) (hk:PySem.W.KeysLit w.params es.toList) (h0:PySem.W.nsIn K Gr "seat" = some (some (.int 0 t0))) (h1:PySem.W.nsIn K Gr "both" = some (some (.int 0 t1))) (h2:PySem.W.nsIn K Gr "tail" = some (some (.int 1 t2)))
  (h3:PySem.W.nsIn K Gr "tag" = some (some (.int 2 t3))) (h4:PySem.W.nsIn K Gr "bag" = some (some (.int 3 t4))):KTab w K Gr grpV:=by
 refine ⟨⟨es,n,hl,hk⟩,fun x v h=>?_⟩
 unfold grpV at h
 by_cases e0:x = "seat"
 ·subst e0; rw [List.lookup_cons_self] at h; cases h; exact ⟨_,h0,_,rfl⟩
 rw [List.lookup_cons,beq_eq_false_iff_ne.mpr e0] at h
 by_cases e1:x = "both"
 ·subst e1; rw [List.lookup_cons_self] at h; cases h; exact ⟨_,h1,_,rfl⟩
 rw [List.lookup_cons,beq_eq_false_iff_ne.mpr e1] at h
 by_cases e2:x = "tail"
 ·subst e2; rw [List.lookup_cons_self] at h; cases h; exact ⟨_,h2,_,rfl⟩
 rw [List.lookup_cons,beq_eq_false_iff_ne.mpr e2] at h
 by_cases e3:x = "tag"
 ·subst e3; rw [List.lookup_cons_self] at h; cases h; exact ⟨_,h3,_,rfl⟩
 rw [List.lookup_cons,beq_eq_false_iff_ne.mpr e3] at h
 by_cases e4:x = "bag"
 ·subst e4; rw [List.lookup_cons_self] at h; cases h; exact ⟨_,h4,_,rfl⟩
 rw [List.lookup_cons,beq_eq_false_iff_ne.mpr e4] at h
 cases h
theorem all_mk {l:PySem.W.OpenLaw} {w:World} {K:PySem.W.Frag} {h:Heap} {mg:Str->Option Value} {fa D C0 C1 C2 C3 C4 FM f1 f2 f3 f4 f5 f6 f7 f8 f9 f10 f11 f12 f13 f14 f15 f16 f17 f18 f19 f20 f21 f22 f23 f24 f25 f26 f27 f28 f29 f30 f31 f32 f33 f34 f35 f36 f37 f38 f39 f40 f41 f42 f43 f44 f45 f46 f47 f48 f49 f50 f51 f52 f53 f54:Addr} {e1 e2 e3 e4 e5 e6 e7 e8 e9 e10 e11 e12 e13 e14 e15 e16 e17 e18 e19 e20 e21 e22 e23 e24 e25 e26 e27 e28 e29 e30 e31 e32 e33 e34 e35 e36 e37 e38 e39 e40 e41 e42 e43 e44 e45 e46 e47 e48 e49 e50 e51 e52 e53 e54:FuncData} {tP tB tO sg Gr:Addr} {tL tN tMP tMB ktP0 ktP1 ktB0 ktB1 ktO0 ktO1 ktO2 ksg0 ksg1 kG0 kG1 kG2 kG3 kG4:Tok} {odtP odtB odtO odsg:Option Addr} {ntP ntB ntO nsg nG:Nat} {sltP sltB sltO slsg:Array (Option Value)} {esG:Array DictEntry} (X:K.In h) (G:h.Ns mainGlobals mg) (hfa:mg "law" = some (.ref fa))
  (cD:CD K "Parameter" D)
  (cC0:CD K "Seat" C0)
  (nC0:PySem.W.findIn K (.ref C0) "word" = some none/\PySem.W.findIn K (.ref C0) "name" = some none/\PySem.W.findIn K (.ref C0) "may_lack" = some none)
  (cC1:CD K "Both" C1)
  (nC1:PySem.W.findIn K (.ref C1) "word" = some none/\PySem.W.findIn K (.ref C1) "name" = some none/\PySem.W.findIn K (.ref C1) "may_lack" = some none)
  (cC2:CD K "Tail" C2)
  (nC2:PySem.W.findIn K (.ref C2) "word" = some none/\PySem.W.findIn K (.ref C2) "name" = some none/\PySem.W.findIn K (.ref C2) "may_lack" = some none)
  (cC3:CD K "Tag" C3)
  (nC3:PySem.W.findIn K (.ref C3) "word" = some none/\PySem.W.findIn K (.ref C3) "name" = some none/\PySem.W.findIn K (.ref C3) "may_lack" = some none)
  (cC4:CD K "Bag" C4)
  (nC4:PySem.W.findIn K (.ref C4) "word" = some none/\PySem.W.findIn K (.ref C4) "name" = some none/\PySem.W.findIn K (.ref C4) "may_lack" = some none)
  (cFM:CD K "Form" FM)
  (nFM:PySem.W.findIn K (.ref FM) "row" = some none/\PySem.W.findIn K (.ref FM) "bar_names" = some none/\PySem.W.findIn K (.ref FM) "place_count" = some none/\PySem.W.findIn K (.ref FM) "tail_number" = some none/\PySem.W.findIn K (.ref FM) "bag_number" = some none/\PySem.W.findIn K (.ref FM) "doors" = some none)
  (g1:GD K "is_name" sIs f1 e1)
  (g2:MD K D "__init__" "Parameter.__init__" sPInit f2 e2)
  (g3:MD K D "free" "Parameter.free" sFree f3 e3)
  (g4:MD K D "by_place" "Parameter.by_place" sByPlace f4 e4)
  (g5:MD K D "by_name" "Parameter.by_name" sByName f5 e5)
  (g6:MD K D "takes_one" "Parameter.takes_one" sTakes f6 e6)
  (g7:MD K D "told" "Parameter.told" sTold f7 e7)
  (g8:DD K C0 "__init__" "Seat.__init__" sSeat f8 e8 [Value.bool false])
  (g9:DD K C1 "__init__" "Both.__init__" sBoth f9 e9 [Value.bool false])
  (g10:MD K C2 "__init__" "Tail.__init__" sTail f10 e10)
  (g11:DD K C3 "__init__" "Tag.__init__" sTag f11 e11 [Value.bool false])
  (g12:MD K C4 "__init__" "Bag.__init__" sBag f12 e12)
  (g13:DD K FM "__init__" "Form.__init__" sFInit f13 e13 [Value.none])
  (g14:MD K FM "keep" "Form.keep" sKeep f14 e14)
  (g15:MD K FM "parameters" "Form.parameters" sFPars f15 e15)
  (g16:MD K FM "bars" "Form.bars" sFBars f16 e16)
  (g17:MD K FM "places" "Form.places" sFPlaces f17 e17)
  (g18:MD K FM "tail" "Form.tail" sFTail f18 e18)
  (g19:MD K FM "bag" "Form.bag" sFBag f19 e19)
  (g20:MD K FM "number_of" "Form.number_of" sFNum f20 e20)
  (g21:MD K FM "told" "Form.told" sFTold f21 e21)
  (g22:GD K "parameter_of" sPof f22 e22)
  (g23:GD K "refuse_too_many" sRMany f23 e23)
  (g24:GD K "refuse_bad_order" sROrder f24 e24)
  (g25:GD K "refuse_bars_without_name" sRBars f25 e25)
  (g26:GD K "refuse_twice" sRTwice f26 e26)
  (g27:GD K "number_of_word" sNumW f27 e27)
  (g28:GD K "laid" sLaid f28 e28)
  (g29:GD K "shape" sShape f29 e29)
  (g30:GD K "first_numbers" sFirsts f30 e30)
  (g31:GD K "misfits_of" sMOf f31 e31)
  (g32:GD K "overs" sOvers f32 e32)
  (g33:GD K "unwelcomes" sUnw f33 e33)
  (g34:GD K "lackings" sLack f34 e34)
  (g35:GD K "one_entry" sOneE f35 e35)
  (g36:GD K "fewest_by_place" sFewest f36 e36)
  (g37:GD K "nearest" sNearest f37 e37)
  (g38:GD K "mends" sMends f38 e38)
  (g39:GD K "wanted_numbers" sWanted f39 e39)
  (g40:GD K "mends_to" sMTo f40 e40)
  (g41:GD K "_law_nth" sNth f41 e41)
  (g42:GD K "_law_is_number" sNum f42 e42)
  (g43:GD K "_law_mix" sMix f43 e43)
  (g44:GD K "_law_pool" sPool f44 e44)
  (g45:GD K "_law_specs" sSpecs f45 e45)
  (g46:GD K "_law_bars" sBars f46 e46)
  (g47:GD K "_law_thing" sThing f47 e47)
  (g48:GD K "_law_items" sItems f48 e48)
  (g49:GD K "_law_laid" sLaid2 f49 e49)
  (g50:GD K "_law_fits" sLFits f50 e50)
  (g51:GD K "_law_turned" sTurned f51 e51)
  (g52:GD K "_law_is_change" sIsCh f52 e52)
  (g53:GD K "_law_handed" sHanded f53 e53)
  (g54:GD K "law" sLaw f54 e54)
  (zisinstance:PySem.W.nsIn K mainGlobals "isinstance" = some none)
  (zstr:PySem.W.nsIn K mainGlobals "str" = some none)
  (zbool:PySem.W.nsIn K mainGlobals "bool" = some none)
  (zlen:PySem.W.nsIn K mainGlobals "len" = some none)
  (zall:PySem.W.nsIn K mainGlobals "all" = some none)
  (zrange:PySem.W.nsIn K mainGlobals "range" = some none)
  (zlist:PySem.W.nsIn K mainGlobals "list" = some none)
  (zenumerate:PySem.W.nsIn K mainGlobals "enumerate" = some none)
  (zset:PySem.W.nsIn K mainGlobals "set" = some none)
  (zmin:PySem.W.nsIn K mainGlobals "min" = some none)
  (zmax:PySem.W.nsIn K mainGlobals "max" = some none)
  (zint:PySem.W.nsIn K mainGlobals "int" = some none)
  (ztuple:PySem.W.nsIn K mainGlobals "tuple" = some none)
  (zzip:PySem.W.nsIn K mainGlobals "zip" = some none)
  (zreversed:PySem.W.nsIn K mainGlobals "reversed" = some none)
  (gL:PySem.W.nsIn K mainGlobals "LETTERS" = some (some (.str letters tL)))
  (gN:PySem.W.nsIn K mainGlobals "LONGEST" = some (some (.int 8 tN)))
  (gMP:PySem.W.nsIn K mainGlobals "MOST_PARAMETERS" = some (some (.int 24 tMP)))
  (gMB:PySem.W.nsIn K mainGlobals "MOST_BARS" = some (some (.int 60 tMB)))
  (ytP:PySem.W.nsIn K mainGlobals "BY_PLACE" = some (some (.ref tP)))
  (utP:K.lookup tP = some ⟨.type "tuple",odtP,.seq #[.str "seat" ktP0,.str "both" ktP1] ntP,sltP⟩)
  (ytB:PySem.W.nsIn K mainGlobals "BY_NAME" = some (some (.ref tB)))
  (utB:K.lookup tB = some ⟨.type "tuple",odtB,.seq #[.str "both" ktB0,.str "tag" ktB1] ntB,sltB⟩)
  (ytO:PySem.W.nsIn K mainGlobals "OF_ONE_THING" = some (some (.ref tO)))
  (utO:K.lookup tO = some ⟨.type "tuple",odtO,.seq #[.str "seat" ktO0,.str "both" ktO1,.str "tag" ktO2] ntO,sltO⟩)
  (ysg:PySem.W.nsIn K mainGlobals "SINGLE_GROUPS" = some (some (.ref sg)))
  (usg:K.lookup sg = some ⟨.type "tuple",odsg,.seq #[.int 1 ksg0,.int 3 ksg1] nsg,slsg⟩)
  (yGr:PySem.W.nsIn K mainGlobals "GROUPS" = some (some (.ref Gr)))
  (lGr:K.lookup Gr = some ⟨.type "dict",none,.dict esG nG,#[]⟩)
  (kGr:PySem.W.KeysLit w.params esG.toList)
  (eG0:PySem.W.nsIn K Gr "seat" = some (some (.int 0 kG0)))
  (eG1:PySem.W.nsIn K Gr "both" = some (some (.int 0 kG1)))
  (eG2:PySem.W.nsIn K Gr "tail" = some (some (.int 1 kG2)))
  (eG3:PySem.W.nsIn K Gr "tag" = some (some (.int 2 kG3)))
  (eG4:PySem.W.nsIn K Gr "bag" = some (some (.int 3 kG4)))
  (dga:ClsFn K D "__init__" f2)
  (h0:PySem.W.findIn K (.ref C0) "free" = some (some (.ref f3))/\PySem.W.findIn K (.ref C0) "by_place" = some (some (.ref f4))/\PySem.W.findIn K (.ref C0) "by_name" = some (some (.ref f5))/\PySem.W.findIn K (.ref C0) "takes_one" = some (some (.ref f6))/\PySem.W.findIn K (.ref C0) "told" = some (some (.ref f7)))
  (h1:PySem.W.findIn K (.ref C1) "free" = some (some (.ref f3))/\PySem.W.findIn K (.ref C1) "by_place" = some (some (.ref f4))/\PySem.W.findIn K (.ref C1) "by_name" = some (some (.ref f5))/\PySem.W.findIn K (.ref C1) "takes_one" = some (some (.ref f6))/\PySem.W.findIn K (.ref C1) "told" = some (some (.ref f7)))
  (h2:PySem.W.findIn K (.ref C2) "free" = some (some (.ref f3))/\PySem.W.findIn K (.ref C2) "by_place" = some (some (.ref f4))/\PySem.W.findIn K (.ref C2) "by_name" = some (some (.ref f5))/\PySem.W.findIn K (.ref C2) "takes_one" = some (some (.ref f6))/\PySem.W.findIn K (.ref C2) "told" = some (some (.ref f7)))
  (h3:PySem.W.findIn K (.ref C3) "free" = some (some (.ref f3))/\PySem.W.findIn K (.ref C3) "by_place" = some (some (.ref f4))/\PySem.W.findIn K (.ref C3) "by_name" = some (some (.ref f5))/\PySem.W.findIn K (.ref C3) "takes_one" = some (some (.ref f6))/\PySem.W.findIn K (.ref C3) "told" = some (some (.ref f7)))
  (h4:PySem.W.findIn K (.ref C4) "free" = some (some (.ref f3))/\PySem.W.findIn K (.ref C4) "by_place" = some (some (.ref f4))/\PySem.W.findIn K (.ref C4) "by_name" = some (some (.ref f5))/\PySem.W.findIn K (.ref C4) "takes_one" = some (some (.ref f6))/\PySem.W.findIn K (.ref C4) "told" = some (some (.ref f7)))
  : ∃ fd:FuncData,(∀ (s:Shared) (v:Value),BindsTo s fd ⟨[v],[]⟩ [("_law_script",v)])/\∀ base:Heap,K.In base->base.Ns mainGlobals mg->FnOk l.prog w K mg base CX0 8 fa fd ["_law_script"] (spLawB K):=by
 have e:=hfa.symm.trans (PySem.W.mg_of X G g54.a)
 cases e
 have no:∀ {x:Str},PySem.W.nsIn K mainGlobals x = some none->mg x = none:=fun z=>PySem.W.mg_none_of X G z
 have T:Txt1 K mg:=⟨no zisinstance,no zstr,no zbool,no zlen,no zall,no zrange,⟨tL,PySem.W.mg_of X G gL⟩,⟨tN,PySem.W.mg_of X G gN⟩,kt_NoneType_str K,kt_int_str K,kt_bool_str K,kt_list_str K,kt_tuple_str K,kt_dict_str K,kt_str_str K,kt_bool_bool K⟩
 have Wd:Wds K mg tP tB tO:=⟨PySem.W.mg_of X G ytP,PySem.W.mg_of X G ytB,PySem.W.mg_of X G ytO,fun H=>.inr ⟨_,_,_,utP,rfl,rfl,(by show 2<=sizeLine; decide),.cons ⟨_,rfl⟩ (.cons ⟨_,rfl⟩ (.nil))⟩,fun H=>.inr ⟨_,_,_,utB,rfl,rfl,(by show 2<=sizeLine; decide),.cons ⟨_,rfl⟩ (.cons ⟨_,rfl⟩ (.nil))⟩,fun H=>.inr ⟨_,_,_,utO,rfl,rfl,(by show 3<=sizeLine; decide),.cons ⟨_,rfl⟩ (.cons ⟨_,rfl⟩ (.cons ⟨_,rfl⟩ (.nil)))⟩⟩
 have TF:TxtF w K mg Gr sg:=⟨no zlen,no zenumerate,no zlist,no zset,⟨tMP,PySem.W.mg_of X G gMP⟩,⟨tMB,PySem.W.mg_of X G gMB⟩,PySem.W.mg_of X G yGr,ktab_of lGr kGr eG0 eG1 eG2 eG3 eG4,PySem.W.mg_of X G ysg,fun H=>.inr ⟨_,_,_,usg,rfl,rfl,(by show 2<=sizeLine; decide),.cons ⟨_,rfl⟩ (.cons ⟨_,rfl⟩ .nil)⟩⟩
 have pc0:PC K ⟨f3,f4,f5,f6,f7⟩ C0:=⟨cC0.c,nC0.1,nC0.2.1,nC0.2.2,⟨h0.1,g3.m.fn,g3.F.kp⟩,⟨h0.2.1,g4.m.fn,g4.F.kp⟩,⟨h0.2.2.1,g5.m.fn,g5.F.kp⟩,⟨h0.2.2.2.1,g6.m.fn,g6.F.kp⟩,⟨h0.2.2.2.2,g7.m.fn,g7.F.kp⟩⟩
 have pc1:PC K ⟨f3,f4,f5,f6,f7⟩ C1:=⟨cC1.c,nC1.1,nC1.2.1,nC1.2.2,⟨h1.1,g3.m.fn,g3.F.kp⟩,⟨h1.2.1,g4.m.fn,g4.F.kp⟩,⟨h1.2.2.1,g5.m.fn,g5.F.kp⟩,⟨h1.2.2.2.1,g6.m.fn,g6.F.kp⟩,⟨h1.2.2.2.2,g7.m.fn,g7.F.kp⟩⟩
 have pc2:PC K ⟨f3,f4,f5,f6,f7⟩ C2:=⟨cC2.c,nC2.1,nC2.2.1,nC2.2.2,⟨h2.1,g3.m.fn,g3.F.kp⟩,⟨h2.2.1,g4.m.fn,g4.F.kp⟩,⟨h2.2.2.1,g5.m.fn,g5.F.kp⟩,⟨h2.2.2.2.1,g6.m.fn,g6.F.kp⟩,⟨h2.2.2.2.2,g7.m.fn,g7.F.kp⟩⟩
 have pc3:PC K ⟨f3,f4,f5,f6,f7⟩ C3:=⟨cC3.c,nC3.1,nC3.2.1,nC3.2.2,⟨h3.1,g3.m.fn,g3.F.kp⟩,⟨h3.2.1,g4.m.fn,g4.F.kp⟩,⟨h3.2.2.1,g5.m.fn,g5.F.kp⟩,⟨h3.2.2.2.1,g6.m.fn,g6.F.kp⟩,⟨h3.2.2.2.2,g7.m.fn,g7.F.kp⟩⟩
 have pc4:PC K ⟨f3,f4,f5,f6,f7⟩ C4:=⟨cC4.c,nC4.1,nC4.2.1,nC4.2.2,⟨h4.1,g3.m.fn,g3.F.kp⟩,⟨h4.2.1,g4.m.fn,g4.F.kp⟩,⟨h4.2.2.1,g5.m.fn,g5.F.kp⟩,⟨h4.2.2.2.1,g6.m.fn,g6.F.kp⟩,⟨h4.2.2.2.2,g7.m.fn,g7.F.kp⟩⟩
 have PP:Pcs K ⟨f3,f4,f5,f6,f7⟩ ⟨C0,C1,C2,C3,C4⟩:=fun k hk=>by
  rcases lt5 hk with rfl | rfl | rfl | rfl | rfl
  ·exact pc0
  ·exact pc1
  ·exact pc2
  ·exact pc3
  ·exact pc4
 have FK:FC K FM:=⟨cFM.c,nFM.1,nFM.2.1,nFM.2.2.1,nFM.2.2.2.1,nFM.2.2.2.2.1,nFM.2.2.2.2.2⟩
 have UL:TxtL mg:=⟨no zisinstance,no zint,no zlen,no zrange,no zlist,no zzip,no zmax⟩
 have UM:TxtM mg:=⟨no zmax,no zlist,no zrange,no zmin,no zlen⟩
 refine ⟨_,g54.law,fun base KB GB=>?_⟩
 have B:TB l.prog w K mg base:=⟨fun e=>PySem.W.mg_of X G e⟩
 have cI:=g1.c1 B (ok_is g1.F T)
 have GP:FnOk l.prog w K mg base CX0 2 f2 _ ["self","word","name","may_lack"] (spP K ⟨f3,f4,f5,f6,f7⟩):=ok_pinit g2.F cI
 have mD:=PySem.W.mg_of X G cD.a
 have UC:Ctors l.prog w K mg base ⟨C0,C1,C2,C3,C4⟩ f8 f9 f10 f11 f12 _ _ _ _ _:=⟨⟨⟨cC0.ms,g8.m.at_,g8.m.fn,cC0.kc⟩,ok_seat g8.F pc0 dga mD GP g2.F.b4,PySem.W.mg_of X G cC0.a,g8.b0⟩,⟨⟨cC1.ms,g9.m.at_,g9.m.fn,cC1.kc⟩,ok_both g9.F pc1 dga mD GP g2.F.b4,PySem.W.mg_of X G cC1.a,g9.b0⟩,⟨⟨cC2.ms,g10.m.at_,g10.m.fn,cC2.kc⟩,ok_tail g10.F pc2 dga mD GP g2.F.b4,PySem.W.mg_of X G cC2.a,g10.F.b2⟩,⟨⟨cC3.ms,g11.m.at_,g11.m.fn,cC3.kc⟩,ok_tag g11.F pc3 dga mD GP g2.F.b4,PySem.W.mg_of X G cC3.a,g11.b0⟩,⟨⟨cC4.ms,g12.m.at_,g12.m.fn,cC4.kc⟩,ok_bag g12.F pc4 dga mD GP g2.F.b4,PySem.W.mg_of X G cC4.a,g12.F.b2⟩⟩
 have GF:FnOk l.prog w K mg base CX0 1 f3 _ ["self"] (spFree K ⟨f3,f4,f5,f6,f7⟩):=ok_free g3.F
 have GQ:FnOk l.prog w K mg base CX0 1 f4 _ ["self"] (spIn K ⟨f3,f4,f5,f6,f7⟩ bpL):=ok_by_place g4.F Wd
 have GN:FnOk l.prog w K mg base CX0 1 f5 _ ["self"] (spIn K ⟨f3,f4,f5,f6,f7⟩ bnL):=ok_by_name g5.F Wd
 have cM1:=g23.c2 B (ok_many g23.F TF)
 have cM2:=g24.c1 B (ok_order g24.F TF PP)
 have cM3:=g25.c1 B (ok_rbars g25.F cI)
 have cM4:=g26.c2 B (ok_twice g26.F TF PP GN g5.F.b1)
 have cW:=g27.c2 B (ok_numw g27.F TF PP)
 have GK:=ok_keep g14.F TF PP FK cW GQ g4.F.b1 GN g5.F.b1
 have GI:=ok_finit g13.F FK g14.m cM1 cM2 cM3 cM4 GK (g14.F.b3)
 have Gpa:FnOk l.prog w K mg base CX0 1 f15 _ ["self"] (spPars ⟨C0,C1,C2,C3,C4⟩ FM):=ok_fpars g15.F TF FK
 have Gba:FnOk l.prog w K mg base CX0 1 f16 _ ["self"] (spBars ⟨C0,C1,C2,C3,C4⟩ FM):=ok_fbars g16.F TF FK
 have Gpl:FnOk l.prog w K mg base CX0 1 f17 _ ["self"] (spPlaces ⟨C0,C1,C2,C3,C4⟩ FM):=ok_fplaces g17.F FK
 have Gta:FnOk l.prog w K mg base CX0 1 f18 _ ["self"] (spWord ⟨C0,C1,C2,C3,C4⟩ FM 2):=ok_ftail g18.F FK
 have Gbg:FnOk l.prog w K mg base CX0 1 f19 _ ["self"] (spWord ⟨C0,C1,C2,C3,C4⟩ FM 4):=ok_fbag g19.F FK
 have Gnu:FnOk l.prog w K mg base CX0 1 f20 _ ["self","name"] (spNum ⟨C0,C1,C2,C3,C4⟩ FM):=ok_fnum g20.F FK
 have cL:=g28.c1 B (ok_laid g28.F)
 have cSh:=g29.c1 B (ok_shape g29.F (no zlen) cL)
 have cFn:=g30.c1 B (ok_firsts g30.F (no zenumerate))
 have cOv:=g32.c2 B (ok_overs g32.F (no zrange) FK g18.m Gta (g18.F.b1) g17.m Gpl (g17.F.b1))
 have cUn:=g33.c3 B (ok_unw g33.F (no zset) FK g16.m Gba (g16.F.b1) g20.m Gnu (g20.F.b2) g19.m Gbg (g19.F.b1) g17.m Gpl (g17.F.b1))
 have cEn:=g35.c4 B (ok_oneE g35.F PP GQ g4.F.b1 GN g5.F.b1)
 have cLa:=g34.c3 B (ok_lacks g34.F (no zenumerate) PP FK g15.m Gpa (g15.F.b1) GF g3.F.b1 cEn)
 have cMo:=g31.c3 B (ok_mof g31.F (no zenumerate) cFn cOv cUn cLa)
 have cPf:=g22.c1 B (ok_pof g22.F UC)
 have cFw:=g36.c2 B (ok_few g36.F (no zrange) (no zreversed) FK PP g15.m Gpa (g15.F.b1) g17.m Gpl (g17.F.b1) GN g5.F.b1 GF g3.F.b1)
 have cWn:=g39.c2 B (ok_wanted g39.F UM FK PP cFw g15.m Gpa (g15.F.b1) g17.m Gpl (g17.F.b1) g18.m Gta (g18.F.b1) GN g5.F.b1)
 have cMt:=g40.c4 B (ok_mto g40.F FK PP cMo g15.m Gpa (g15.F.b1))
 have cMe:=g38.c2 B (ok_mends g38.F UM cSh cWn cMt)
 have cNe:=g37.c2 B (ok_near g37.F (no zlen) cMe)
 have cN:=g41.c2 B (ok_nthD g41.F UL)
 have cNu:=g42.c1 B (ok_num g42.F UL)
 have cMx:=g43.c2 B (ok_mix g43.F)
 have cPo:=g44.c1 B (ok_pool g44.F UL cMx)
 have cSp:=g45.c2 B (ok_specs g45.F UL)
 have cBa:=g46.c3 B (ok_lbars g46.F UL)
 have cTh:=g47.c1 B (ok_thing g47.F)
 have cIt:=g48.c2 B (ok_items g48.F UL cTh)
 have cL2:=g49.c1 B (ok_laid2 g49.F)
 have cFt:=g50.c4 B (ok_lfits g50.F ⟨no zlen,no zset,no zrange⟩)
 have cTu:=g51.c3 B (ok_turn g51.F ⟨no zlen,no zmax,no zrange⟩)
 have cIs:=g52.c1 B (ok_isch g52.F ⟨no zisinstance,no ztuple,no zstr,no zall,no zlen⟩)
 have cHa:=g53.c2 B (ok_hand g53.F (no zrange) cIt cN cTh)
 exact ok_law g54.F ⟨no zlen,no zisinstance,no zlist,no zrange⟩ cN cPo cSp cBa cHa cL2 (PySem.W.mg_of X G cFM.a) ⟨cFM.ms,g13.m.at_,g13.m.fn,cFM.kc⟩ GI g13.b0 cPf cMe cNe cNu cFt cTu cIs
theorem walk {l:PySem.W.OpenLaw} {q:Program} {loose:List Str} {XP:(Str->Option Value)->Heap->Prop} {YP:World->Heap->Prop} {d:DefRec} {K:Params->PySem.W.Frag} (hn:l.most = some 63) (hdf:d.params.defaults = [])
  (hY:∀ (w:World) (h:Heap),YP w h->(K w.params).In h)
  (F:∀ (w:World) (mg:Str->Option Value) (fa:Addr) (h:Heap),(K w.params).In h->h.Ns mainGlobals mg->mg d.name = some (.ref fa)->
   ∃ fd:FuncData,(∀ (s:Shared) (u:Value),BindsTo s fd ⟨[u],[]⟩ [("_law_script",u)])/\∀ base:Heap,(K w.params).In base->base.Ns mainGlobals mg->FnOk l.prog w (K w.params) mg base CX0 8 fa fd ["_law_script"] (spLawB (K w.params))) :
  PySem.W.WalkO q loose XP YP l.row.toRowW d [] (fun f vs=>PySem.call f vs):=
 L2.walk_ofB (n:=63) (k:=8) (x:="_law_script") (CX:=fun _=>CX0) (sp:=fun w=>spLawB (K w.params)) hn (by decide) hdf ⟨rfl,by decide,by decide⟩ hY F (fun _ _ a ns hl hb _ hS=>⟨a,ns,rfl,hS,hl,hb,fun _=>rfl⟩) fun _ _ _ _ _ z=>z
end K32
open PySem PySem.W PyProof.Rows
set_option maxRecDepth 100000 in
set_option maxHeartbeats 0 in
theorem PySem.Challenge.cw_callbinds_k32_mends_lead_holds : PySem.Challenge.rw_callbinds_k32_mends_lead.Holds := by
 w_on; o_law; k_head; (case hw => w_witness2)
 k_fill
 refine K32.walk (l := PySem.Challenge.rw_callbinds_k32_mends_lead) rfl rfl (fun w h Y => PySem.W.kIn_of Y) ?F
 case F =>
  intro w mg fa h KX G hmg
  refine' K32.all_mk KX G hmg ?cD ?cC0 ?nC0 ?cC1 ?nC1 ?cC2 ?nC2 ?cC3 ?nC3 ?cC4 ?nC4 ?cFM ?nFM ?g1 ?g2 ?g3 ?g4 ?g5 ?g6 ?g7 ?g8 ?g9 ?g10 ?g11 ?g12 ?g13 ?g14 ?g15 ?g16 ?g17 ?g18 ?g19 ?g20 ?g21 ?g22 ?g23 ?g24 ?g25 ?g26 ?g27 ?g28 ?g29 ?g30 ?g31 ?g32 ?g33 ?g34 ?g35 ?g36 ?g37 ?g38 ?g39 ?g40 ?g41 ?g42 ?g43 ?g44 ?g45 ?g46 ?g47 ?g48 ?g49 ?g50 ?g51 ?g52 ?g53 ?g54 ?zisinstance ?zstr ?zbool ?zlen ?zall ?zrange ?zlist ?zenumerate ?zset ?zmin ?zmax ?zint ?ztuple ?zzip ?zreversed ?gL ?gN ?gMP ?gMB ?ytP ?utP ?ytB ?utB ?ytO ?utO ?ysg ?usg ?yGr ?lGr ?kGr ?eG0 ?eG1 ?eG2 ?eG3 ?eG4 ?dga ?h0 ?h1 ?h2 ?h3 ?h4
  (case cD | cC0 => apply L2.cd_mk <;> k_is)
  (case nC0 => exact ⟨by k_is, by k_is, by k_is⟩)
  (case cC1 => apply L2.cd_mk <;> k_is)
  (case nC1 => exact ⟨by k_is, by k_is, by k_is⟩)
  (case cC2 => apply L2.cd_mk <;> k_is)
  (case nC2 => exact ⟨by k_is, by k_is, by k_is⟩)
  (case cC3 => apply L2.cd_mk <;> k_is)
  (case nC3 => exact ⟨by k_is, by k_is, by k_is⟩)
  (case cC4 => apply L2.cd_mk <;> k_is)
  (case nC4 => exact ⟨by k_is, by k_is, by k_is⟩)
  (case cFM => apply L2.cd_mk <;> k_is)
  (case nFM => exact ⟨by k_is, by k_is, by k_is, by k_is, by k_is, by k_is⟩)
  (case g1 => apply L2.gd_mk <;> k_is)
  (case g2 | g3 | g4 | g5 | g6 | g7 => apply L2.md_mk <;> k_is)
  (case g8 | g9 => apply L2.dd_mk <;> k_is)
  (case g10 => apply L2.md_mk <;> k_is)
  (case g11 => apply L2.dd_mk <;> k_is)
  (case g12 => apply L2.md_mk <;> k_is)
  (case g13 => apply L2.dd_mk <;> k_is)
  (case g14 | g15 | g16 | g17 | g18 | g19 | g20 | g21 => apply L2.md_mk <;> k_is)
  (case g22 | g23 | g24 | g25 | g26 | g27 | g28 | g29 | g30 | g31 | g32 | g33 | g34 | g35 | g36 | g37 | g38 | g39 | g40 | g41 | g42 | g43 | g44 | g45 | g46 | g47 | g48 | g49 | g50 | g51 | g52 | g53 | g54 => apply L2.gd_mk <;> k_is)
  (case zisinstance | zstr | zbool | zlen | zall | zrange | zlist | zenumerate | zset | zmin | zmax | zint | ztuple | zzip | zreversed | gL | gN | gMP | gMB | ytP | utP | ytB | utB | ytO | utO | ysg | usg | yGr | lGr => k_is)
  (case kGr => k_keys)
  (case eG0 | eG1 | eG2 | eG3 | eG4 => k_is)
  (case dga => exact ⟨by k_is, by k_is, by k_is, by k_is⟩)
  (case h0 | h1 | h2 | h3 | h4 => exact ⟨by k_is, by k_is, by k_is, by k_is, by k_is⟩)
#print axioms PySem.Challenge.cw_callbinds_k32_mends_lead_holds
