import PyProof.Rows.All
import Wide.All
import OpenK.AllK
import Wide.FinOn
import Lean
import PyProof.EqAt
import PyProof.EqKinds
import PyProof.TupleCall
import KE.KTryMore
import PyProof.ExcAttrAll.ValueError
import KE.KRevIter
import PyProof.SetNew
import PyProof.SetRoads
import PyProof.Rows.SetObj
import PyProof.DictCompW
import PyProof.DictItems
import PyProof.Rows.SetFrom
import PyProof.ListRange
import PyProof.Rows.Range3
import KE.IntBitsLaws
import PyProof.AttrMissHeap
import PyProof.FactsAll.bool_1
import KE.KDictOf
import PyProof.WalkInts
import PyProof.CollectIter
import KE.RegKIsAll
import KE.RegKTryMore
import PySem.Challenge.RW_callbinds_k52_moves_done
set_option Elab.async false
set_option linter.all false
set_option maxRecDepth 100000
set_option maxHeartbeats 4000000
namespace L2
open PySem PySem.Spec PyProof.Rows
abbrev Key:=Sum Int Str
def keyIs:Key->Value->Bool
 | .inl k,v=>Value.isInt k v
 | .inr x,v=>Value.isStrOf x v
def keyH (w:World):Key->Int
 | .inl k=>hashInt k
 | .inr x=>hashStr w x
theorem keyIs_shape:∀ {k:Key} {v:Value},keyIs k v = true->(∃ i t,k = Sum.inl i/\v = Value.int i t)\/(∃ x t,k = Sum.inr x/\v = Value.str x t)
 | .inl i,v,h=>by
  obtain ⟨t,e⟩:=Value.isInt_shape (k:=i) (v:=v) h
  exact .inl ⟨i,t,rfl,e⟩
 | .inr x,v,h=>by
  obtain ⟨t,e⟩:=Value.isStrOf_shape (x:=x) (v:=v) h
  exact .inr ⟨x,t,rfl,e⟩
theorem keyIs_int (i:Int) (t:Tok):keyIs (.inl i) (.int i t) = true:=by simp [keyIs,Value.isInt]
theorem keyIs_str (x:Str) (t:Tok):keyIs (.inr x) (.str x t) = true:=by simp [keyIs,Value.isStrOf]
theorem key_ll (a b:Int):decide ((Sum.inl a:Key) = Sum.inl b) = (a == b):=by
 by_cases e:a = b
 ·subst e; simp
 ·have h:¬ (Sum.inl a:Key) = Sum.inl b:=fun q=>e (Sum.inl.inj q)
  rw [decide_eq_false h]
  exact (beq_eq_false_iff_ne.mpr e).symm
theorem key_rr (a b:Str):decide ((Sum.inr a:Key) = Sum.inr b) = decide (a = b):=by
 by_cases e:a = b
 ·subst e; simp
 ·have h:¬ (Sum.inr a:Key) = Sum.inr b:=fun q=>e (Sum.inr.inj q)
  rw [decide_eq_false h,decide_eq_false e]
theorem key_lr (a:Int) (b:Str):decide ((Sum.inl a:Key) = Sum.inr b) = false:=decide_eq_false (fun q=>nomatch q)
theorem key_rl (a:Str) (b:Int):decide ((Sum.inr a:Key) = Sum.inl b) = false:=decide_eq_false (fun q=>nomatch q)
def mixKind (prog:Program) (w:World):PySem.KeyKind prog w Key where
 is:=keyIs
 hash:=keyH w
 inj:=fun v a b ha hb=>by
  rcases keyIs_shape ha with ⟨i,t,rfl,rfl⟩ | ⟨x,t,rfl,rfl⟩
  ·rcases keyIs_shape hb with ⟨j,u,rfl,e⟩ | ⟨y,u,rfl,e⟩
   ·injection e with e1 _; rw [e1]
   ·exact nomatch e
  ·rcases keyIs_shape hb with ⟨j,u,rfl,e⟩ | ⟨y,u,rfl,e⟩
   ·exact nomatch e
   ·injection e with e1 _; rw [e1]
 byValue:=fun k v h=>by
  rcases keyIs_shape h with ⟨i,t,rfl,rfl⟩ | ⟨x,t,rfl,rfl⟩ <;> rfl
 pyHash:=fun hv h=>by
  rcases keyIs_shape hv with ⟨i,t,rfl,rfl⟩ | ⟨x,t,rfl,rfl⟩
  ·exact wpAny_pyHash_int h
  ·exact wpAny_pyHash_str h
 eqBool:=fun hu hv h=>by
  rcases keyIs_shape hu with ⟨i,t,rfl,rfl⟩ | ⟨x,t,rfl,rfl⟩
  ·rcases keyIs_shape hv with ⟨j,u,rfl,rfl⟩ | ⟨y,u,rfl,rfl⟩
   ·rw [key_ll] at h; exact wpAny_eqBool_int h
   ·rw [key_lr] at h; exact SeqAt.EqAt.int_str i t y u _ _ _ _ h
  ·rcases keyIs_shape hv with ⟨j,u,rfl,rfl⟩ | ⟨y,u,rfl,rfl⟩
   ·rw [key_rl] at h; exact SeqAt.EqAt.str_int x t j u _ _ _ _ h
   ·rw [key_rr] at h; exact wpAny_eqBool_str h
 «strs»:=fun k x t v h=>by
  rcases keyIs_shape h with ⟨i,u,rfl,e⟩ | ⟨y,u,rfl,e⟩
  ·exact nomatch e
  ·injection e with e1 _
   subst e1
   cases v <;> rfl
theorem mixKind_int (prog:Program) (w:World) (i:Int) (t:Tok):(mixKind prog w).is (.inl i) (.int i t) = true:=keyIs_int i t
theorem mixKind_str (prog:Program) (w:World) (x:Str) (t:Tok):(mixKind prog w).is (.inr x) (.str x t) = true:=keyIs_str x t
inductive V where
 | non | bl (b:Bool) | int (i:Int) | str (x:Str) | byt (b:Array UInt8) | flt (b:UInt64) | ref (a:Addr) | ty (n:String)
 deriving DecidableEq
def RelV:V->Value->Prop
 | .non,u=>u = Value.none
 | .bl b,u=>u = Value.bool b
 | .int i,u=>∃ t,u = Value.int i t
 | .str x,u=>∃ t,u = Value.str x t
 | .byt b,u=>∃ t,u = Value.bytes b t
 | .flt b,u=>∃ t,u = Value.float b t
 | .ref a,u=>u = Value.ref a
 | .ty n,u=>u = Value.type n
abbrev Vals:List V->List Value->Prop:=Paired RelV
theorem Vals.length {xs:List V} {us:List Value} (r:Vals xs us):xs.length = us.length:=Paired.length r
theorem Vals.get:∀ {xs:List V} {us:List Value} {i:Nat} {x:V},Vals xs us->xs[i]? = some x->∃ u,us[i]? = some u/\RelV x u
 | _,_,_,_,.nil,e=>by simp at e
 | _,_,0,_,.cons r _,e=>by simp at e; subst e; exact ⟨_,rfl,r⟩
 | _,_,i + 1,x,.cons _ t,e=>by
  obtain ⟨u,h1,h2⟩:=Vals.get (i:=i) (x:=x) t (by simpa using e)
  exact ⟨u,by simpa using h1,h2⟩
theorem Vals.set {x:V} {u:Value} (r:RelV x u):∀ {xs:List V} {us:List Value} (i:Nat),Vals xs us->Vals (xs.set i x) (us.set i u)
 | _,_,_,.nil=>.nil
 | _,_,0,.cons _ t=>.cons r t
 | _,_,i + 1,.cons q t=>.cons q (Vals.set r i t)
theorem Vals.append:∀ {xs ys:List V} {us ws:List Value},Vals xs us->Vals ys ws->Vals (xs ++ ys) (us ++ ws)
 | _,_,_,_,.nil,s=>s
 | _,_,_,_,.cons r t,s=>.cons r (Vals.append t s)
theorem Vals.take:∀ {xs:List V} {us:List Value} (n:Nat),Vals xs us->Vals (xs.take n) (us.take n)
 | _,_,0,_=>.nil
 | _,_,_ + 1,.nil=>.nil
 | _,_,n + 1,.cons r t=>.cons r (Vals.take n t)
theorem Vals.drop:∀ {xs:List V} {us:List Value} (n:Nat),Vals xs us->Vals (xs.drop n) (us.drop n)
 | _,_,0,r=>r
 | _,_,_ + 1,.nil=>.nil
 | _,_,n + 1,.cons _ t=>Vals.drop n t
def RelO:Option V->Option Value->Prop
 | some v,some u=>RelV v u
 | none,none=>True
 | _,_=>False
def KV {κ : Type}:List (κ × V)->List (κ × Value)->Prop:=Paired fun (p : κ × V) (q : κ × Value)=>p.1 = q.1/\RelV p.2 q.2
def kV:Key->V
 | .inl i=>.int i
 | .inr x=>.str x
inductive HO where
 | lst (xs:List V)
 | tup (xs:List V)
 | dK (kvs:List (Key × V)) | dT (kvs:List (List Key × V))
 | set (S:Int->Bool) (n:Nat)
 | ins (C dx:Addr) (fs:List (Str × V))
 | own (x:Addr)
 | xd (fs:List (Str × V))
 | met (f x:Addr)
 | rng (lo hi:Int)
 | frz (o:Obj) (u:HO)
 | tbl (ps:Array Value)
 | ext (φ : Heap->Prop)
abbrev Hp:=Addr->Option HO
def upd (H:Hp) (a:Addr) (o:HO):Hp:=fun b=>if b = a then some o else H b
theorem upd_same {H:Hp} {a:Addr} {o:HO}:upd H a o a = some o:=by unfold upd; rw [if_pos rfl]
theorem upd_ne {H:Hp} {a b:Addr} {o:HO} (h:b ≠ a):upd H a o b = H b:=by unfold upd; rw [if_neg h]
theorem ne_of {H:Hp} {a b:Addr} {o u:HO} (h:H a = some o) (h':H b = some u) (d:o ≠ u):a ≠ b:=by
 intro e; subst e; rw [h] at h'; exact d (Option.some.inj h')
theorem ne_of_none {H:Hp} {a b:Addr} {o:HO} (h:H a = some o) (h':H b = none):a ≠ b:=by
 intro e; subst e; rw [h] at h'; cases h'
section
variable (P:Program) (w:World)
def ObjOk (H:Hp) (h:Heap) (a:Addr):HO->Prop
 | .lst xs=>xs.length<=sizeLine/\∃ (its:List Value) (n:Nat),Vals xs its/\h.get? a = some { cls:=.type "list",data:=.seq its.toArray n }
 | .tup xs=>xs.length<=sizeLine/\∃ its:List Value,Vals xs its/\IsTup h a its.toArray
 | .dK kvs=>kvs.length<=sizeLine/\(a == sysModules) = false/\∃ vs,KV kvs vs/\h.DictOf (mixKind P w) a vs
 | .dT kvs=>kvs.length<=sizeLine/\(a == sysModules) = false/\∃ xs:List (List Key × Addr × Value),
   Paired (fun (p:List Key × V) (q:List Key × Addr × Value)=>p.1 = q.1/\H q.2.1 = some (.tup (p.1.map kV))/\RelV p.2 q.2.2) kvs xs/\
   ∃ o es ep,h.get? a = some o/\o.ExactDict/\o.data = .dict es ep/\es.toList = xs.map (entryOfKey (tupleKind (mixKind P w)))/\(xs.map (·.1)).Nodup
 | .set S n=>h.SetOf (intKind P w) a S n
 | .ins C dx fs=>H dx = some (.own a)/\fs.length<=1000/\dx ≠ a/\h.get? a = some (PySem.W.instObj C dx)/\
   ∃ mA,h.Ns1 dx mA/\(∀ f,RelO (fs.lookup f) (mA f))/\PySem.Within mA (fs.map (·.1))
 | .own _=>∃ o,h.get? a = some o
 | .xd fs=>∃ mA,h.Ns1 a mA/\∀ f,RelO (fs.lookup f) (mA f)
 | .rng lo hi=>∃ t u v,h.get? a = some { cls:=.type "range",data:=.fields #[.int lo t,.int hi u,.int 1 v] }
 | .frz o u=>h.get? a = some o/\ObjOk H h a u
 | .tbl ps=>h.get? a = some { cls:=.none,data:=.fields ps }
 | .met f x=>h.get? a = some (PySem.W.methodObj (.ref f) (.ref x))
 | .ext φ=>φ h/\(∃ o,h.get? a = some o)/\∀ h1 h2:Heap,φ h1->(∀ o,h1.get? a = some o->h2.get? a = some o)->φ h2
def HOk (H:Hp) (h:Heap):Prop:=∀ a o,H a = some o->ObjOk P w H h a o
end
section
variable {P:Program} {w:World} {H H':Hp} {h h':Heap} {a:Addr} {o:HO}
theorem ObjOk.lt (x:ObjOk P w H h a o):a < h.objs.size:=by
 cases o with
 | lst xs=>obtain ⟨_,_,_,_,e⟩:=x; exact Heap.lt_size e
 | tup xs=>obtain ⟨_,_,_,p⟩:=x; exact p.lt
 | dK kvs=>obtain ⟨_,_,_,_,o,_,_,e,_⟩:=x; exact Heap.lt_size e
 | dT kvs=>obtain ⟨_,_,_,_,o,_,_,e,_⟩:=x; exact Heap.lt_size e
 | set S n=>obtain ⟨o,_,_,_,e,_⟩:=x; exact Heap.lt_size e
 | ins C dx fs=>obtain ⟨_,_,_,e,_⟩:=x; exact Heap.lt_size e
 | own y=>obtain ⟨_,e⟩:=x; exact Heap.lt_size e
 | xd fs=>obtain ⟨_,⟨_,_,_,e,_⟩,_⟩:=x; exact Heap.lt_size e
 | rng lo hi=>obtain ⟨_,_,_,e⟩:=x; exact Heap.lt_size e
 | frz ob u=>obtain ⟨e,_⟩:=x; exact Heap.lt_size e
 | tbl ps=>exact Heap.lt_size (show h.get? a = some _ from x)
 | met f y=>exact Heap.lt_size (show h.get? a = some _ from x)
 | ext φ=>obtain ⟨_,⟨_,e⟩,_⟩:=x; exact Heap.lt_size e
theorem Paired.mapP {α β : Type} {F G : α->β->Prop}:∀ {l₁:List α} {l₂:List β},Paired F l₁ l₂->(∀ a b,F a b->G a b)->Paired G l₁ l₂
 | _,_,.nil,_=>.nil
 | _,_,.cons r t,f=>.cons (f _ _ r) (Paired.mapP t f)
theorem Paired.imp' {α β : Type} {F G : α->β->Prop} (f:∀ a b,F a b->G a b) {l₁:List α} {l₂:List β} (r:Paired F l₁ l₂):Paired G l₁ l₂:=Paired.mapP r f
theorem ObjOk.stay (x:ObjOk P w H h a o) (k:∀ b u,(b = a\/H b = some (.own a))->h.get? b = some u->h'.get? b = some u)
  (ho:∀ b,H b = some (.own a)->H' b = some (.own a)) (ht:∀ b xs,H b = some (.tup xs)->H' b = some (.tup xs)):ObjOk P w H' h' a o:=by
 induction o with
 | lst xs=>obtain ⟨z,its,n,r,e⟩:=x; exact ⟨z,its,n,r,k _ _ (.inl rfl) e⟩
 | tup xs=>obtain ⟨z,its,r,ob,e,c⟩:=x; exact ⟨z,its,r,ob,k _ _ (.inl rfl) e,c⟩
 | dK kvs=>obtain ⟨z,y,vs,r,ob,es,ep,e,c⟩:=x; exact ⟨z,y,vs,r,ob,es,ep,k _ _ (.inl rfl) e,c⟩
 | dT kvs=>
  obtain ⟨z,y,xs,r,ob,es,ep,e,c⟩:=x
  exact ⟨z,y,xs,Paired.mapP r fun p q z=>⟨z.1,ht _ _ z.2.1,z.2.2⟩,ob,es,ep,k _ _ (.inl rfl) e,c⟩
 | set S n=>obtain ⟨ob,es,ep,t,e,c⟩:=x; exact ⟨ob,es,ep,t,k _ _ (.inl rfl) e,c⟩
 | ins C dx fs=>
  obtain ⟨d,z,ne,e,mA,⟨od,es,ep,e2,c⟩,r⟩:=x
  exact ⟨ho _ d,z,ne,k _ _ (.inl rfl) e,mA,⟨od,es,ep,k _ _ (.inr d) e2,c⟩,r⟩
 | own y=>obtain ⟨ob,e⟩:=x; exact ⟨ob,k _ _ (.inl rfl) e⟩
 | xd fs=>obtain ⟨mA,⟨od,es,ep,e,c⟩,r⟩:=x; exact ⟨mA,⟨od,es,ep,k _ _ (.inl rfl) e,c⟩,r⟩
 | rng lo hi=>obtain ⟨t,u,v,e⟩:=x; exact ⟨t,u,v,k _ _ (.inl rfl) e⟩
 | frz ob u ih=>obtain ⟨e,q⟩:=x; exact ⟨k _ _ (.inl rfl) e,ih q⟩
 | tbl ps=>
  have e:h.get? a = some { cls:=.none,data:=.fields ps }:=x
  show h'.get? a = some { cls:=.none,data:=.fields ps }
  exact k a _ (.inl rfl) e
 | met f y=>
  have e:h.get? a = some (PySem.W.methodObj (.ref f) (.ref y)):=x
  show h'.get? a = some (PySem.W.methodObj (.ref f) (.ref y))
  exact k a _ (.inl rfl) e
 | ext φ=>obtain ⟨p,⟨o,e⟩,st⟩:=x; exact ⟨st _ _ p fun o q=>k _ _ (.inl rfl) q,⟨o,k _ _ (.inl rfl) e⟩,st⟩
theorem HOk.lt (x:HOk P w H h) (e:H a = some o):a < h.objs.size:=(x a o e).lt
theorem HOk.fresh (x:HOk P w H h) (e:h.objs.size<=a):H a = none:=by
 cases q:H a with
 | none=>rfl
 | some u=>exact absurd (Nat.lt_of_lt_of_le (x.lt q) e) (Nat.lt_irrefl _)
theorem HOk.kept (x:HOk P w H h) (k:∀ b u,h.get? b = some u->h'.get? b = some u):HOk P w H h':=fun a o e=>
 (x a o e).stay (fun b u _ q=>k b u q) (fun _ q=>q) fun _ _ q=>q
theorem HOk.laid (x:HOk P w H h) (k:∀ b u,h.get? b = some u->h'.get? b = some u) (hp:h.objs.size<=a) (new:ObjOk P w (upd H a o) h' a o):HOk P w (upd H a o) h':=fun b u e=>by
 have hn:=x.fresh hp
 by_cases hb:b = a
 ·subst hb; rw [upd_same] at e; cases e; exact new
 ·rw [upd_ne hb] at e
  exact (x b u e).stay (fun c v _ q=>k c v q) (fun c q=>by rw [upd_ne (ne_of_none q hn)]; exact q) fun c xs q=>by rw [upd_ne (ne_of_none q hn)]; exact q
end
def Rd (H:Hp) (a:Addr) (u:HO):Prop:=H a = some u\/∃ o,H a = some (.frz o u)
theorem Rd.ok {P:Program} {w:World} {H:Hp} {h:Heap} {a:Addr} {u:HO} (r:Rd H a u) (x:HOk P w H h):ObjOk P w H h a u:=by
 rcases r with r | ⟨o,r⟩
 ·exact x a u r
 ·obtain ⟨_,q⟩:=x a _ r
  exact q
def Mut:Option HO->Prop
 | some (.lst _)=>True
 | some (.dK _)=>True
 | some (.dT _)=>True
 | some (.set _ _)=>True
 | some (.ins _ _ _)=>True
 | some (.ext _)=>True
 | _=>False
section
variable {P:Program} {w:World} {H:Hp} {h h':Heap} {x e:Addr} {o':HO}
theorem HOk.write (ok:HOk P w H h) (mu:Mut (H x)) (he:e = x\/H e = some (.own x)) (k:∀ b u,b ≠ e->h.get? b = some u->h'.get? b = some u) (heo:∃ u,h'.get? e = some u)
  (new:ObjOk P w (upd H x o') h' x o'):HOk P w (upd H x o') h':=fun b u q=>by
 have nown:∀ c y,H c = some (.own y)->c ≠ x:=fun c y r z=>by subst z; rw [r] at mu; exact mu
 have ntup:∀ c xs,H c = some (.tup xs)->c ≠ x:=fun c xs r z=>by subst z; rw [r] at mu; exact mu
 by_cases hb:b = x
 ·subst hb; rw [upd_same] at q; cases q; exact new
 ·rw [upd_ne hb] at q
  by_cases hbe:b = e
  ·have q':H b = some (.own x):=by
    rcases he with z | z
    ·exact absurd (hbe.trans z) hb
    ·rw [hbe]; exact z
   rw [q] at q'; cases q'
   obtain ⟨v,hv⟩:=heo
   exact ⟨v,by rw [hbe]; exact hv⟩
  ·refine (ok b u q).stay (fun c v hc r=>k c v ?_ r) (fun c r=>by rw [upd_ne (nown c b r)]; exact r) fun c xs r=>by rw [upd_ne (ntup c xs r)]; exact r
   rcases hc with rfl | hc
   ·exact hbe
   ·rintro rfl
    rcases he with z | z
    ·exact nown c b hc z
    ·rw [hc] at z; cases z; exact hb rfl
end
structure Un (fs ex:List Addr) (H H':Hp) (h h':Heap):Prop where
 keep:∀ b o,h.get? b = some o->H b = none->b ∉ fs->b ∉ ex->h'.get? b = some o
 slot:∀ b o,h.get? b = some o->H b = none->b ∈ fs->b ∉ ex->∃ sl,h'.get? b = some { o with slots:=sl }
 free:∀ b o,h.get? b = some o->H b = none->b ∉ ex->H' b = none
 there:∀ b o,h.get? b = some o->b ∉ ex->∃ o',h'.get? b = some o'
 tups:∀ b xs,H b = some (.tup xs)->H' b = some (.tup xs)
 frzs:∀ b o u,H b = some (.frz o u)->H' b = some (.frz o u)
 tbls:∀ b ps,H b = some (.tbl ps)->∃ more,H' b = some (.tbl (ps ++ more))
section
variable {fs fs' ex ex':List Addr} {H H1 H2:Hp} {h h1 h2 h':Heap} {a x e:Addr} {o:HO}
theorem Un.any (u:Un fs ex H H1 h h1) {b:Addr} {ob:Obj} (q:h.get? b = some ob) (n:H b = none) (hx:b ∉ ex):∃ sl,h1.get? b = some { ob with slots:=sl }:=by
 by_cases hb:b ∈ fs
 ·exact u.slot b ob q n hb hx
 ·exact ⟨ob.slots,u.keep b ob q n hb hx⟩
theorem Un.kept (k:∀ b u,h.get? b = some u->h'.get? b = some u):Un fs ex H H h h':=
 ⟨fun b ob q _ _ _=>k b ob q,fun b ob q _ _ _=>⟨ob.slots,k b ob q⟩,fun _ _ _ n _=>n,fun b ob q _=>⟨ob,k b ob q⟩,fun _ _ q=>q,fun _ _ _ q=>q,fun _ ps q=>⟨#[],by rw [q]; simp⟩⟩
theorem Un.refl:Un fs ex H H h h:=Un.kept fun _ _ q=>q
theorem Un.laid (k:∀ b u,h.get? b = some u->h'.get? b = some u) (hp:h.objs.size<=a) (hn:H a = none):Un fs ex H (upd H a o) h h' where
 keep:=fun b u q _ _ _=>k b u q
 slot:=fun b u q _ _ _=>⟨u.slots,k b u q⟩
 free:=fun b u q n _=>by rw [upd_ne (Nat.ne_of_lt (Nat.lt_of_lt_of_le (Heap.lt_size q) hp))]; exact n
 there:=fun b u q _=>⟨u,k b u q⟩
 tups:=fun b xs q=>by rw [upd_ne (ne_of_none q hn)]; exact q
 frzs:=fun b u xs q=>by rw [upd_ne (ne_of_none q hn)]; exact q
 tbls:=fun b ps q=>⟨#[],by rw [upd_ne (ne_of_none q hn),q]; simp⟩
theorem Un.write (mu:Mut (H x)) (he:e = x\/H e = some (.own x)) (k:∀ b u,b ≠ e->h.get? b = some u->h'.get? b = some u) (heo:∃ u,h'.get? e = some u):Un fs ex H (upd H x o) h h':=by
 have hx:∀ b,H b = none->b ≠ x:=fun b n z=>by subst z; rw [n] at mu; exact mu
 have hb:∀ b,H b = none->b ≠ e:=fun b n z=>by
  subst z
  rcases he with r | r
  ·exact hx b n r
  ·rw [n] at r; cases r
 have hm:∀ b u,H b = some u->¬ Mut (some u)->b ≠ x:=fun b u q nm z=>by subst z; rw [q] at mu; exact nm mu
 refine ⟨fun b u q n _ _=>k b u (hb b n) q,fun b u q n _ _=>⟨u.slots,k b u (hb b n) q⟩,fun b u q n _=>by rw [upd_ne (hx b n)]; exact n,fun b u q _=>?_,
  fun b xs q=>by rw [upd_ne (hm b _ q fun z=>z)]; exact q,fun b u xs q=>by rw [upd_ne (hm b _ q fun z=>z)]; exact q,fun b ps q=>⟨#[],by rw [upd_ne (hm b _ q fun z=>z),q]; simp⟩⟩
 by_cases hbe:b = e
 ·subst hbe; exact heo
 ·exact ⟨u,k b u hbe q⟩
end
def trk (h:Heap) (H:Hp):List Addr:=(List.range h.objs.size).filter fun a=>(H a).isSome
def hidT (h:Heap) (H:Hp):Heap:=PySem.W.hideAll h (trk h H)
theorem hidT_size (h:Heap) (H:Hp):(hidT h H).objs.size = h.objs.size:=PySem.W.hideAll_size _ _
theorem hidT_get {h:Heap} {H:Hp} {b:Addr} {o:Obj} (e:h.get? b = some o) (n:H b = none):(hidT h H).get? b = some o:=
 PySem.W.hideAll_get _ e fun hm=>by
  have q:(H b).isSome = true:=(List.mem_filter.mp hm).2
  rw [n] at q; simp at q
theorem of_hidT {h:Heap} {H:Hp} {b:Addr} {o:Obj} (e:(hidT h H).get? b = some o):h.get? b = some o/\H b = none:=by
 have e':h.get? b = some o:=PySem.W.of_hideAll (trk h H) e
 refine ⟨e',?_⟩
 cases q:H b with
 | none=>rfl
 | some x=>
  have hm:b ∈ trk h H:=List.mem_filter.mpr ⟨List.mem_range.mpr (Heap.lt_size e'),by simp [q]⟩
  have z:(hidT h H).get? b = none:=PySem.W.hideAll_none (trk h H) hm
  rw [z] at e; cases e
def allNews (g h:Heap) (L:Addr):List (Addr × Obj):=(List.range h.objs.size).filterMap fun a=>if a = L\/(g.get? a).isSome = true then none else (h.get? a).map fun o=>(a,o)
def rest (g h:Heap) (L d:Addr):List (Addr × Obj):=(allNews g h L).filter fun p=>decide (p.1 ≠ d)
structure Mod (K:PySem.W.Frag) (mg:Str->Option Value) (base:Heap):Prop where
 kin:K.In base
 glob:base.Ns mainGlobals mg
 blt:∃ mb,base.Ns builtinsNs mb/\∀ x:Str,x ≠ "__name__"->mb x = bootBuiltins x
 nolimit:base.NoLimit
structure Cx where
 prog:Program
 w:World
 K:PySem.W.Frag
 mg:Str->Option Value
 base:Heap
 A:Around
 N:List Str
 s₀:Shared
 H₀:Hp
 env:Env
 outer:List Env
 stack:List Env
 ex:List Addr
 fn:Str->Bool
 calm:Bool
 pn:List (Addr × Obj)
 xe:Value->Shared->Prop
def frs (l:List Env):List Addr:=l.filterMap (·.frame)
abbrev Cx.fs (X:Cx):List Addr:=frs X.outer
def Vis (sc:Scope) (x:Str):Prop:=sc.names.lookup x = some .local\/sc.names.lookup x = some .cell\/sc.names.lookup x = some .free
def Loc (sc:Scope) (x:Str):Prop:=sc.names.lookup x = some .local\/sc.names.lookup x = some .cell
def Look (env:Env) (h:Heap) (m:Str->Option Value) (x:Str) (u:Value):Prop:=
 (env.kindOf x = some .local/\m x = some u)\/((env.kindOf x = some .cell\/env.kindOf x = some .free)/\∃ c,env.cells.lookup x = some c/\h.IsCell c (some u))
structure Cx.Ok (X:Cx):Prop where
 mod:Mod X.K X.mg X.base
 kind:X.env.scope.kind = .function
 glob:X.env.globals = mainGlobals
 blt:X.env.builtins = builtinsNs
 above:X.s₀.heap.objs.size<=X.env.locals
 inj:∀ x y c,X.env.cells.lookup x = some c->X.env.cells.lookup y = some c->x = y
 has:∀ x,(X.env.kindOf x = some .cell\/X.env.kindOf x = some .free)->∃ c,X.env.cells.lookup x = some c
 cab:∀ x c,X.fn x = true->X.env.cells.lookup x = some c->X.s₀.heap.objs.size<=c
 hd:X.calm = true->X.A.handled = none
 frames:X.A.frames = some X.stack
 stk:X.stack = X.outer\/(X.stack = X.env :: X.outer/\X.env.frame = some X.env.locals)
 exf:∀ b ∈ X.ex,b ≠ X.env.locals/\∀ x c,X.env.cells.lookup x = some c->c ≠ b
 bs:∀ b o,X.base.get? b = some o->X.s₀.heap.get? b = some o/\X.H₀ b = none
 bsz:X.base.objs.size<=X.s₀.heap.objs.size
 noex:∀ b o,X.base.get? b = some o->b ∉ X.ex
 exfs:∀ b ∈ X.ex,b ∉ X.fs
 funs:X.s₀.heap.FunFrames X.base X.outer
 frf:∀ b ∈ X.fs,X.H₀ b = none
structure Inv (X:Cx) (pins:List (Addr × Obj)) (σ : List (Option V)) (H:Hp) (s:Shared):Prop where
 ok:X.Ok
 os:s.os = X.s₀.os
 bare:AllBare s.gens
 base:Un X.fs X.ex X.H₀ H X.s₀.heap s.heap
 loc:∃ m,s.heap.Ns X.env.locals m/\∀ (i:Nat) (x:Str) (v:V),X.N[i]? = some x->σ[i]? = some (some v)->Vis X.env.scope x->∃ u,RelV v u/\Look X.env s.heap m x u
 cell:∀ x c,X.env.cells.lookup x = some c->∃ v,s.heap.IsCell c v
 free:H X.env.locals = none
 freeC:∀ x c,X.env.cells.lookup x = some c->H c = none
 pin:∀ p ∈ X.pn ++ pins,s.heap.get? p.1 = some p.2/\H p.1 = none/\p.1 ≠ X.env.locals/\p.1 ∉ X.fs/\∀ v,p.2.data ≠ .cell v
 hok:HOk X.prog X.w H s.heap
 len : σ.length = X.N.length
section
variable {X:Cx} {pins:List (Addr × Obj)} {σ : List (Option V)} {H H':Hp} {s:Shared} {h':Heap}
theorem Cx.Ok.nofr (ok:X.Ok) {b:Addr} {o:Obj} (e:X.base.get? b = some o):b ∉ X.fs:=fun hb=>by
 have:=(ok.funs.mem hb).1
 rw [e] at this; cases this
theorem Inv.bs (I:Inv X pins σ H s):∀ b o,X.base.get? b = some o->s.heap.get? b = some o/\H b = none:=fun b o e=>
 ⟨I.base.keep b o (I.ok.bs b o e).1 (I.ok.bs b o e).2 (I.ok.nofr e) (I.ok.noex b o e),I.base.free b o (I.ok.bs b o e).1 (I.ok.bs b o e).2 (I.ok.noex b o e)⟩
theorem Inv.bk (I:Inv X pins σ H s):∀ b o,X.base.get? b = some o->s.heap.get? b = some o:=fun b o e=>(I.bs b o e).1
theorem Inv.mod (I:Inv X pins σ H s):Mod X.K X.mg X.base:=I.ok.mod
theorem Inv.kIn (I:Inv X pins σ H s):X.K.In s.heap:=I.ok.mod.kin.keeps I.bk
theorem Inv.fr (I:Inv X pins σ H s):∃ m,Fr X.base X.env.locals s.heap m:=
 let ⟨m,hn,_⟩:=I.loc
 ⟨m,hn,I.bk,Nat.le_trans I.ok.bsz I.ok.above⟩
theorem Inv.lt (I:Inv X pins σ H s):X.env.locals < s.heap.objs.size:=let ⟨_,hn,_⟩:=I.loc; hn.lt
theorem Inv.sz (I:Inv X pins σ H s):X.s₀.heap.objs.size<=s.heap.objs.size:=Nat.le_trans I.ok.above (Nat.le_of_lt I.lt)
theorem Inv.nofs (I:Inv X pins σ H s) {a:Addr} (h:s.heap.objs.size<=a):a ∉ X.fs:=fun hb=>by
 obtain ⟨_,o,ho,_⟩:=I.ok.funs.mem hb
 exact absurd (Nat.lt_of_lt_of_le (Heap.lt_size ho) (Nat.le_trans I.sz h)) (Nat.lt_irrefl _)
theorem Inv.cne (I:Inv X pins σ H s):∀ x c,X.env.cells.lookup x = some c->c ≠ X.env.locals:=fun x c e z=>by
 obtain ⟨v,o,ho,hd⟩:=I.cell x c e
 obtain ⟨m,⟨o',es,ep,ho',hd',_⟩,_⟩:=I.loc
 rw [z,ho'] at ho; cases ho; rw [hd'] at hd; cases hd
theorem Inv.funs (I:Inv X pins σ H s):s.heap.FunFrames X.base X.outer:=by
 have all:∀ (l:List Env),(∀ b ∈ frs l,b ∈ X.fs)->X.s₀.heap.FunFrames X.base l->s.heap.FunFrames X.base l:=by
  intro l
  induction l with
  | nil=>intro _ _; trivial
  | cons env r ih=>
   intro hs hl
   obtain ⟨hk,⟨L,o,hf,hn,ho,hd⟩,hr⟩:=hl
   have hL:L ∈ X.fs:=hs L (by unfold frs; rw [List.filterMap_cons,hf]; exact List.mem_cons_self)
   obtain ⟨sl,e⟩:=I.base.slot L o ho (I.ok.frf L hL) hL fun z=>I.ok.exfs L z hL
   exact ⟨hk,⟨L,_,hf,hn,e,hd⟩,ih (fun b hb=>hs b (by unfold frs; rw [List.filterMap_cons,hf]; exact List.mem_cons_of_mem _ hb)) hr⟩
 exact all X.outer (fun _ hb=>hb) I.ok.funs
theorem Inv.stack (I:Inv X pins σ H s):s.heap.FunFrames X.base X.stack:=by
 rcases I.ok.stk with e | ⟨e,hf⟩
 ·rw [e]; exact I.funs
 ·rw [e]
  obtain ⟨m,hn,_⟩:=I.loc
  refine .cons (by rw [I.ok.kind]; decide) hf hn ?_ I.funs
  exact Heap.get?_none_of_le (Nat.le_trans I.ok.bsz I.ok.above)
theorem Inv.stkSub (I:Inv X pins σ H s):∀ b ∈ frs X.stack,b ∈ X.env.locals :: X.fs:=fun b hb=>by
 rcases I.ok.stk with e | ⟨e,hf⟩
 ·rw [e] at hb; exact List.mem_cons_of_mem _ hb
 ·rw [e] at hb
  unfold frs at hb
  rw [List.filterMap_cons,hf] at hb
  exact hb
theorem Inv.stkFree (I:Inv X pins σ H s):∀ b ∈ frs X.stack,H b = none:=fun b hb=>by
 rcases List.mem_cons.mp (I.stkSub b hb) with e | hb
 ·rw [e]; exact I.free
 ·obtain ⟨_,o,ho,_⟩:=I.ok.funs.mem hb
  exact I.base.free b o ho (I.ok.frf b hb) fun z=>I.ok.exfs b z hb
theorem Inv.step {g':Array GenState} {t':Nat} {d':Drawn} {ch:List Addr} (I:Inv X pins σ H s)
  (hch:∀ b ∈ ch,(b ∈ X.ex\/X.s₀.heap.objs.size<=b)/\b ≠ X.env.locals/\(∀ x c,X.env.cells.lookup x = some c->c ≠ b)/\∀ p ∈ X.pn ++ pins,p.1 ≠ b)
  (keep:∀ b o,b ≠ X.env.locals->b ∉ X.fs->b ∉ ch->s.heap.get? b = some o->H b = none->h'.get? b = some o)
  (slot:∀ b o,b ≠ X.env.locals->b ∈ X.fs->b ∉ ch->s.heap.get? b = some o->H b = none->∃ sl,h'.get? b = some { o with slots:=sl }) (free:∀ b o,b ∉ ch->s.heap.get? b = some o->H b = none->H' b = none)
  (there:∀ b o,b ∉ ch->s.heap.get? b = some o->∃ o',h'.get? b = some o')
  (tups:∀ b xs,H b = some (.tup xs)->H' b = some (.tup xs)) (frzs:∀ b o u,H b = some (.frz o u)->H' b = some (.frz o u)) (tbls:∀ b ps,H b = some (.tbl ps)->∃ more,H' b = some (.tbl (ps ++ more)))
  (ns:∀ m,s.heap.Ns X.env.locals m->h'.Ns X.env.locals m) (hok:HOk X.prog X.w H' h') (hg:AllBare g') :
  Inv X pins σ H' { s with heap:=h',gens:=g',drawn:=d',toks:=t' }:=by
 have neL:∀ b o,X.s₀.heap.get? b = some o->b ≠ X.env.locals:=fun b o e=>Nat.ne_of_lt (Nat.lt_of_lt_of_le (Heap.lt_size e) I.ok.above)
 have neC:∀ b o,X.s₀.heap.get? b = some o->b ∉ X.ex->b ∉ ch:=fun b o e hx hb=>by
  rcases (hch b hb).1 with z | z
  ·exact hx z
  ·exact absurd (Nat.lt_of_lt_of_le (Heap.lt_size e) z) (Nat.lt_irrefl _)
 have cellK:∀ x c,X.env.cells.lookup x = some c->∀ v,s.heap.IsCell c v->h'.IsCell c v:=fun x c e v ⟨o,ho,hd⟩=>by
  have nch:c ∉ ch:=fun z=>(hch c z).2.2.1 x c e rfl
  by_cases hc:c ∈ X.fs
  ·obtain ⟨sl,q⟩:=slot c o (I.cne x c e) hc nch ho (I.freeC x c e)
   exact ⟨_,q,hd⟩
  ·exact ⟨o,keep c o (I.cne x c e) hc nch ho (I.freeC x c e),hd⟩
 refine ⟨I.ok,I.os,hg,⟨fun b o e n hb hx=>?_,fun b o e n hb hx=>?_,fun b o e n hx=>?_,fun b o e hx=>?_,fun b xs e=>tups b xs (I.base.tups b xs e),fun b o xs e=>frzs b o xs (I.base.frzs b o xs e),fun b ps e=>?_⟩,?_,fun x c e=>?_,?_,fun x c e=>?_,fun p hp=>?_,hok,I.len⟩
 ·exact keep b o (neL b o e) hb (neC b o e hx) (I.base.keep b o e n hb hx) (I.base.free b o e n hx)
 ·obtain ⟨sl,e1⟩:=I.base.slot b o e n hb hx
  obtain ⟨sl',e2⟩:=slot b _ (neL b o e) hb (neC b o e hx) e1 (I.base.free b o e n hx)
  exact ⟨sl',e2⟩
 ·obtain ⟨o',e1⟩:=I.base.there b o e hx
  exact free b o' (neC b o e hx) e1 (I.base.free b o e n hx)
 ·obtain ⟨o',e1⟩:=I.base.there b o e hx
  exact there b o' (neC b o e hx) e1
 ·obtain ⟨m1,e1⟩:=I.base.tbls b ps e
  obtain ⟨m2,e2⟩:=tbls b _ e1
  exact ⟨m1 ++ m2,by rw [e2,Array.append_assoc]⟩
 ·obtain ⟨m,hn,hl⟩:=I.loc
  refine ⟨m,ns m hn,fun i x v e1 e2 e3=>?_⟩
  obtain ⟨u,r,l⟩:=hl i x v e1 e2 e3
  refine ⟨u,r,?_⟩
  rcases l with l | ⟨k,c,e,z⟩
  ·exact .inl l
  ·exact .inr ⟨k,c,e,cellK x c e _ z⟩
 ·obtain ⟨v,z⟩:=I.cell x c e
  exact ⟨v,cellK x c e v z⟩
 ·obtain ⟨m,⟨o,_,_,ho,_⟩,_⟩:=I.loc
  exact free _ o (fun z=>(hch _ z).2.1 rfl) ho I.free
 ·obtain ⟨v,o,ho,hd⟩:=I.cell x c e
  exact free c o (fun z=>(hch c z).2.2.1 x c e rfl) ho (I.freeC x c e)
 ·obtain ⟨e,n,ne,nf,d⟩:=I.pin p hp
  have nch:p.1 ∉ ch:=fun z=>(hch p.1 z).2.2.2 p hp rfl
  exact ⟨keep p.1 p.2 ne nf nch e n,free p.1 p.2 nch e n,ne,nf,d⟩
theorem Inv.un {t':Nat} (I:Inv X pins σ H s) (u:Un X.fs [] H H' s.heap h') (hok:HOk X.prog X.w H' h'):Inv X pins σ H' { s with heap:=h',toks:=t' }:=by
 obtain ⟨m,⟨o,es,ep,ho,r⟩,_⟩:=id I.loc
 obtain ⟨sl,hL⟩:=u.any ho I.free (by simp)
 exact I.step (g':=s.gens) (d':=s.drawn) (ch:=[]) (fun _ z=>nomatch z) (fun b o _ hb _ e n=>u.keep b o e n hb (by simp)) (fun b o _ hb _ e n=>u.slot b o e n hb (by simp)) (fun b o _ e n=>u.free b o e n (by simp)) (fun b o _ e=>u.there b o e (by simp)) u.tups u.frzs u.tbls (fun m' hm=>by
  obtain ⟨o',es',ep',ho',r'⟩:=hm
  rw [ho] at ho'; cases ho'
  exact ⟨_,es',ep',hL,r'⟩) hok I.bare
theorem Inv.call {g':Array GenState} {t':Nat} {d':Drawn} {ch:List Addr} (I:Inv X pins σ H s) (u:Un (frs X.stack) ch H H' s.heap h') (hok:HOk X.prog X.w H' h') (hg:AllBare g')
  (hch:∀ b ∈ ch,(b ∈ X.ex\/X.s₀.heap.objs.size<=b)/\b ≠ X.env.locals/\(∀ x c,X.env.cells.lookup x = some c->c ≠ b)/\∀ p ∈ X.pn ++ pins,p.1 ≠ b) :
  Inv X pins σ H' { s with heap:=h',gens:=g',drawn:=d',toks:=t' }:=by
 obtain ⟨m,⟨o,es,ep,ho,r⟩,_⟩:=id I.loc
 obtain ⟨sl,hL⟩:=u.any ho I.free fun z=>(hch _ z).2.1 rfl
 exact I.step (ch:=ch) hch (fun b o hL hb hc e n=>u.keep b o e n (fun z=>(List.mem_cons.mp (I.stkSub b z)).elim hL hb) hc) (fun b o _ _ hc e n=>u.any e n hc) (fun b o hc e n=>u.free b o e n hc) (fun b o hc e=>u.there b o e hc) u.tups u.frzs u.tbls (fun m' hm=>by
  obtain ⟨o',es',ep',ho',r'⟩:=hm
  rw [ho] at ho'; cases ho'
  exact ⟨_,es',ep',hL,r'⟩) hok hg
theorem Inv.turned {t':Nat} {it:Addr} (I:Inv X pins σ H s) (k:∀ b o,b ≠ it->s.heap.get? b = some o->h'.get? b = some o) (hn:H it = none) (hL:it ≠ X.env.locals)
  (h1:it ∈ X.ex\/X.s₀.heap.objs.size<=it) (h2:∀ x c,X.env.cells.lookup x = some c->c ≠ it) (h3:∀ p ∈ X.pn ++ pins,p.1 ≠ it):Inv X pins σ H { s with heap:=h',toks:=t' }:=by
 have nit:∀ b u,H b = some u->b ≠ it:=fun b u e z=>by rw [z,hn] at e; cases e
 refine I.step (g':=s.gens) (d':=s.drawn) (ch:=[it]) (fun b hb=>?_) (fun b o _ _ hc e _=>k b o (fun z=>hc (by simp [z])) e) (fun b o _ _ hc e _=>⟨o.slots,k b o (fun z=>hc (by simp [z])) e⟩) (fun _ _ _ _ n=>n)
  (fun b o hc e=>⟨o,k b o (fun z=>hc (by simp [z])) e⟩) (fun _ _ e=>e) (fun _ _ _ e=>e) (fun b ps e=>⟨#[],by rw [e]; simp⟩) (fun m hm=>?_) (fun b u e=>?_) I.bare
 ·have e:b = it:=by simpa using hb
  subst e
  exact ⟨h1,hL,h2,h3⟩
 ·obtain ⟨o,es,ep,ho,r⟩:=hm
  exact ⟨o,es,ep,k _ o (Ne.symm hL) ho,r⟩
 ·refine (I.hok b u e).stay (fun c v hc q=>k c v ?_ q) (fun _ q=>q) fun _ _ q=>q
  rcases hc with z | z
  ·rw [z]; exact nit b u e
  ·exact nit c _ z
theorem Inv.tok (I:Inv X pins σ H s) (t:Nat):Inv X pins σ H { s with toks:=t }:=I.un (h':=s.heap) (t':=t) Un.refl I.hok
theorem Inv.kept {t':Nat} (I:Inv X pins σ H s) (k:∀ b u,s.heap.get? b = some u->h'.get? b = some u):Inv X pins σ H { s with heap:=h',toks:=t' }:=I.un (Un.kept k) (I.hok.kept k)
theorem Inv.laid {a:Addr} {o:HO} {t':Nat} (I:Inv X pins σ H s) (k:∀ b u,s.heap.get? b = some u->h'.get? b = some u) (hp:s.heap.objs.size<=a) (new:ObjOk X.prog X.w (upd H a o) h' a o) :
  Inv X pins σ (upd H a o) { s with heap:=h',toks:=t' }:=I.un (Un.laid k hp (I.hok.fresh hp)) (I.hok.laid k hp new)
theorem Inv.write {x e:Addr} {o:HO} {t':Nat} (I:Inv X pins σ H s) (mu:Mut (H x)) (he:e = x\/H e = some (.own x)) (k:∀ b u,b ≠ e->s.heap.get? b = some u->h'.get? b = some u) (heo:∃ u,h'.get? e = some u)
  (new:ObjOk X.prog X.w (upd H x o) h' x o):Inv X pins σ (upd H x o) { s with heap:=h',toks:=t' }:=I.un (Un.write mu he k heo) (I.hok.write mu he k heo new)
theorem Inv.weak {σ':List (Option V)} (I:Inv X pins σ H s) (hl : σ'.length = σ.length) (w:∀ (i:Nat) v,σ'[i]? = some (some v)->σ[i]? = some (some v)):Inv X pins σ' H s:=
 ⟨I.ok,I.os,I.bare,I.base,let ⟨m,hn,hl'⟩:=I.loc; ⟨m,hn,fun i x v e1 e2 e3=>hl' i x v e1 (w i v e2) e3⟩,I.cell,I.free,I.freeC,I.pin,I.hok,hl.trans I.len⟩
theorem Inv.pins_of {pins':List (Addr × Obj)} (I:Inv X pins σ H s) (h:∀ p ∈ pins',s.heap.get? p.1 = some p.2/\H p.1 = none/\p.1 ≠ X.env.locals/\p.1 ∉ X.fs/\∀ v,p.2.data ≠ .cell v):Inv X pins' σ H s:=
 ⟨I.ok,I.os,I.bare,I.base,I.loc,I.cell,I.free,I.freeC,fun p hp=>(List.mem_append.mp hp).elim (fun z=>I.pin p (List.mem_append_left _ z)) (h p),I.hok,I.len⟩
theorem nodup_ix {N:List Str} (hN:N.Nodup) {i j:Nat} {x:Str} (a:N[i]? = some x) (b:N[j]? = some x):i = j:=by
 obtain ⟨h1,e1⟩:=List.getElem?_eq_some_iff.mp a
 obtain ⟨h2,e2⟩:=List.getElem?_eq_some_iff.mp b
 exact (List.getElem_inj hN).mp (e1.trans e2.symm)
theorem store_ok2 {M:Model} {A:Around} {E:Value->Shared->Prop} {i:Nat} {x:Str} {v:V} {u:Value} {Q:Unit->Shared->Prop} (I:Inv X pins σ H s) (hN:X.N.Nodup) (hi:X.N[i]? = some x) (hx:Loc X.env.scope x) (r:RelV v u)
  (h:∀ s',Inv X pins (σ.set i (some v)) H s'->(∃ a,Heap.SameBut a s.heap s'.heap/\(a = X.env.locals\/X.env.cells.lookup x = some a))->Q () s') (hf:X.fn x = true\/X.env.scope.names.lookup x = some .local:=by first | exact .inl rfl | exact .inr rfl | assumption):wpAny M A (storeName X.env x u) Q E s:=by
 obtain ⟨m,hn,hl⟩:=id I.loc
 have hcls:(X.env.scope.kind == .class || (X.env.scope.kind == .module && X.env.locals != X.env.globals)) = false:=by rw [I.ok.kind]; rfl
 have hiσ : i < σ.length:=by rw [I.len]; exact (List.getElem?_eq_some_iff.mp hi).1
 have cne:=I.cne
 have tracked:∀ {a:Addr} {h':Heap},(∃ o,s.heap.get? a = some o/\H a = none)->Heap.SameBut a s.heap h'->HOk X.prog X.w H h':=fun {a h'} ha hs b ob e=>by
  obtain ⟨_,_,hfree⟩:=ha
  refine (I.hok b ob e).stay (fun c w' hc q=>(hs.2 c ?_).trans q) (fun _ q=>q) fun _ _ q=>q
  rintro rfl
  rcases hc with rfl | hc
  ·rw [hfree] at e; cases e
  ·rw [hfree] at hc; cases hc
 rcases hx with hk | hk
 ·refine wpAny_storeName_local hk hn (fun h' hn' hs=>?_) hcls
  obtain ⟨oL,_,_,hoL,_⟩:=id hn
  refine h _ ⟨I.ok,I.os,I.bare,⟨fun b o e n hb hx=>?_,fun b o e n hb hx=>?_,I.base.free,fun b o e hx=>?_,I.base.tups,I.base.frzs,I.base.tbls⟩,⟨_,hn',fun j y v' e1 e2 e3=>?_⟩,fun y c e=>?_,I.free,I.freeC,fun p hp=>?_,tracked ⟨oL,hoL,I.free⟩ hs,by simpa using I.len⟩ ⟨_,hs,.inl rfl⟩
  ·exact (hs.2 b (Nat.ne_of_lt (Nat.lt_of_lt_of_le (Heap.lt_size e) I.ok.above))).trans (I.base.keep b o e n hb hx)
  ·obtain ⟨sl,e1⟩:=I.base.slot b o e n hb hx
   exact ⟨sl,(hs.2 b (Nat.ne_of_lt (Nat.lt_of_lt_of_le (Heap.lt_size e) I.ok.above))).trans e1⟩
  ·obtain ⟨o',e1⟩:=I.base.there b o e hx
   exact ⟨o',(hs.2 b (Nat.ne_of_lt (Nat.lt_of_lt_of_le (Heap.lt_size e) I.ok.above))).trans e1⟩
  ·by_cases hj:j = i
   ·subst hj
    rw [hi] at e1; cases e1
    rw [List.getElem?_set_self hiσ] at e2
    cases e2
    exact ⟨u,r,.inl ⟨hk,by simp⟩⟩
   ·rw [List.getElem?_set_ne (Ne.symm hj)] at e2
    obtain ⟨u',r',q⟩:=hl j y v' e1 e2 e3
    refine ⟨u',r',?_⟩
    rcases q with ⟨k,e⟩ | ⟨k,c,e,z⟩
    ·refine .inl ⟨k,?_⟩
     have:y ≠ x:=fun e=>hj (nodup_ix hN e1 (e ▸ hi))
     simp [this,e]
    ·exact .inr ⟨k,c,e,z.sameBut hs (cne y c e)⟩
  ·obtain ⟨w',z⟩:=I.cell y c e
   exact ⟨w',z.sameBut hs (cne y c e)⟩
  ·obtain ⟨e,n,ne,nf,d⟩:=I.pin p hp
   exact ⟨(hs.2 p.1 ne).trans e,n,ne,nf,d⟩
 ·have hfn:X.fn x = true:=by
   rcases hf with z | z
   ·exact z
   ·rw [z] at hk; cases hk
  obtain ⟨c,hc⟩:=I.ok.has x (.inl hk)
  obtain ⟨w',z⟩:=I.cell x c hc
  refine wpAny_storeName_cell I.ok.kind hk hc z (fun h' hc' hs=>?_)
  obtain ⟨oc,hoc,hocd⟩:=id z
  refine h { s with heap:=h' } ⟨I.ok,I.os,I.bare,⟨fun b o e n hb hx=>?_,fun b o e n hb hx=>?_,I.base.free,fun b o e hx=>?_,I.base.tups,I.base.frzs,I.base.tbls⟩,⟨m,hn.sameBut hs (Ne.symm (cne x c hc)),fun j y v' e1 e2 e3=>?_⟩,fun y c' e=>?_,I.free,I.freeC,fun p hp=>?_,tracked ⟨oc,hoc,I.freeC x c hc⟩ hs,by simpa using I.len⟩ ⟨c,hs,.inr hc⟩
  ·exact (hs.2 b (Nat.ne_of_lt (Nat.lt_of_lt_of_le (Heap.lt_size e) (I.ok.cab x c hfn hc)))).trans (I.base.keep b o e n hb hx)
  ·obtain ⟨sl,e1⟩:=I.base.slot b o e n hb hx
   exact ⟨sl,(hs.2 b (Nat.ne_of_lt (Nat.lt_of_lt_of_le (Heap.lt_size e) (I.ok.cab x c hfn hc)))).trans e1⟩
  ·obtain ⟨o',e1⟩:=I.base.there b o e hx
   exact ⟨o',(hs.2 b (Nat.ne_of_lt (Nat.lt_of_lt_of_le (Heap.lt_size e) (I.ok.cab x c hfn hc)))).trans e1⟩
  ·by_cases hj:j = i
   ·subst hj
    rw [hi] at e1; cases e1
    rw [List.getElem?_set_self hiσ] at e2
    cases e2
    exact ⟨u,r,.inr ⟨.inl hk,c,hc,hc'⟩⟩
   ·rw [List.getElem?_set_ne (Ne.symm hj)] at e2
    obtain ⟨u',r',q⟩:=hl j y v' e1 e2 e3
    refine ⟨u',r',?_⟩
    rcases q with q | ⟨k,c',e,z'⟩
    ·exact .inl q
    ·refine .inr ⟨k,c',e,z'.sameBut hs ?_⟩
     rintro rfl
     exact hj (nodup_ix hN e1 (I.ok.inj _ _ _ e hc ▸ hi))
  ·by_cases hcc:c' = c
   ·subst hcc; exact ⟨_,hc'⟩
   ·obtain ⟨w2,z2⟩:=I.cell y c' e
    exact ⟨w2,z2.sameBut hs hcc⟩
  ·obtain ⟨e,n,ne,nf,d⟩:=I.pin p hp
   refine ⟨(hs.2 p.1 ?_).trans e,n,ne,nf,d⟩
   intro q
   rw [q,hoc] at e
   have q':oc = p.2:=Option.some.inj e
   exact d w' (by rw [<- q']; exact hocd)
theorem store_ok {M:Model} {A:Around} {E:Value->Shared->Prop} {i:Nat} {x:Str} {v:V} {u:Value} {Q:Unit->Shared->Prop} (I:Inv X pins σ H s) (hN:X.N.Nodup) (hi:X.N[i]? = some x) (hx:Loc X.env.scope x) (r:RelV v u)
  (h:∀ s',Inv X pins (σ.set i (some v)) H s'->Q () s') (hf:X.fn x = true\/X.env.scope.names.lookup x = some .local:=by first | exact .inl rfl | exact .inr rfl | assumption):wpAny M A (storeName X.env x u) Q E s:=
 store_ok2 I hN hi hx r (fun s' I' _=>h s' I') hf
theorem Inv.call' {s':Shared} {ch:List Addr} (I:Inv X pins σ H s) (ho:s'.os = s.os) (u:Un (frs X.stack) ch H H' s.heap s'.heap) (hok:HOk X.prog X.w H' s'.heap) (hg:AllBare s'.gens)
  (hch:∀ b ∈ ch,(b ∈ X.ex\/X.s₀.heap.objs.size<=b)/\b ≠ X.env.locals/\(∀ x c,X.env.cells.lookup x = some c->c ≠ b)/\∀ p ∈ X.pn ++ pins,p.1 ≠ b):Inv X pins σ H' s':=by
 obtain ⟨h',g',d',t',o'⟩:=s'
 have e:o' = s.os:=ho
 subst e
 exact I.call (g':=g') (t':=t') (d':=d') u hok hg hch
end
abbrev XK:=Value->Option Addr->Hp->Prop
abbrev St:=List (Option V)
abbrev VK:=V->Hp->Prop
abbrev TE:=St->Hp->VK->Prop
abbrev TT:=St->Hp->(Bool->Hp->Prop)->Prop
abbrev TA:=St->Hp->(List V->Hp->Prop)->Prop
structure Ends where
 nx:St->Hp->Prop
 rt:VK
 bk:St->Hp->Prop:=fun _ _=>False
 ct:St->Hp->Prop:=fun _ _=>False
abbrev TS:=Ends->St->Hp->Prop
def EP (X:Cx) (pins:List (Addr × Obj)) (σ : St) (Q:VK) (u:Value) (s':Shared):Prop:=∃ v H',Inv X pins σ H' s'/\RelV v u/\Q v H'
def TP (X:Cx) (pins:List (Addr × Obj)) (σ : St) (Q:Bool->Hp->Prop) (b:Bool) (s':Shared):Prop:=∃ H',Inv X pins σ H' s'/\Q b H'
def AP (X:Cx) (pins:List (Addr × Obj)) (σ : St) (Q:List V->Hp->Prop) (us:List Value) (s':Shared):Prop:=∃ vs H',Inv X pins σ H' s'/\Vals vs us/\Q vs H'
def SP (X:Cx) (pins:List (Addr × Obj)) (D:Ends) (f:Flow) (s':Shared):Prop:=
 match f with
 | .next=>∃ σ' H',Inv X pins σ' H' s'/\D.nx σ' H'
 | .brk=>∃ σ' H',Inv X pins σ' H' s'/\D.bk σ' H'
 | .cont=>∃ σ' H',Inv X pins σ' H' s'/\D.ct σ' H'
 | .ret u=>∃ v σ' H',Inv X pins σ' H' s'/\RelV v u/\D.rt v H'
structure PE (X:Cx) (e:Expr) (t:TE):Prop where
 run:∀ (pins:List (Addr × Obj)) (s:Shared) (σ : St) (H:Hp) (Q:VK),Inv X pins σ H s->t σ H Q->wpAny (model X.prog X.w) X.A (eval e X.env) (EP X pins σ Q) X.xe s
instance {X:Cx} {e:Expr} {t:TE}:CoeFun (PE X e t) (fun _=>∀ (pins:List (Addr × Obj)) (s:Shared) (σ : St) (H:Hp) (Q:VK),Inv X pins σ H s->t σ H Q->wpAny (model X.prog X.w) X.A (eval e X.env) (EP X pins σ Q) X.xe s):=⟨PE.run⟩
structure PT (X:Cx) (e:Expr) (t:TT):Prop where
 run:∀ (pins:List (Addr × Obj)) (s:Shared) (σ : St) (H:Hp) (Q:Bool->Hp->Prop),Inv X pins σ H s->t σ H Q->wpAny (model X.prog X.w) X.A (isTrue e X.env (eval e X.env)) (TP X pins σ Q) X.xe s
instance {X:Cx} {e:Expr} {t:TT}:CoeFun (PT X e t) (fun _=>∀ (pins:List (Addr × Obj)) (s:Shared) (σ : St) (H:Hp) (Q:Bool->Hp->Prop),Inv X pins σ H s->t σ H Q->wpAny (model X.prog X.w) X.A (isTrue e X.env (eval e X.env)) (TP X pins σ Q) X.xe s):=⟨PT.run⟩
structure PW (X:Cx) (e:Expr) (t:TT):Prop where
 run:∀ (whole:Sem Value) (pins:List (Addr × Obj)) (s:Shared) (σ : St) (H:Hp) (Q:Bool->Hp->Prop),Inv X pins σ H s->t σ H Q->wpAny (model X.prog X.w) X.A (isTrue e X.env whole) (TP X pins σ Q) X.xe s
instance {X:Cx} {e:Expr} {t:TT}:CoeFun (PW X e t) (fun _=>∀ (whole:Sem Value) (pins:List (Addr × Obj)) (s:Shared) (σ : St) (H:Hp) (Q:Bool->Hp->Prop),Inv X pins σ H s->t σ H Q->wpAny (model X.prog X.w) X.A (isTrue e X.env whole) (TP X pins σ Q) X.xe s):=⟨PW.run⟩
theorem PW.pt {X:Cx} {e:Expr} {t:TT} (h:PW X e t):PT X e t:=⟨h _⟩
structure PA (X:Cx) (es:List Expr) (t:TA):Prop where
 run:∀ (pos:Pos) (pins:List (Addr × Obj)) (s:Shared) (σ : St) (H:Hp) (Q:List V->Hp->Prop),Inv X pins σ H s->t σ H Q->wpAny (model X.prog X.w) X.A (spliced (backTo pos (starEach es X.env))) (AP X pins σ Q) X.xe s
instance {X:Cx} {es:List Expr} {t:TA}:CoeFun (PA X es t) (fun _=>∀ (pos:Pos) (pins:List (Addr × Obj)) (s:Shared) (σ : St) (H:Hp) (Q:List V->Hp->Prop),Inv X pins σ H s->t σ H Q->wpAny (model X.prog X.w) X.A (spliced (backTo pos (starEach es X.env))) (AP X pins σ Q) X.xe s):=⟨PA.run⟩
structure PS (X:Cx) (st:Stmt) (t:TS):Prop where
 run:∀ (pins:List (Addr × Obj)) (s:Shared) (σ : St) (H:Hp) (D:Ends),Inv X pins σ H s->t D σ H->wpAny (model X.prog X.w) X.A (exec st X.env) (SP X pins D) X.xe s
instance {X:Cx} {st:Stmt} {t:TS}:CoeFun (PS X st t) (fun _=>∀ (pins:List (Addr × Obj)) (s:Shared) (σ : St) (H:Hp) (D:Ends),Inv X pins σ H s->t D σ H->wpAny (model X.prog X.w) X.A (exec st X.env) (SP X pins D) X.xe s):=⟨PS.run⟩
structure PSs (X:Cx) (st:List Stmt) (t:TS):Prop where
 run:∀ (pins:List (Addr × Obj)) (s:Shared) (σ : St) (H:Hp) (D:Ends),Inv X pins σ H s->t D σ H->wpAny (model X.prog X.w) X.A (execs st X.env) (SP X pins D) X.xe s
instance {X:Cx} {st:List Stmt} {t:TS}:CoeFun (PSs X st t) (fun _=>∀ (pins:List (Addr × Obj)) (s:Shared) (σ : St) (H:Hp) (D:Ends),Inv X pins σ H s->t D σ H->wpAny (model X.prog X.w) X.A (execs st X.env) (SP X pins D) X.xe s):=⟨PSs.run⟩
theorem thn {α : Type} {t:Sem α} {Q Q' : α->Shared->Prop} {M:Model} {A:Around} {E:Value->Shared->Prop} {s:Shared} (h:wpAny M A t Q E s) (hQ:∀ a s,Q a s->Q' a s):wpAny M A t Q' E s:=wpAny_mono h hQ fun _ _ x=>x
section
variable {X:Cx}
theorem bin {a b:Expr} {ta tb:TE} (ha:PE X a ta) (hb:PE X b tb) {pins:List (Addr × Obj)} {s:Shared} {σ : St} {H:Hp} {R:V->V->Hp->Prop} (I:Inv X pins σ H s) (h:ta σ H fun x H1=>tb σ H1 fun y H2=>R x y H2)
  {α : Type} {Q : α->Shared->Prop} {f:Value->Value->Sem α}
  (hf:∀ v u s2 x y H2,Inv X pins σ H2 s2->RelV x v->RelV y u->R x y H2->wpAny (model X.prog X.w) X.A (f v u) Q X.xe s2) :
  wpAny (model X.prog X.w) X.A (eval a X.env) (fun v s₁=>wpAny (model X.prog X.w) X.A (eval b X.env) (fun u s₂=>wpAny (model X.prog X.w) X.A (f v u) Q X.xe s₂) X.xe s₁) X.xe s:=by
 refine thn (ha pins s σ H _ I h) fun v s1 ⟨x,H1,I1,r1,q1⟩=>?_
 refine thn (hb pins s1 σ H1 _ I1 q1) fun u s2 ⟨y,H2,I2,r2,q2⟩=>?_
 exact hf v u s2 x y H2 I2 r1 r2 q2
inductive IVar (i:Nat) (σ : St) (H:Hp) (Q:VK):Prop where
 | mk (v:V) (e : σ[i]? = some (some v)) (q:Q v H)
def tVar (i:Nat):TE:=fun σ H Q=>IVar i σ H Q
def tC (v:V):TE:=fun _ H Q=>Q v H
theorem pe_var {i:Nat} {x:Str} {pos:Pos} (hN:X.N[i]? = some x) (hv:Vis X.env.scope x) (hd:(x == ("__debug__" : Str)) = false:=by decide) (hcd:(x == ("__classdict__" : Str)) = false:=by decide):PE X (.Name x pos) (tVar i):=by
 refine ⟨?_⟩
 intro pins s σ H Q I h
 obtain ⟨v,e,h⟩:=h
 obtain ⟨m,hn,hl⟩:=I.loc
 obtain ⟨u,r,l⟩:=hl i x v hN e hv
 have fin:EP X pins σ Q u s:=⟨v,H,I,r,h⟩
 rcases l with ⟨hk,hm⟩ | ⟨hk,c,hc,hcell⟩
 ·exact wpAny_Name (wpAny_loadName_local I.ok.kind hk hn hm fin) hd
 ·rcases hk with hk | hk
  ·exact wpAny_Name (wpAny_loadName_cell I.ok.kind hk hc hcell fin) hd
  ·exact wpAny_Name (wpAny_loadName_free I.ok.kind hk hc hcell fin hcd) hd
theorem pe_int {i j pos}:PE X (.Constant (.int i) j pos) (tC (.int i)):=⟨fun _ _ _ H _ I h=>wpAny_Constant_int ⟨.int i,H,I.tok _,⟨_,rfl⟩,h⟩⟩
theorem pe_bl {b j pos}:PE X (.Constant (.bool b) j pos) (tC (.bl b)):=⟨fun _ _ _ H _ I h=>Constant_bool ⟨.bl b,H,I,rfl,h⟩⟩
theorem pe_non {j pos}:PE X (.Constant .none j pos) (tC .non):=⟨fun _ _ _ H _ I h=>Constant_none ⟨.non,H,I,rfl,h⟩⟩
theorem pe_str {x j pos}:PE X (.Constant (.str x) j pos) (tC (.str x)):=⟨fun _ _ _ H _ I h=>Calls.Constant_str ⟨.str x,H,I.tok _,⟨_,rfl⟩,h⟩⟩
def Gl (X:Cx) (x:Str):Prop:=X.env.kindOf x = some .globalImplicit
theorem ld_glob {E:Value->Shared->Prop} {pins:List (Addr × Obj)} {s:Shared} {σ : St} {H:Hp} {x:Str} {u:Value} {pos:Pos} {Q:Value->Shared->Prop} (I:Inv X pins σ H s) (hg:Gl X x) (hm:X.mg x = some u) (h:Q u s)
  (hd:(x == ("__debug__" : Str)) = false:=by decide):wpAny (model X.prog X.w) X.A (eval (.Name x pos) X.env) Q E s:=
 Calls.Name_function_global I.ok.kind hg (Calls.loadGlobal_global (by rw [I.ok.glob]; exact I.mod.glob.keeps I.bk) hm h) hd
theorem ld_blt {E:Value->Shared->Prop} {pins:List (Addr × Obj)} {s:Shared} {σ : St} {H:Hp} {x:Str} {u:Value} {pos:Pos} {Q:Value->Shared->Prop} (I:Inv X pins σ H s) (hg:Gl X x) (hm:X.mg x = none) (hv:bootBuiltins x = some u) (h:Q u s)
  (hn:x ≠ "__name__":=by decide) (hd:(x == ("__debug__" : Str)) = false:=by decide):wpAny (model X.prog X.w) X.A (eval (.Name x pos) X.env) Q E s:=by
 obtain ⟨mb,h1,h2⟩:=I.mod.blt
 exact Calls.Name_function_global I.ok.kind hg (Calls.loadGlobal_builtin (by rw [I.ok.glob]; exact I.mod.glob.keeps I.bk) hm (by rw [I.ok.blt]; exact h1.keeps I.bk) ((h2 x hn).trans hv) h) hd
theorem pe_glob {x:Str} {v:V} {u:Value} {pos:Pos} (hg:Gl X x) (hm:X.mg x = some u) (r:RelV v u) (hd:(x == ("__debug__" : Str)) = false:=by decide):PE X (.Name x pos) (tC v):=⟨fun _ _ _ H _ I h=>ld_glob I hg hm ⟨v,H,I,r,h⟩ hd⟩
theorem pe_bltn {x:Str} {v:V} {u:Value} {pos:Pos} (hg:Gl X x) (hm:X.mg x = none) (hv:bootBuiltins x = some u) (r:RelV v u) (hn:x ≠ "__name__":=by decide) (hd:(x == ("__debug__" : Str)) = false:=by decide):PE X (.Name x pos) (tC v):=⟨fun _ _ _ H _ I h=>ld_blt I hg hm hv ⟨v,H,I,r,h⟩ hn hd⟩
variable {a b:Expr} {ta tb:TE} {pos:Pos}
structure PC (X:Cx) (op:CmpOp) (a b:Expr) (t:TE):Prop where
 run:∀ (pins:List (Addr × Obj)) (s:Shared) (σ : St) (H:Hp) (Q:VK),Inv X pins σ H s->t σ H Q->
  wpAny (model X.prog X.w) X.A (eval a X.env) (fun v s₁=>wpAny (model X.prog X.w) X.A (eval b X.env) (fun u s₂=>wpAny (model X.prog X.w) X.A (compareOp op v u) (EP X pins σ Q) X.xe s₂) X.xe s₁) X.xe s
instance {X:Cx} {op:CmpOp} {a b:Expr} {t:TE}:CoeFun (PC X op a b t) (fun _=>∀ (pins:List (Addr × Obj)) (s:Shared) (σ : St) (H:Hp) (Q:VK),Inv X pins σ H s->t σ H Q->
  wpAny (model X.prog X.w) X.A (eval a X.env) (fun v s₁=>wpAny (model X.prog X.w) X.A (eval b X.env) (fun u s₂=>wpAny (model X.prog X.w) X.A (compareOp op v u) (EP X pins σ Q) X.xe s₂) X.xe s₁) X.xe s):=⟨PC.run⟩
theorem nobehind (b:Expr) {op:CmpOp} (h:op ≠ .In) (h2:op ≠ .NotIn):behindInMarks op b = false:=by
 have e1:(op == CmpOp.In) = false:=by cases op <;> first | rfl | exact absurd rfl h
 have e2:(op == CmpOp.NotIn) = false:=by cases op <;> first | rfl | exact absurd rfl h2
 cases b <;> simp [behindInMarks,e1,e2]
def tIsN (ta:TE):TE:=fun σ H Q=>ta σ H fun x H1=>Q (.bl (decide (x = .non))) H1
def tNotN (ta:TE):TE:=fun σ H Q=>ta σ H fun x H1=>Q (.bl (!decide (x = .non))) H1
theorem RelV.none_iff {x:V} {v:Value} (r:RelV x v):(v == Value.none) = decide (x = .non):=by
 cases x with
 | non=>cases r; rfl
 | bl _=>cases r; rfl
 | int _=>obtain ⟨t,rfl⟩:=r; rfl
 | str _=>obtain ⟨t,rfl⟩:=r; rfl
 | byt _=>obtain ⟨t,rfl⟩:=r; rfl
 | flt _=>obtain ⟨t,rfl⟩:=r; rfl
 | ref _=>cases r; rfl
 | ty _=>cases r; rfl
theorem pc_isN {j pos'} (ha:PE X a ta):PC X .Is a (.Constant .none j pos') (tIsN ta):=by
 refine ⟨?_⟩
 intro pins s σ H Q I h
 refine thn (ha pins s σ H _ I h) fun v s1 ⟨x,H1,I1,r1,q1⟩=>?_
 exact Constant_none (is_none_gen ⟨.bl _,H1,I1,by rw [r1.none_iff]; rfl,q1⟩)
theorem pc_notN {j pos'} (ha:PE X a ta):PC X .IsNot a (.Constant .none j pos') (tNotN ta):=by
 refine ⟨?_⟩
 intro pins s σ H Q I h
 refine thn (ha pins s σ H _ I h) fun v s1 ⟨x,H1,I1,r1,q1⟩=>?_
 exact Constant_none (isnot_none_gen ⟨.bl _,H1,I1,by rw [r1.none_iff]; rfl,q1⟩)
def tB (t:TE):TT:=fun σ H Q=>t σ H fun x H1=>∃ c,x = .bl c/\Q c H1
theorem pt_cmp {op:CmpOp} {t:TE} (h:PC X op a b t) (h1:behindInMarks op b = false:=by first | exact nobehind _ (by decide) (by decide) | rfl):PT X (.Compare a [op] [b] pos) (tB t):=by
 refine ⟨?_⟩
 intro pins s σ H Q I hw
 refine wpAny_isTrue_Compare1 (thn (h pins s σ H _ I hw) fun v s1 h1=>thn h1 fun u s2 h2=>thn h2 fun c s3 ⟨x,H1,I1,r1,q1⟩=>?_) h1
 obtain ⟨d,rfl,q⟩:=q1
 cases r1
 exact wpAny_truthy_bool ⟨H1,I1,q⟩
theorem pt_val {e:Expr} {t:TE} (h:PE X e t) (he:∀ whole,isTrue e X.env whole = (do let v <- whole; standAt e.pos; holding [v] (truthy v)):=by intro _; rfl):PT X e (tB t):=by
 refine ⟨?_⟩
 intro pins s σ H Q I hw
 refine isTrue_plain (thn (h pins s σ H _ I hw) fun v s1 ⟨x,H1,I1,r1,q1⟩=>?_) (he _)
 obtain ⟨d,rfl,q⟩:=q1
 cases r1
 exact wpAny_truthy_bool ⟨H1,I1,q⟩
variable {tA tB':TT} {rest:List Expr}
def tAnd (t u:TT):TT:=fun σ H Q=>t σ H fun c H1=>if c = true then u σ H1 Q else Q false H1
def tOr (t u:TT):TT:=fun σ H Q=>t σ H fun c H1=>if c = true then Q true H1 else u σ H1 Q
def tNot (t:TT):TT:=fun σ H Q=>t σ H fun c H1=>Q (!c) H1
theorem pw_and1 (ha:PT X a tA):PW X (.BoolOp .And [a] pos) tA:=by
 refine ⟨?_⟩
 intro wh pins s σ H Q I h
 refine isTrue_and (thn (ha pins s σ H Q I h) fun c s1 e=>?_)
 cases c with
 | true=>exact isTrue_and_nil e
 | false=>exact e
theorem pw_or1 (ha:PT X a tA):PW X (.BoolOp .Or [a] pos) tA:=by
 refine ⟨?_⟩
 intro wh pins s σ H Q I h
 refine isTrue_or (thn (ha pins s σ H Q I h) fun c s1 e=>?_)
 cases c with
 | false=>exact isTrue_or_nil e
 | true=>exact e
theorem pw_and (ha:PT X a tA) (hb:PW X (.BoolOp .And (b :: rest) pos) tB'):PW X (.BoolOp .And (a :: b :: rest) pos) (tAnd tA tB'):=by
 refine ⟨?_⟩
 intro wh pins s σ H Q I h
 refine isTrue_and (thn (ha pins s σ H _ I h) fun c s1 ⟨H1,I1,q1⟩=>?_)
 cases c with
 | true=>exact hb wh pins s1 σ H1 Q I1 q1
 | false=>exact ⟨H1,I1,q1⟩
theorem pw_or (ha:PT X a tA) (hb:PW X (.BoolOp .Or (b :: rest) pos) tB'):PW X (.BoolOp .Or (a :: b :: rest) pos) (tOr tA tB'):=by
 refine ⟨?_⟩
 intro wh pins s σ H Q I h
 refine isTrue_or (thn (ha pins s σ H _ I h) fun c s1 ⟨H1,I1,q1⟩=>?_)
 cases c with
 | true=>exact ⟨H1,I1,q1⟩
 | false=>exact hb wh pins s1 σ H1 Q I1 q1
theorem pt_not (ha:PT X a tA):PT X (.UnaryOp .Not a pos) (tNot tA):=by
 refine ⟨?_⟩
 intro pins s σ H Q I h
 exact isTrue_not (ha pins s σ H (fun c H1=>Q (!c) H1) I h)
def tAndV (ta tb:TE):TE:=fun σ H Q=>ta σ H fun x H1=>∃ c,x = .bl c/\if c = true then tb σ H1 Q else Q (.bl false) H1
def tNotV (ta:TE):TE:=fun σ H Q=>ta σ H fun x H1=>∃ c,x = .bl c/\Q (.bl (!c)) H1
theorem pe_one {op} {t:TE} (h:PE X a t):PE X (.BoolOp op [a] pos) t:=⟨fun pins s σ H Q I hw=>BoolOp_one (h pins s σ H Q I hw)⟩
theorem pe_and (ha:PE X a ta) (hb:PE X (.BoolOp .And (b :: rest) pos) tb):PE X (.BoolOp .And (a :: b :: rest) pos) (tAndV ta tb):=by
 refine ⟨?_⟩
 intro pins s σ H Q I h
 refine BoolOp_and (thn (ha pins s σ H _ I h) fun v s1 ⟨x,H1,I1,r1,q1⟩=>?_)
 obtain ⟨c,rfl,q1⟩:=q1
 cases r1
 refine wpAny_truthy_bool ?_
 cases c with
 | true=>exact hb pins s1 σ H1 Q I1 q1
 | false=>exact ⟨.bl false,H1,I1,rfl,q1⟩
theorem pe_not (ha:PE X a ta):PE X (.UnaryOp .Not a pos) (tNotV ta):=by
 refine ⟨?_⟩
 intro pins s σ H Q I h
 refine UnaryOp_ (thn (ha pins s σ H _ I h) fun v s1 ⟨x,H1,I1,r1,q1⟩=>?_)
 obtain ⟨c,rfl,q1⟩:=q1
 cases r1
 exact not_of (wpAny_truthy_bool ⟨.bl (!c),H1,I1,rfl,q1⟩)
def tIf (t:TT) (ta tb:TE):TE:=fun σ H Q=>t σ H fun c H1=>if c = true then ta σ H1 Q else tb σ H1 Q
theorem pe_ifExp {c:Expr} (hc:PT X c tA) (ha:PE X a ta) (hb:PE X b tb):PE X (.IfExp c a b pos) (tIf tA ta tb):=by
 refine ⟨?_⟩
 intro pins s σ H Q I h
 refine wpAny_IfExp (thn (hc pins s σ H _ I h) fun d s1 ⟨H1,I1,q1⟩=>?_)
 cases d with
 | true=>exact ha pins s1 σ H1 Q I1 q1
 | false=>exact hb pins s1 σ H1 Q I1 q1
end
def SqL (K:PySem.W.Frag) (H:Hp) (a:Addr) (xs:List V):Prop:=
 Rd H a (.lst xs)\/
  ∃ (o:Obj) (its:Array Value) (n:Nat),K.lookup a = some o/\o.cls = .type "list"/\o.dict = none/\o.data = .seq its n/\its.size<=sizeLine/\Vals xs its.toList
def SqT (K:PySem.W.Frag) (H:Hp) (a:Addr) (xs:List V):Prop:=
 Rd H a (.tup xs)\/
  ∃ (o:Obj) (its:Array Value) (n:Nat),K.lookup a = some o/\o.cls = .type "tuple"/\o.data = .seq its n/\its.size<=sizeLine/\Vals xs its.toList
def absV:Value->Option V
 | .none=>some .non
 | .bool b=>some (.bl b)
 | .int i _=>some (.int i)
 | .str x _=>some (.str x)
 | .bytes b _=>some (.byt b)
 | .float b _=>some (.flt b)
 | .ref a=>some (.ref a)
 | .type n=>some (.ty n)
 | _=>none
theorem RelV.abs {x:V} {u:Value} (r:RelV x u):absV u = some x:=by
 cases x with
 | non=>cases r; rfl
 | bl _=>cases r; rfl
 | int _=>obtain ⟨t,rfl⟩:=r; rfl
 | str _=>obtain ⟨t,rfl⟩:=r; rfl
 | byt _=>obtain ⟨t,rfl⟩:=r; rfl
 | flt _=>obtain ⟨t,rfl⟩:=r; rfl
 | ref _=>cases r; rfl
 | ty _=>cases r; rfl
theorem RelV.inj {x y:V} {u:Value} (r:RelV x u) (q:RelV y u):x = y:=Option.some.inj (r.abs.symm.trans q.abs)
theorem Vals.inj:∀ {xs ys:List V} {us:List Value},Vals xs us->Vals ys us->xs = ys
 | _,_,_,.nil,.nil=>rfl
 | _,_,_,.cons r t,.cons r' t'=>by rw [r.inj r',Vals.inj t t']
section
variable {X:Cx} {pins:List (Addr × Obj)} {σ : St} {H:Hp} {s:Shared} {a:Addr} {xs ys:List V}
theorem SqL.of {K:PySem.W.Frag} (h:H a = some (.lst xs)):SqL K H a xs:=.inl (.inl h)
theorem SqT.of {K:PySem.W.Frag} (h:H a = some (.tup xs)):SqT K H a xs:=.inl (.inl h)
theorem Inv.list (I:Inv X pins σ H s) (h:SqL X.K H a xs):∃ its:List Value,Vals xs its/\PlainL s.heap a its.toArray/\xs.length<=sizeLine:=by
 rcases h with h | ⟨o,its,n,hk,hc,hd,hs,hz,r⟩
 ·obtain ⟨z,its,n,r,e⟩:=h.ok I.hok
  exact ⟨its,r,⟨_,n,e,rfl,rfl,rfl⟩,z⟩
 ·refine ⟨its.toList,r,⟨o,n,I.kIn a o hk,hc,hd,by simpa using hs⟩,?_⟩
  have e:=r.length
  simp only [Array.length_toList] at e
  omega
theorem Inv.tuple (I:Inv X pins σ H s) (h:SqT X.K H a xs):∃ its:List Value,Vals xs its/\IsTup s.heap a its.toArray/\xs.length<=sizeLine:=by
 rcases h with h | ⟨o,its,n,hk,hc,hs,hz,r⟩
 ·obtain ⟨z,its,r,p⟩:=h.ok I.hok
  exact ⟨its,r,p,z⟩
 ·refine ⟨its.toList,r,⟨o,I.kIn a o hk,hc,n,by simpa using hs⟩,?_⟩
  have e:=r.length
  simp only [Array.length_toList] at e
  omega
theorem Inv.list_inj (I:Inv X pins σ H s) (h:SqL X.K H a xs) (h':SqL X.K H a ys):xs = ys:=by
 obtain ⟨its,r,⟨o,n,e,_,_,d⟩,_⟩:=I.list h
 obtain ⟨its',r',⟨o',n',e',_,_,d'⟩,_⟩:=I.list h'
 rw [e] at e'; cases e'
 rw [d] at d'
 injection d' with d1 _
 have:its = its':=by simpa using congrArg Array.toList d1
 subst this
 exact r.inj r'
end
abbrev Cx.wish (X:Cx) (E:Value->Shared->Prop):Cx:={ X with xe:=E }
abbrev Cx.nox (X:Cx):Cx:=X.wish fun _ _=>False
theorem Cx.Ok.wish {X:Cx} (ok:X.Ok) (E:Value->Shared->Prop):(X.wish E).Ok:=
 ⟨ok.mod,ok.kind,ok.glob,ok.blt,ok.above,ok.inj,ok.has,ok.cab,ok.hd,ok.frames,ok.stk,ok.exf,ok.bs,ok.bsz,ok.noex,ok.exfs,ok.funs,ok.frf⟩
theorem Cx.Ok.unwish {X:Cx} {E:Value->Shared->Prop} (ok:(X.wish E).Ok):X.Ok:=
 ⟨ok.mod,ok.kind,ok.glob,ok.blt,ok.above,ok.inj,ok.has,ok.cab,ok.hd,ok.frames,ok.stk,ok.exf,ok.bs,ok.bsz,ok.noex,ok.exfs,ok.funs,ok.frf⟩
section
variable {X:Cx} {pins:List (Addr × Obj)} {σ : St} {H:Hp} {s:Shared} {E:Value->Shared->Prop}
theorem Inv.wish (I:Inv X pins σ H s) (E:Value->Shared->Prop):Inv (X.wish E) pins σ H s:=⟨I.ok.wish E,I.os,I.bare,I.base,I.loc,I.cell,I.free,I.freeC,I.pin,I.hok,I.len⟩
theorem Inv.unwish (I:Inv (X.wish E) pins σ H s):Inv X pins σ H s:=⟨I.ok.unwish,I.os,I.bare,I.base,I.loc,I.cell,I.free,I.freeC,I.pin,I.hok,I.len⟩
theorem SP.unwish {D:Ends} {f:Flow} {s':Shared} (h:SP (X.wish E) pins D f s'):SP X pins D f s':=by
 cases f with
 | next=>obtain ⟨σ',H',I,q⟩:=h; exact ⟨σ',H',I.unwish,q⟩
 | brk=>obtain ⟨σ',H',I,q⟩:=h; exact ⟨σ',H',I.unwish,q⟩
 | cont=>obtain ⟨σ',H',I,q⟩:=h; exact ⟨σ',H',I.unwish,q⟩
 | ret u=>obtain ⟨v,σ',H',I,r,q⟩:=h; exact ⟨v,σ',H',I.unwish,r,q⟩
theorem PSs.nox {st:List Stmt} {t:TS} (h:PSs X.nox st t):PSs X st t:=⟨fun pins s σ H D I hw=>
 wpAny_mono (h pins s σ H D (I.wish _) hw) (fun _ _ q=>q.unwish) fun _ _ z=>False.elim z⟩
end
section
variable {X:Cx} {st:Stmt} {rest:List Stmt} {t u:TS} {e:Expr} {te:TE} {pos:Pos}
def tNext:TS:=fun D σ H=>D.nx σ H
def tSeq (t u:TS):TS:=fun D σ H=>t { D with nx:=u D } σ H
theorem pss_nil:PSs X [] tNext:=⟨fun _ _ σ H _ I h=>wpAny_execs_nil ⟨σ,H,I,h⟩⟩
theorem pss_cons (h1:PS X st t) (h2:PSs X rest u):PSs X (st :: rest) (tSeq t u):=by
 refine ⟨?_⟩
 intro pins s σ H D I h
 refine wpAny_execs_cons (thn (h1 pins s σ H { D with nx:=u D } I h) fun f s1 q=>?_)
 cases f with
 | next=>
  obtain ⟨σ',H',I',q⟩:=q
  exact h2 pins s1 σ' H' D I' q
 | ret v=>exact q
 | brk=>exact q
 | cont=>exact q
theorem pss_one (h1:PS X st t):PSs X [st] t:=by
 refine ⟨?_⟩
 intro pins s σ H D I h
 refine wpAny_execs_cons (thn (h1 pins s σ H D I h) fun f s1 q=>?_)
 cases f with
 | next=>exact wpAny_execs_nil q
 | ret v=>exact q
 | brk=>exact q
 | cont=>exact q
def tCont:TS:=fun D σ H=>D.ct σ H
theorem ps_continue:PS X (.Continue pos) tCont:=⟨fun _ _ σ H _ I h=>wpAny_Continue ⟨σ,H,I,h⟩⟩
theorem Inv.quiet {pins:List (Addr × Obj)} {σ : St} {H:Hp} {s:Shared} (I:Inv X pins σ H s):interactive X.env = false:=by simp [interactive,I.ok.kind]
def tDrop (te:TE):TS:=fun D σ H=>te σ H fun _ H1=>D.nx σ H1
theorem ps_expr (he:PE X e te) (hs:swapsWith e none pos.line X.env = pure false:=by rfl):PS X (.Expr e pos) (tDrop te):=by
 refine ⟨?_⟩
 intro pins s σ H D I h
 exact wpAny_Expr_any (thn (he pins s σ H _ I h) fun v s1 ⟨x,H1,I1,r1,q1⟩=>⟨σ,H1,I1,q1⟩) I.quiet hs
def tRet (te:TE):TS:=fun D σ H=>te σ H D.rt
theorem ps_ret (he:PE X e te):PS X (.Return (some e) pos) (tRet te):=by
 refine ⟨?_⟩
 intro pins s σ H D I h
 exact wpAny_Return_some (thn (he pins s σ H _ I h) fun v s1 ⟨x,H1,I1,r1,q1⟩=>⟨x,σ,H1,I1,r1,q1⟩)
def tIfS (c:TT) (t u:TS):TS:=fun D σ H=>c σ H fun b H1=>if b = true then t D σ H1 else u D σ H1
theorem ps_if {c:Expr} {a b:List Stmt} {tc:TT} (hc:PT X c tc) (ha:PSs X a t) (hb:PSs X b u):PS X (.If c a b pos) (tIfS tc t u):=by
 refine ⟨?_⟩
 intro pins s σ H D I h
 refine wpAny_If (thn (hc pins s σ H _ I h) fun d s1 ⟨H1,I1,q1⟩=>?_)
 cases d with
 | true=>exact ha pins s1 σ H1 D I1 q1
 | false=>exact hb pins s1 σ H1 D I1 q1
end
abbrev TG:=V->St->Hp->(St->Hp->Prop)->Prop
abbrev TGs:=List V->St->Hp->(St->Hp->Prop)->Prop
structure PG (X:Cx) (target:Expr) (t:TG):Prop where
 run:∀ (pins:List (Addr × Obj)) (s:Shared) (σ : St) (H:Hp) (v:V) (u:Value) (Q:St->Hp->Prop),Inv X pins σ H s->RelV v u->t v σ H Q->
  wpAny (model X.prog X.w) X.A (assign target X.env u) (fun _ s'=>∃ σ' H',Inv X pins σ' H' s'/\Q σ' H') X.xe s
instance {X:Cx} {target:Expr} {t:TG}:CoeFun (PG X target t) (fun _=>∀ (pins:List (Addr × Obj)) (s:Shared) (σ : St) (H:Hp) (v:V) (u:Value) (Q:St->Hp->Prop),Inv X pins σ H s->RelV v u->t v σ H Q->
  wpAny (model X.prog X.w) X.A (assign target X.env u) (fun _ s'=>∃ σ' H',Inv X pins σ' H' s'/\Q σ' H') X.xe s):=⟨PG.run⟩
structure PGs (X:Cx) (ts:List Expr) (t:TGs):Prop where
 run:∀ (pins:List (Addr × Obj)) (s:Shared) (σ : St) (H:Hp) (vs:List V) (us:List Value) (Q:St->Hp->Prop),Inv X pins σ H s->Vals vs us->t vs σ H Q->
  wpAny (model X.prog X.w) X.A (assignInOrder ((assignEach ts X.env).map (·.2)) us) (fun _ s'=>∃ σ' H',Inv X pins σ' H' s'/\Q σ' H') X.xe s
instance {X:Cx} {ts:List Expr} {t:TGs}:CoeFun (PGs X ts t) (fun _=>∀ (pins:List (Addr × Obj)) (s:Shared) (σ : St) (H:Hp) (vs:List V) (us:List Value) (Q:St->Hp->Prop),Inv X pins σ H s->Vals vs us->t vs σ H Q->
  wpAny (model X.prog X.w) X.A (assignInOrder ((assignEach ts X.env).map (·.2)) us) (fun _ s'=>∃ σ' H',Inv X pins σ' H' s'/\Q σ' H') X.xe s):=⟨PGs.run⟩
abbrev TSet:=V->V->V->Hp->(Hp->Prop)->Prop
def PSet (X:Cx) (t:TSet):Prop:=
 ∀ (pins:List (Addr × Obj)) (s:Shared) (σ : St) (H:Hp) (o i v:V) (ov iv u:Value) (Q:Hp->Prop),Inv X pins σ H s->RelV o ov->RelV i iv->RelV v u->t o i v H Q->
  wpAny (model X.prog X.w) X.A (setItem ov iv u) (fun _ s'=>∃ H',Inv X pins σ H' s'/\Q H') X.xe s
section
variable {X:Cx} {pos:Pos}
def gName (i:Nat):TG:=fun v σ H Q=>Q (σ.set i (some v)) H
theorem pg_name {i:Nat} {x:Str} (hN:X.N.Nodup) (hi:X.N[i]? = some x) (hx:Loc X.env.scope x) (hf:X.fn x = true\/X.env.scope.names.lookup x = some .local:=by first | exact .inl rfl | exact .inr rfl | assumption):PG X (.Name x pos) (gName i):=by
 refine ⟨?_⟩
 intro pins s σ H v u Q I r h
 exact wpAny_assign_Name (store_ok I hN hi hx r (fun s' I'=>⟨_,H,I',h⟩) hf)
def gNil:TGs:=fun vs σ H Q=>vs = []/\Q σ H
def gCons (t:TG) (u:TGs):TGs:=fun vs σ H Q=>∃ v r,vs = v :: r/\t v σ H fun σ' H'=>u r σ' H' Q
theorem pgs_nil:PGs X [] gNil:=by
 refine ⟨?_⟩
 intro pins s σ H vs us Q I r h
 obtain ⟨e,h⟩:=h
 subst e
 cases r
 exact assignInOrder_nil ⟨σ,H,I,h⟩
theorem pgs_cons {e:Expr} {es:List Expr} {t:TG} {u:TGs} (h1:PG X e t) (h2:PGs X es u)
  (hs:(assignEach (e :: es) X.env).map (·.2) = assign e X.env :: (assignEach es X.env).map (·.2):=by rfl):PGs X (e :: es) (gCons t u):=by
 refine ⟨?_⟩
 intro pins s σ H vs us Q I r h
 obtain ⟨v,vr,e1,h⟩:=h
 subst e1
 cases r with
 | cons r rr=>
  rw [hs]
  refine assignInOrder_cons (thn (h1 pins s σ H _ _ _ I r h) fun _ s1 ⟨σ1,H1,I1,q1⟩=>?_)
  exact h2 pins s1 σ1 H1 _ _ Q I1 rr q1
def gTup (K:PySem.W.Frag) (n:Nat) (t:TGs):TG:=fun v σ H Q=>∃ a xs,v = .ref a/\SqT K H a xs/\xs.length = n/\t xs σ H Q
theorem pg_tup {es:List Expr} {k:Nat} {t:TGs} {n:Nat} (hc:X.calm = true) (h:PGs X es t)
  (hn:(assignEach es X.env).length = n:=by rfl) (hst:(assignEach es X.env).findIdx? (·.1) = none:=by rfl):PG X (.Tuple es k pos) (gTup X.K n t):=by
 refine ⟨?_⟩
 intro pins s σ H v u Q I r hw
 obtain ⟨a,xs,e1,hq,hl,hw⟩:=hw
 subst e1
 cases r
 obtain ⟨its,rv,ht,hz⟩:=I.tuple hq
 refine assign_Tuple_tuple (I.ok.hd hc) ht (by simp [hn,<- hl,rv.length]) hst fun h' hx=>?_
 have I1:Inv X pins σ H { s with heap:=h' }:=I.kept (t':=s.toks) fun b o e=>hx b o (Nat.ne_of_lt (Heap.lt_size e)) e
 exact h pins _ σ H xs _ Q I1 (by simpa using rv) hw
def gSub (to ti:TE) (t:TSet):TG:=fun v σ H Q=>to σ H fun o H1=>ti σ H1 fun i H2=>t o i v H2 fun H3=>Q σ H3
theorem pg_sub {o i:Expr} {to ti:TE} {t:TSet} (ho:PE X o to) (hi:PE X i ti) (hs:PSet X t)
  (ha:∀ v,assign (.Subscript o i pos) X.env v = (do
   let ov <- holding [v] (eval o X.env)
   let iv <- holding [v,ov] (eval i X.env)
   standAt pos
   holding [v,ov,iv] (setItem ov iv v)
   release [v,ov,iv] []):=by intro _; rfl):PG X (.Subscript o i pos) (gSub to ti t):=by
 refine ⟨?_⟩
 intro pins s σ H v u Q I r h
 rw [ha]
 refine wpAny_bind (wpAny_holding (thn (ho pins s σ H _ I h) fun ov s1 ⟨x,H1,I1,r1,q1⟩=>?_))
 refine wpAny_bind (wpAny_holding (thn (hi pins s1 σ H1 _ I1 q1) fun iv s2 ⟨y,H2,I2,r2,q2⟩=>?_))
 refine wpAny_bind (wpAny_standAt (wpAny_bind (wpAny_holding (thn (hs pins s2 σ H2 x y v ov iv u _ I2 r1 r2 r q2) fun _ s3 ⟨H3,I3,q3⟩=>?_))))
 exact wpAny_release ⟨σ,H3,I3,q3⟩
def tAsg (te:TE) (g:TG):TS:=fun D σ H=>te σ H fun x H1=>g x σ H1 D.nx
theorem ps_asg {tg e:Expr} {te:TE} {g:TG} (he:PE X e te) (hg:PG X tg g) (hs:swapsWithSole [tg] e pos.line X.env = pure false:=by rfl) (hw:swappedStores [tg] e X.env = pure none:=by rfl)
  (h1:(assignEach [tg] X.env).map (·.2) = [assign tg X.env]:=by rfl):PS X (.Assign [tg] e pos) (tAsg te g):=by
 refine ⟨?_⟩
 intro pins s σ H D I h
 refine wpAny_Assign_stores (thn (he pins s σ H _ I h) fun v s1 ⟨x,H1,I1,r1,q1⟩=>?_) hs hw
 rw [h1]
 exact thn (hg pins s1 σ H1 x v _ I1 r1 q1) fun _ s2 q=>q
theorem ps_set {i:Nat} {x:Str} {e:Expr} {te:TE} {pos':Pos} (hN:X.N.Nodup) (hi:X.N[i]? = some x) (hx:Loc X.env.scope x) (he:PE X e te) (hs:swapsWith e (some (.Name x pos')) pos.line X.env = pure false:=by rfl) (hf:X.fn x = true\/X.env.scope.names.lookup x = some .local:=by first | exact .inl rfl | exact .inr rfl | assumption) :
  PS X (.Assign [.Name x pos'] e pos) (tAsg te (gName i)):=by
 refine ⟨?_⟩
 intro pins s σ H D I h
 refine wpAny_Assign_Name (thn (he pins s σ H _ I h) fun v s1 ⟨y,H1,I1,r1,q1⟩=>?_) hs
 exact store_ok I1 hN hi hx r1 (fun s2 I2=>⟨_,H1,I2,q1⟩) hf
def tWhile (c:TT) (tb:TS):TS:=fun D σ H=>∃ W:Nat->St->Hp->Prop,(∃ m,W m σ H)/\∀ m σ H,W m σ H->
 c σ H fun b H1=>if b = true then ∃ N:St->Hp->Prop,(∀ σ' H',N σ' H'->∃ m',m' < m/\W m' σ' H')/\tb { D with nx:=N,ct:=N,bk:=D.nx } σ H1 else D.nx σ H1
theorem ps_while {c:Expr} {body:List Stmt} {tc:TT} {tb:TS} (hp:PassesOwn (model X.prog X.w) X.A X.env X.xe) (hc:PT X c tc) (hb:PSs X body tb):PS X (.While c body [] pos) (tWhile tc tb):=by
 refine ⟨?_⟩
 intro pins s σ H D I h
 obtain ⟨W,⟨m0,w0⟩,turn⟩:=h
 refine wpAny_While (codeAny_whileLoop (fun n s'=>∃ σ' H',Inv X pins σ' H' s'/\W n σ' H') ?_ m0 ⟨σ,H,I,w0⟩)
 rintro n s1 ⟨σ1,H1,I1,w1⟩
 refine wpAny_passesOwn hp (thn (hc pins s1 σ1 H1 _ I1 (turn n σ1 H1 w1)) fun b s2 ⟨H2,I2,q2⟩=>?_)
 cases b with
 | true=>
  obtain ⟨N,hN,q2⟩:=q2
  rw [if_pos rfl]
  refine wpAny_passesOwn hp (thn (hb pins s2 σ1 H2 _ I2 q2) fun f s3 q3=>?_)
  cases f with
  | next=>
   obtain ⟨σ3,H3,I3,n3⟩:=q3
   obtain ⟨m',hm,w3⟩:=hN σ3 H3 n3
   exact ⟨m',hm,σ3,H3,I3,w3⟩
  | cont=>
   obtain ⟨σ3,H3,I3,n3⟩:=q3
   obtain ⟨m',hm,w3⟩:=hN σ3 H3 n3
   exact ⟨m',hm,σ3,H3,I3,w3⟩
  | brk=>exact q3
  | ret v=>exact q3
 | false=>
  rw [if_neg Bool.false_ne_true]
  exact wpAny_execs_nil ⟨σ1,H2,I2,q2⟩
end
structure It where
 go:Nat->Hp->Prop
 yld:Nat->Hp->V->Hp->Prop
 stop:Nat->Hp->Prop
def FpOk (X:Cx) (pins:List (Addr × Obj)) (H:Hp) (b:Addr):Prop:=
 H b = none/\b ≠ X.env.locals/\b ∉ X.fs/\(b ∈ X.ex\/X.s₀.heap.objs.size<=b)/\(∀ x c,X.env.cells.lookup x = some c->c ≠ b)/\∀ p ∈ X.pn ++ pins,p.1 ≠ b
theorem Inv.fpOk {X:Cx} {pins:List (Addr × Obj)} {σ : St} {H H':Hp} {s:Shared} {b:Addr} (I:Inv X pins σ H s) (hb:s.heap.objs.size<=b) (hn:H' b = none):FpOk X pins H' b:=by
 refine ⟨hn,Nat.ne_of_gt (Nat.lt_of_lt_of_le I.lt hb),I.nofs hb,.inr (Nat.le_trans I.sz hb),fun x c e z=>?_,fun p hp z=>?_⟩
 ·obtain ⟨v,q⟩:=I.cell x c e
  exact absurd (Nat.lt_of_lt_of_le q.lt (by rw [z]; exact hb)) (Nat.lt_irrefl _)
 ·exact absurd (Nat.lt_of_lt_of_le (Heap.lt_size (I.pin p hp).1) (by rw [z]; exact hb)) (Nat.lt_irrefl _)
structure Turn (P:Program) (w:World) (K:PySem.W.Frag) (tg:Expr) (J:It) (fp:List Addr) (it:Addr) (tn:Nat->Heap->Prop):Prop where
 mem:it ∈ fp
 obj:∀ i h,tn i h->∀ b ∈ fp,∃ o,h.get? b = some o/\∀ v,o.data ≠ .cell v
 keep:∀ i h h',tn i h->(∀ b ∈ fp,∀ o,h.get? b = some o->h'.get? b = some o)->tn i h'
 item:∀ (X:Cx),X.prog = P->X.w = w->X.K = K->X.calm = true->∀ (i:Nat) (pins:List (Addr × Obj)) (s:Shared) (σ : St) (H:Hp) (E:Value->Shared->Prop),Inv X pins σ H s->(∀ b ∈ fp,FpOk X pins H b)->tn i s.heap->J.go i H->
  wpAny (model P w) X.A (pyNext (.ref it)) (fun r s1=>∃ u,r = some u/\
   wpAny (model P w) X.A (letOwnedTupleGo tg (.ref it) u) (fun _ s2=>∃ x H',Inv X pins σ H' s2/\RelV x u/\J.yld i H x H'/\tn (i + 1) s2.heap/\∀ b ∈ fp,H' b = none) E s1) E s
 done:∀ (X:Cx),X.prog = P->X.w = w->X.K = K->X.calm = true->∀ (i:Nat) (pins:List (Addr × Obj)) (s:Shared) (σ : St) (H:Hp) (E:Value->Shared->Prop),Inv X pins σ H s->(∀ b ∈ fp,FpOk X pins H b)->tn i s.heap->J.stop i H->
  wpAny (model P w) X.A (pyNext (.ref it)) (fun r s1=>r = none/\Inv X pins σ H s1) E s
 self:∀ (A:Around) (i:Nat) (s:Shared) (Q:Value->Shared->Prop) (E:Value->Shared->Prop),tn i s.heap->Q (.ref it) s->wpAny (model P w) A (pyIter (.ref it)) Q E s
abbrev TI:=St->Hp->(It->Hp->Prop)->Prop
def PIE (X:Cx) (pins:List (Addr × Obj)) (σ : St) (tg:Expr) (R:It->Hp->Prop) (itv:Value) (s2:Shared):Prop:=
 ∃ (it:Addr) (fp:List Addr) (tn:Nat->Heap->Prop) (J:It) (H':Hp),itv = .ref it/\Inv X pins σ H' s2/\Turn X.prog X.w X.K tg J fp it tn/\tn 0 s2.heap/\(∀ b ∈ fp,FpOk X pins H' b)/\R J H'
structure PI (X:Cx) (tg iter:Expr) (wi:TI):Prop where
 run:∀ (pins:List (Addr × Obj)) (s:Shared) (σ : St) (H:Hp) (R:It->Hp->Prop),Inv X pins σ H s->wi σ H R->
  wpAny (model X.prog X.w) X.A (eval iter X.env) (fun v s1=>wpAny (model X.prog X.w) X.A (pyIter v) (PIE X pins σ tg R) X.xe s1) X.xe s
instance {X:Cx} {tg iter:Expr} {wi:TI}:CoeFun (PI X tg iter wi) (fun _=>∀ (pins:List (Addr × Obj)) (s:Shared) (σ : St) (H:Hp) (R:It->Hp->Prop),Inv X pins σ H s->wi σ H R->
  wpAny (model X.prog X.w) X.A (eval iter X.env) (fun v s1=>wpAny (model X.prog X.w) X.A (pyIter v) (PIE X pins σ tg R) X.xe s1) X.xe s):=⟨PI.run⟩
theorem go_of {M:Model} {A:Around} {E:Value->Shared->Prop} {s:Shared} {tg:Expr} {it:Addr} {u:Value} {o:Obj} {n:String} {vs:Array Value} {Q:Unit->Shared->Prop} (ho:s.heap.get? it = some o) (hc:o.cls = .type n) (hd:o.data = .fields vs)
  (hn:["enumerate","zip","dict_itemiterator","dict_reverseitemiterator","odict_iterator","itertools.zip_longest","itertools.pairwise"].contains n = false) (hQ:Q () s):wpAny M A (letOwnedTupleGo tg (.ref it) u) Q E s:=by
 unfold letOwnedTupleGo
 cases tg <;> first
  | exact wpAny_pure hQ
  | (cases u <;> first
    | exact wpAny_pure hQ
    | (refine wpAny_bind (wpAny_load ho ?_)
       rw [hc,hd]
       show wpAny M A (if (["enumerate","zip","dict_itemiterator","dict_reverseitemiterator","odict_iterator","itertools.zip_longest","itertools.pairwise"].contains n && vs[0]? == some (rawInt _)) = true then _ else _) Q E s
       rw [if_neg (by intro h; rw [hn,Bool.false_and] at h; cases h)]
       exact wpAny_pure hQ))
def Itl (K:PySem.W.Frag) (a:Addr):It:=
 ⟨fun i H=>∃ xs x,SqL K H a xs/\xs[i]? = some x,fun i H x H'=>H' = H/\∀ xs,SqL K H a xs->xs[i]? = some x,fun i H=>∃ xs,SqL K H a xs/\xs.length<=i⟩
def Itr (lo:Int) (n:Nat):It:=⟨fun i _=>i < n,fun i H x H'=>H' = H/\x = .int (lo + i),fun i _=>n<=i⟩
theorem turn_list {P:Program} {w:World} {K:PySem.W.Frag} {tg:Expr} (a it:Addr):Turn P w K tg (Itl K a) [it] it (fun i h=>h.IsListIter it a i) where
 mem:=by simp
 obj:=fun i h st b hb=>by
  have e:b = it:=by simpa using hb
  subst e
  obtain ⟨o,e,c,d⟩:=st
  exact ⟨o,e,fun v z=>by rw [d] at z; cases z⟩
 keep:=fun i h h' st k=>st.at fun o e=>k it (by simp) o e
 item:=by
  intro X hP hw hK hc i pins s σ H E I hf st hg
  subst hP hw hK
  obtain ⟨xs,x,hq,hx⟩:=hg
  obtain ⟨its,rv,p,hz⟩:=I.list hq
  obtain ⟨u,hu,ru⟩:=rv.get hx
  obtain ⟨f0,f1,f2,f3,f4,f5⟩:=hf it (by simp)
  refine wpAny_pyNext_list_item st p.isList (x:=u) (by simpa using hu) fun h' st' sb=>?_
  have I1:Inv X pins σ H { s with heap:=h' }:=I.turned (t':=s.toks) (fun b o hb e=>(sb.2 b hb).trans e) f0 f1 f3 f4 f5
  obtain ⟨o,e,c,d⟩:=id st'
  exact ⟨u,rfl,go_of (s:={ s with heap:=h' }) e c d (by decide) ⟨x,H,I1,ru,⟨rfl,fun ys hy=>by rw [I.list_inj hy hq]; exact hx⟩,st',fun b hb=>(hf b hb).1⟩⟩
 done:=by
  intro X hP hw hK hc i pins s σ H E I hf st hg
  subst hP hw hK
  obtain ⟨xs,hq,hx⟩:=hg
  obtain ⟨its,rv,p,hz⟩:=I.list hq
  obtain ⟨f0,f1,f2,f3,f4,f5⟩:=hf it (by simp)
  have hl:=rv.length
  exact wpAny_pyNext_list_end (I.ok.hd hc) st p.isList (by simp; omega) fun h' eb=>⟨rfl,I.turned (t':=s.toks) (fun b o hb e=>eb b o hb e) f0 f1 f3 f4 f5⟩
 self:=fun _ _ _ _ _ st h=>wpAny_pyIter_listiter st h
theorem turn_range {P:Program} {w:World} {K:PySem.W.Frag} {tg:Expr} (it:Addr) (lo:Int) (n:Nat):Turn P w K tg (Itr lo n) [it] it (fun i h=>IsRangeIter h it (lo + (i:Nat) * 1) ((n:Int) - (i:Nat)) 1) where
 mem:=by simp
 obj:=fun i h st b hb=>by
  have e:b = it:=by simpa using hb
  subst e
  exact ⟨_,st,fun v z=>by
   have z':Data.fields _ = Data.cell v:=z
   cases z'⟩
 keep:=fun i h h' st k=>k it (by simp) _ st
 item:=by
  intro X hP hw hK hc i pins s σ H E I hf st hg
  subst hP hw hK
  obtain ⟨f0,f1,f2,f3,f4,f5⟩:=hf it (by simp)
  have W:=Walks.range (prog:=X.prog) (w:=X.w) (I.ok.hd hc) it lo 1 n
  refine W.item i s _ _ hg st fun v h' tk hv st' kk=>?_
  obtain ⟨t,rfl⟩:=hv
  have I1:Inv X pins σ H { s with heap:=h',toks:=tk }:=I.turned (fun b o hb e=>kk b o (by simpa using hb) e) f0 f1 f3 f4 f5
  refine ⟨_,rfl,go_of (s:={ s with heap:=h',toks:=tk }) (n:="range_iterator") st' rfl rfl (by decide) ⟨.int (lo + i),H,I1,⟨t,?_⟩,⟨rfl,rfl⟩,st',fun b hb=>(hf b hb).1⟩⟩
  rw [Int.mul_one]
 done:=by
  intro X hP hw hK hc i pins s σ H E I hf st hg
  subst hP hw hK
  obtain ⟨f0,f1,f2,f3,f4,f5⟩:=hf it (by simp)
  exact wpAny_pyNext_range_end (I.ok.hd hc) st (by have:n<=i:=hg; omega) fun h' eb=>⟨rfl,I.turned (t':=s.toks) (fun b o hb e=>eb b o hb e) f0 f1 f3 f4 f5⟩
 self:=fun _ _ _ _ _ st h=>wpAny_pyIter_rangeiter st h
section
variable {X:Cx} {tg:Expr}
def iList (K:PySem.W.Frag) (tl:TE):TI:=fun σ H R=>tl σ H fun x H1=>∃ a,x = .ref a/\(∃ xs,SqL K H1 a xs)/\R (Itl K a) H1
theorem pi_list {l:Expr} {tl:TE} (hl:PE X l tl):PI X tg l (iList X.K tl):=by
 refine ⟨?_⟩
 intro pins s σ H R I h
 refine thn (hl pins s σ H _ I h) fun v s1 ⟨x,H1,I1,r1,q1⟩=>?_
 obtain ⟨a,e,⟨xs,hq⟩,q⟩:=q1
 subst e
 cases r1
 obtain ⟨its,rv,p,hz⟩:=I1.list hq
 refine wpAny_pyIter_list p.isList ?_
 refine ⟨s1.heap.objs.size,[s1.heap.objs.size],_,_,H1,rfl,I1.kept (t':=s1.toks) fun b o e=>Heap.get?_push_of_some _ e,turn_list a _,⟨_,Heap.get?_push_size _ rfl,rfl,rfl⟩,fun b hb=>?_,q⟩
 have e:b = s1.heap.objs.size:=by simpa using hb
 subst e
 exact I1.fpOk (Nat.le_refl _) (I1.hok.fresh (Nat.le_refl _))
theorem range_it {pins:List (Addr × Obj)} {σ : St} {H:Hp} {s:Shared} {R:It->Hp->Prop} {E:Value->Shared->Prop} {lo hi:Int} {t u v:Tok} {tk:Nat} (I:Inv X pins σ H s) (h1 : -(2 ^ 62)<=lo) (h2:lo < 2 ^ 62) (h3 : -(2 ^ 62)<=hi) (h4:hi < 2 ^ 62)
  (q:R (Itr lo (hi - lo).toNat) H):wpAny (model X.prog X.w) X.A (pyIter (.ref s.heap.objs.size)) (PIE X pins σ tg R) E { s with heap:=s.heap.push { cls:=.type "range",data:=.fields #[.int lo t,.int hi u,.int 1 v] },toks:=tk }:=by
 refine wpAny_pyIter_range (IsRange.new ..) (small_one h1 h2 h3 h4) ?_
 have I1:Inv X pins σ H { s with heap:=s.heap.push { cls:=.type "range",data:=.fields #[.int lo t,.int hi u,.int 1 v] },toks:=tk }:=I.kept fun b o e=>Heap.get?_push_of_some _ e
 refine ⟨(s.heap.push { cls:=.type "range",data:=.fields #[.int lo t,.int hi u,.int 1 v] }).objs.size,[(s.heap.push { cls:=.type "range",data:=.fields #[.int lo t,.int hi u,.int 1 v] }).objs.size],_,_,H,rfl,
  I1.kept (t':=tk) fun b o e=>Heap.get?_push_of_some _ e,turn_range _ lo (hi - lo).toNat,?_,fun b hb=>?_,q⟩
 ·have e1:lo + ((0:Nat):Int) * 1 = lo:=by simp
  have e2:(((hi - lo).toNat:Nat):Int) - ((0:Nat):Int) = Builtin.Range.rangeSize lo hi 1:=by rw [rangeSize_one]; split <;> omega
  show IsRangeIter _ _ (lo + ((0:Nat):Int) * 1) ((((hi - lo).toNat:Nat):Int) - ((0:Nat):Int)) 1
  rw [e1,e2]
  exact Heap.get?_push_size _ rfl
 ·have e:b = (s.heap.push { cls:=.type "range",data:=.fields #[.int lo t,.int hi u,.int 1 v] }).objs.size:=by simpa using hb
  subst e
  exact I1.fpOk (Nat.le_refl _) (I1.hok.fresh (Nat.le_refl _))
def iRng1 (ta:TA):TI:=fun σ H R=>ta σ H fun vs H1=>∃ j:Int,vs = [.int j]/\-(2 ^ 62)<=j/\j < 2 ^ 62/\R (Itr 0 j.toNat) H1
theorem pi_range1 {a:Expr} {ta:TA} {p pos:Pos} (hg:Gl X "range") (hm:X.mg "range" = none) (ha:PA X [a] ta) (hs:starEach [a] X.env = [(false,eval a X.env)]:=by rfl):PI X tg (.Call (.Name "range" p) [a] [] pos) (iRng1 ta):=by
 refine ⟨?_⟩
 intro pins s σ H R I h
 refine Call_ (ld_blt I hg hm boot_range (PyProof.Rows.callWith_type1 (thn (ha pos pins s σ H _ I h) fun us s1 ⟨vs,H1,I1,r1,q1⟩=>?_) hs rfl))
 obtain ⟨j,e,q1,q2,q⟩:=q1
 subst e
 cases r1 with
 | cons r rr=>
  cases rr
  obtain ⟨t,rfl⟩:=r
  exact call_range_1 (range_it I1 (by omega) (by omega) q1 q2 (by simpa using q))
def tFor (wi:TI) (g:TG) (tb:TS):TS:=fun D σ H=>wi σ H fun J H1=>∃ W:Nat->Nat->St->Hp->Prop,(∃ m,W 0 m σ H1)/\∀ i m σ H,W i m σ H->
 (J.stop i H/\D.nx σ H)\/(J.go i H/\∃ N:St->Hp->Prop,(∀ σ' H',N σ' H'->∃ m',m' < m/\W (i + 1) m' σ' H')/\∀ x H',J.yld i H x H'->g x σ H' fun σ2 H2=>tb { D with nx:=N,ct:=N,bk:=D.nx } σ2 H2)
def pinsAt (fp:List Addr) (h:Heap):List (Addr × Obj):=fp.filterMap fun b=>(h.get? b).map fun o=>(b,o)
theorem mem_pinsAt {fp:List Addr} {h:Heap} {b:Addr} {o:Obj} (hb:b ∈ fp) (e:h.get? b = some o):(b,o) ∈ pinsAt fp h:=List.mem_filterMap.mpr ⟨b,hb,by rw [e]; rfl⟩
theorem of_pinsAt {fp:List Addr} {h:Heap} {p:Addr × Obj} (hp:p ∈ pinsAt fp h):p.1 ∈ fp/\h.get? p.1 = some p.2:=by
 obtain ⟨b,hb,e⟩:=List.mem_filterMap.mp hp
 cases q:h.get? b with
 | none=>rw [q] at e; cases e
 | some o=>
  rw [q] at e
  have e':(b,o) = p:=Option.some.inj e
  subst e'
  exact ⟨hb,q⟩
theorem Inv.pinned {pins:List (Addr × Obj)} {σ : St} {H:Hp} {s:Shared} {fp:List Addr} (I:Inv X pins σ H s) (hf:∀ b ∈ fp,FpOk X pins H b) (ho:∀ b ∈ fp,∃ o,s.heap.get? b = some o/\∀ v,o.data ≠ .cell v):Inv X (pins ++ pinsAt fp s.heap) σ H s:=
 I.pins_of fun p hp=>(List.mem_append.mp hp).elim (fun z=>I.pin p (List.mem_append_right _ z)) fun z=>by
  obtain ⟨hb,e⟩:=of_pinsAt z
  obtain ⟨f0,f1,f2,_⟩:=hf p.1 hb
  obtain ⟨o,e',d⟩:=ho p.1 hb
  rw [e] at e'; cases e'
  exact ⟨e,f0,f1,f2,d⟩
theorem Inv.unpinned {pins pl:List (Addr × Obj)} {σ : St} {H:Hp} {s:Shared} (I:Inv X (pins ++ pl) σ H s):Inv X pins σ H s:=I.pins_of fun p hp=>I.pin p (List.mem_append_right _ (List.mem_append_left _ hp))
theorem ps_for {iter:Expr} {body:List Stmt} {wi:TI} {g:TG} {tb:TS} {pos:Pos} (hp:PassesOwn (model X.prog X.w) X.A X.env X.xe) (hc:X.calm = true) (hi:PI X tg iter wi) (hg:PG X tg g) (hb:PSs X body tb)
  (hs:∀ x,foldedSetIterable iter X.env x = pure x:=by intro _; rfl):PS X (.For tg iter body [] pos) (tFor wi g tb):=by
 refine ⟨?_⟩
 intro pins s σ H D I h
 refine wpAny_For (thn (hi pins s σ H _ I h) fun v s1 h1=>thn h1 fun itv s2 h2=>?_) hs
 obtain ⟨it,fp,tn,J,H2,e,I2,T,st2,f2,W,⟨m0,w0⟩,turn⟩:=h2
 subst e
 have stat:∀ {H':Hp},(∀ b ∈ fp,H' b = none)->∀ b ∈ fp,FpOk X pins H' b:=fun hn b hb=>⟨hn b hb,(f2 b hb).2⟩
 refine codeAny_forLoop_any (fun n s'=>∃ i σ' H',Inv X pins σ' H' s'/\tn i s'.heap/\(∀ b ∈ fp,H' b = none)/\W i n σ' H') ?_ m0 ⟨0,σ,H2,I2,st2,fun b hb=>(f2 b hb).1,w0⟩
 rintro n s3 ⟨i,σ3,H3,I3,st3,fr3,w3⟩
 rcases turn i n σ3 H3 w3 with ⟨stop,qn⟩ | ⟨go,N,hN,step⟩
 ·refine wpAny_passesOwn hp (thn (T.done X rfl rfl rfl hc i pins s3 σ3 H3 X.xe I3 (stat fr3) st3 stop) fun r s4 ⟨hr,I4⟩=>?_)
  subst hr
  exact wpAny_execs_nil ⟨σ3,H3,I4,qn⟩
 ·refine wpAny_passesOwn hp (thn (T.item X rfl rfl rfl hc i pins s3 σ3 H3 X.xe I3 (stat fr3) st3 go) fun r s4 ⟨u,hr,h4⟩=>?_)
  subst hr
  refine wpAny_passesOwn hp (thn h4 fun _ s5 ⟨x,H5,I5,r5,y5,st5,fr5⟩=>?_)
  have I5':=I5.pinned (stat fr5) (T.obj _ _ st5)
  refine wpAny_passesOwn hp (thn (hg _ s5 σ3 H5 x u _ I5' r5 (step x H5 y5)) fun _ s6 ⟨σ6,H6,I6,q6⟩=>?_)
  refine wpAny_passesOwn hp (thn (hb _ s6 σ6 H6 _ I6 q6) fun f s7 q7=>?_)
  have again:∀ {σ7:St} {H7:Hp},Inv X (pins ++ pinsAt fp s5.heap) σ7 H7 s7->N σ7 H7->∃ m,m < n/\∃ i σ' H',Inv X pins σ' H' s7/\tn i s7.heap/\(∀ b ∈ fp,H' b = none)/\W i m σ' H':=fun {σ7 H7} I7 n7=>by
   obtain ⟨m',hm,w7⟩:=hN σ7 H7 n7
   refine ⟨m',hm,i + 1,σ7,H7,I7.unpinned,T.keep _ _ _ st5 fun b hb o e=>(I7.pin (b,o) (List.mem_append_right _ (List.mem_append_right _ (mem_pinsAt hb e)))).1,fun b hb=>?_,w7⟩
   obtain ⟨o,e,d⟩:=T.obj _ _ st5 b hb
   exact (I7.pin (b,o) (List.mem_append_right _ (List.mem_append_right _ (mem_pinsAt hb e)))).2.1
  cases f with
  | next=>obtain ⟨σ7,H7,I7,n7⟩:=q7; exact again I7 n7
  | cont=>obtain ⟨σ7,H7,I7,n7⟩:=q7; exact again I7 n7
  | brk=>obtain ⟨σ7,H7,I7,q7⟩:=q7; exact ⟨σ7,H7,I7.unpinned,q7⟩
  | ret v=>obtain ⟨x7,σ7,H7,I7,r7,q7⟩:=q7; exact ⟨x7,σ7,H7,I7.unpinned,r7,q7⟩
end
theorem for_list {K:PySem.W.Frag} {a:Addr} {xs:List V} {g:TG} {tb:TS} {D:Ends} {σ : St} {H:Hp} (Pv:Nat->St->Hp->Prop) (h0:Pv 0 σ H) (hl:∀ i σ H,i<=xs.length->Pv i σ H->SqL K H a xs)
  (hs:∀ i x σ H,xs[i]? = some x->Pv i σ H->g x σ H fun σ2 H2=>tb { D with nx:=Pv (i + 1),ct:=Pv (i + 1),bk:=D.nx } σ2 H2) (hd:∀ σ H,Pv xs.length σ H->D.nx σ H) :
  ∃ W:Nat->Nat->St->Hp->Prop,(∃ m,W 0 m σ H)/\∀ i m σ H,W i m σ H->
   ((Itl K a).stop i H/\D.nx σ H)\/((Itl K a).go i H/\∃ N:St->Hp->Prop,(∀ σ' H',N σ' H'->∃ m',m' < m/\W (i + 1) m' σ' H')/\∀ x H',(Itl K a).yld i H x H'->g x σ H' fun σ2 H2=>tb { D with nx:=N,ct:=N,bk:=D.nx } σ2 H2):=by
 refine ⟨fun i m σ H=>m = xs.length - i/\i<=xs.length/\Pv i σ H,⟨xs.length,by simp,Nat.zero_le _,h0⟩,?_⟩
 rintro i m σ H ⟨rfl,hi,p⟩
 have q:=hl i σ H hi p
 by_cases hlt:i < xs.length
 ·refine .inr ⟨⟨xs,xs[i],q,by simp [hlt]⟩,Pv (i + 1),fun σ' H' p'=>⟨xs.length - (i + 1),by omega,rfl,hlt,p'⟩,fun x H' y=>?_⟩
  obtain ⟨e,y⟩:=y
  subst e
  exact hs i x σ _ (y xs q) p
 ·have e:i = xs.length:=by omega
  subst e
  exact .inl ⟨⟨xs,q,Nat.le_refl _⟩,hd σ H p⟩
theorem for_range {lo:Int} {n:Nat} {g:TG} {tb:TS} {D:Ends} {σ : St} {H:Hp} (Pv:Nat->St->Hp->Prop) (h0:Pv 0 σ H)
  (hs:∀ i σ H,i < n->Pv i σ H->g (.int (lo + i)) σ H fun σ2 H2=>tb { D with nx:=Pv (i + 1),ct:=Pv (i + 1),bk:=D.nx } σ2 H2) (hd:∀ σ H,Pv n σ H->D.nx σ H) :
  ∃ W:Nat->Nat->St->Hp->Prop,(∃ m,W 0 m σ H)/\∀ i m σ H,W i m σ H->
   ((Itr lo n).stop i H/\D.nx σ H)\/((Itr lo n).go i H/\∃ N:St->Hp->Prop,(∀ σ' H',N σ' H'->∃ m',m' < m/\W (i + 1) m' σ' H')/\∀ x H',(Itr lo n).yld i H x H'->g x σ H' fun σ2 H2=>tb { D with nx:=N,ct:=N,bk:=D.nx } σ2 H2):=by
 refine ⟨fun i m σ H=>m = n - i/\i<=n/\Pv i σ H,⟨n,by simp,Nat.zero_le _,h0⟩,?_⟩
 rintro i m σ H ⟨rfl,hi,p⟩
 by_cases hlt:i < n
 ·refine .inr ⟨hlt,Pv (i + 1),fun σ' H' p'=>⟨n - (i + 1),by omega,rfl,hlt,p'⟩,fun x H' y=>?_⟩
  obtain ⟨e,y⟩:=y
  subst e y
  exact hs i σ _ hlt p
 ·have e:i = n:=by omega
  subst e
  exact .inl ⟨Nat.le_refl _,hd σ H p⟩
abbrev R2:=V->V->Hp->VK->Prop
def OpR (X:Cx) (f:Value->Value->Sem Value) (r:R2):Prop:=
 ∀ (pins:List (Addr × Obj)) (s:Shared) (σ : St) (H:Hp) (x y:V) (v u:Value) (Q:VK),Inv X pins σ H s->RelV x v->RelV y u->r x y H Q->
  wpAny (model X.prog X.w) X.A (f v u) (EP X pins σ Q) X.xe s
def UnR (X:Cx) (f:Value->Sem Value) (r:V->Hp->VK->Prop):Prop:=
 ∀ (pins:List (Addr × Obj)) (s:Shared) (σ : St) (H:Hp) (x:V) (v:Value) (Q:VK),Inv X pins σ H s->RelV x v->r x H Q->
  wpAny (model X.prog X.w) X.A (f v) (EP X pins σ Q) X.xe s
def CallR (X:Cx) (f:Value) (r:List V->Hp->VK->Prop):Prop:=
 ∀ (pins:List (Addr × Obj)) (s:Shared) (σ : St) (H:Hp) (xs:List V) (us:List Value) (Q:VK),Inv X pins σ H s->Vals xs us->r xs H Q->
  wpAny (model X.prog X.w) X.A (call f us) (EP X pins σ Q) X.xe s
def TruR (X:Cx) (r:V->Hp->(Bool->Hp->Prop)->Prop):Prop:=
 ∀ (pins:List (Addr × Obj)) (s:Shared) (σ : St) (H:Hp) (x:V) (v:Value) (Q:Bool->Hp->Prop),Inv X pins σ H s->RelV x v->r x H Q->
  wpAny (model X.prog X.w) X.A (truthy v) (TP X pins σ Q) X.xe s
def tOp (r:R2) (ta tb:TE):TE:=fun σ H Q=>ta σ H fun x H1=>tb σ H1 fun y H2=>r x y H2 Q
def tUn (r:V->Hp->VK->Prop) (ta:TE):TE:=fun σ H Q=>ta σ H fun x H1=>r x H1 Q
inductive IrI (C:Int->Int->Prop) (g:Int->Int->V) (x y:V) (H:Hp) (Q:VK):Prop where
 | mk (i j:Int) (e1:x = .int i) (e2:y = .int j) (c:C i j) (q:Q (g i j) H)
def rI (C:Int->Int->Prop) (g:Int->Int->V):R2:=fun x y H Q=>IrI C g x y H Q
inductive IrI0 (g:Int->Int->V) (x y:V) (H:Hp) (Q:VK):Prop where
 | mk (i j:Int) (e1:x = .int i) (e2:y = .int j) (q:Q (g i j) H)
def rI0 (g:Int->Int->V):R2:=fun x y H Q=>IrI0 g x y H Q
def rU (g:Int->V):V->Hp->VK->Prop:=fun x H Q=>∃ i,x = .int i/\Q (g i) H
section
variable {X:Cx} {a b c:Expr} {ta tb tc:TE} {pos:Pos}
theorem binT (ha:PE X a ta) (hb:PE X b tb) {pins:List (Addr × Obj)} {s:Shared} {σ : St} {H:Hp} {R:V->V->Hp->Prop} (I:Inv X pins σ H s)
  (h:ta σ H fun x H1=>tb σ H1 fun y H2=>R x y H2) {Q:Value->Shared->Prop} {f:Value->Value->Sem Value}
  (hf:∀ v u s2 x y H2,Inv X pins σ H2 s2->RelV x v->RelV y u->R x y H2->wpAny (model X.prog X.w) X.A (f v u) Q X.xe s2) :
  wpAny (model X.prog X.w) X.A (eval a X.env) (fun v s₁=>wpAny (model X.prog X.w) X.A (eval b X.env) (fun u s₂=>wpAny (model X.prog X.w) X.A (f v u) Q X.xe s₂) X.xe s₁) X.xe s:=by
 refine thn (ha pins s σ H _ I h) fun v s1 ⟨x,H1,I1,r1,q1⟩=>?_
 refine thn (hb pins s1 σ H1 _ I1 q1) fun u s2 ⟨y,H2,I2,r2,q2⟩=>?_
 exact hf v u s2 x y H2 I2 r1 r2 q2
theorem pe_op {op:Operator} {r:R2} (ho:OpR X (binaryOp op) r) (ha:PE X a ta) (hb:PE X b tb):PE X (.BinOp a op b pos) (tOp r ta tb):=by
 refine ⟨?_⟩
 intro pins s σ H Q I h
 exact wpAny_BinOp (binT ha hb I h fun v u s2 x y H2 I2 rx ry q=>ho pins s2 σ H2 x y v u Q I2 rx ry q)
theorem pe_un {op:UnaryOp} {r:V->Hp->VK->Prop} (ho:UnR X (unaryOp op) r) (ha:PE X a ta):PE X (.UnaryOp op a pos) (tUn r ta):=by
 refine ⟨?_⟩
 intro pins s σ H Q I h
 exact UnaryOp_ (thn (ha pins s σ H _ I h) fun v s1 ⟨x,H1,I1,r1,q1⟩=>ho pins s1 σ H1 x v Q I1 r1 q1)
theorem opI {f:Value->Value->Sem Value} {C:Int->Int->Prop} {g:Int->Int->Int}
  (rule:∀ (i j:Int) (t u:Tok) (s:Shared) (Q:Value->Shared->Prop) (E:Value->Shared->Prop),C i j->Q (.int (g i j) s.toks) { s with toks:=s.toks + 1 }->wpAny (model X.prog X.w) X.A (f (.int i t) (.int j u)) Q E s) :
  OpR X f (rI C fun i j=>.int (g i j)):=by
 intro pins s σ H x y v u Q I rx ry h
 obtain ⟨i,j,rfl,rfl,hc,q⟩:=h
 obtain ⟨t,rfl⟩:=rx
 obtain ⟨t',rfl⟩:=ry
 exact rule i j t t' s _ _ hc ⟨.int (g i j),H,I.tok _,⟨_,rfl⟩,q⟩
theorem opI0 {f:Value->Value->Sem Value} {g:Int->Int->Int}
  (rule:∀ (i j:Int) (t u:Tok) (s:Shared) (Q:Value->Shared->Prop) (E:Value->Shared->Prop),Q (.int (g i j) s.toks) { s with toks:=s.toks + 1 }->wpAny (model X.prog X.w) X.A (f (.int i t) (.int j u)) Q E s) :
  OpR X f (rI0 fun i j=>.int (g i j)):=by
 intro pins s σ H x y v u Q I rx ry h
 obtain ⟨i,j,rfl,rfl,q⟩:=h
 obtain ⟨t,rfl⟩:=rx
 obtain ⟨t',rfl⟩:=ry
 exact rule i j t t' s _ _ ⟨.int (g i j),H,I.tok _,⟨_,rfl⟩,q⟩
theorem opB0 {f:Value->Value->Sem Value} {g:Int->Int->Bool}
  (rule:∀ (i j:Int) (t u:Tok) (s:Shared) (Q:Value->Shared->Prop) (E:Value->Shared->Prop),Q (.bool (g i j)) s->wpAny (model X.prog X.w) X.A (f (.int i t) (.int j u)) Q E s) :
  OpR X f (rI0 fun i j=>.bl (g i j)):=by
 intro pins s σ H x y v u Q I rx ry h
 obtain ⟨i,j,rfl,rfl,q⟩:=h
 obtain ⟨t,rfl⟩:=rx
 obtain ⟨t',rfl⟩:=ry
 exact rule i j t t' s _ _ ⟨.bl (g i j),H,I,rfl,q⟩
def CDiv (i j:Int):Prop:=0 < j/\j < 1073741824
def CPow (i j:Int):Prop:=0<=j/\j<=1000000/\i.natAbs < 2 ^ 64
def CMul (i j:Int):Prop:=(-(2 ^ 64) < i/\i < 2 ^ 64)\/(-(2 ^ 64) < j/\j < 2 ^ 64)
theorem CMul.ok {i j:Int} (h:CMul i j):IntMulOk i j:=by
 rcases h with ⟨h1,h2⟩ | ⟨h1,h2⟩
 ·exact .of_left (intBits_le_64 h1 h2)
 ·exact .of_right (intBits_le_64 h1 h2)
theorem op_add:OpR X (binaryOp .Add) (rI0 fun i j=>.int (i + j)):=opI0 fun _ _ _ _ _ _ _ q=>add_int q
theorem op_sub:OpR X (binaryOp .Sub) (rI0 fun i j=>.int (i - j)):=opI0 fun _ _ _ _ _ _ _ q=>sub_int q
theorem op_mul:OpR X (binaryOp .Mult) (rI CMul fun i j=>.int (i * j)):=opI fun _ _ _ _ _ _ _ hc q=>mul_int q hc.ok
theorem op_fdiv:OpR X (binaryOp .FloorDiv) (rI CDiv fun i j=>.int (i / j)):=opI fun i j _ _ _ _ _ hc q=>by
 have h1:(0:Int) < j:=hc.1
 have h2:j < 1073741824:=hc.2
 exact floordiv_int (by omega) (by rw [Int.fdiv_eq_ediv_of_nonneg i (by omega)]; exact q) (.inl (PyProof.noPylong_small (by omega)))
theorem op_mod:OpR X (binaryOp .Mod) (rI (fun _ j=>0 < j) fun i j=>.int (i % j)):=opI fun i j _ _ _ _ _ hc q=>by
 have h1:(0:Int) < j:=hc
 exact mod_int' (by omega) (by rw [Int.fmod_eq_emod_of_nonneg i (by omega)]; exact q)
theorem op_pow:OpR X (binaryOp .Pow) (rI CPow fun i j=>.int (i ^ j.toNat)):=opI fun _ _ _ _ _ _ _ hc q=>pow_int_small hc.1 hc.2.1 hc.2.2 q
theorem unI {f:Value->Sem Value} {g:Int->Int}
  (rule:∀ (i:Int) (t:Tok) (s:Shared) (Q:Value->Shared->Prop) (E:Value->Shared->Prop),Q (.int (g i) s.toks) { s with toks:=s.toks + 1 }->wpAny (model X.prog X.w) X.A (f (.int i t)) Q E s) :
  UnR X f (rU fun i=>.int (g i)):=by
 intro pins s σ H x v Q I rx h
 obtain ⟨i,rfl,q⟩:=h
 obtain ⟨t,rfl⟩:=rx
 exact rule i t s _ _ ⟨.int (g i),H,I.tok _,⟨_,rfl⟩,q⟩
theorem un_neg:UnR X (unaryOp .USub) (rU fun i=>.int (-i)):=unI fun _ _ _ _ _ q=>neg_int q
end
def scal:V->V->Bool
 | .non,.non=>true | .non,.int _=>true | .int _,.non=>true | .non,.bl _=>true | .bl _,.non=>true | .non,.str _=>true | .str _,.non=>true
 | .int _,.int _=>true | .bl _,.bl _=>true | .str _,.str _=>true | .byt _,.byt _=>true
 | .int _,.str _=>true | .str _,.int _=>true | .bl _,.str _=>true | .str _,.bl _=>true
 | _,_=>false
def rEq:R2:=fun x y H Q=>scal x y = true/\Q (.bl (decide (x = y))) H
def rNe:R2:=fun x y H Q=>scal x y = true/\Q (.bl (!decide (x = y))) H
theorem dec_int {i j:Int}:decide (V.int i = V.int j) = (i == j):=by
 rw [Bool.eq_iff_iff]
 simp
theorem dec_bl {i j:Bool}:decide (V.bl i = V.bl j) = (i == j):=by
 rw [Bool.eq_iff_iff]
 simp
theorem dec_str {i j:Str}:decide (V.str i = V.str j) = (i == j):=by
 rw [Bool.eq_iff_iff]
 simp
theorem dec_byt {i j:Array UInt8}:decide (V.byt i = V.byt j) = (i.toList == j.toList):=by
 rw [Bool.eq_iff_iff]
 cases i
 cases j
 simp
section
variable {X:Cx} {a b c:Expr} {ta tb tc:TE} {pos:Pos}
theorem fin_bl {pins:List (Addr × Obj)} {σ : St} {H:Hp} {s:Shared} {Q:VK} {k k':Bool} (I:Inv X pins σ H s) (q:Q (.bl k) H) (e:k = k'):EP X pins σ Q (.bool k') s:=by
 subst e
 exact ⟨.bl k,H,I,rfl,q⟩
theorem op_eq:OpR X (compareOp .Eq) rEq:=by
 intro pins s σ H x y v u Q I rx ry h
 obtain ⟨hs,q⟩:=h
 cases x with
 | non=>
  cases rx
  cases y with
  | non=>cases ry; exact PySem.EqNone.eq_none_none (fin_bl I q (by simp))
  | bl j=>cases ry; exact PySem.EqNone.eq_none_bool (fin_bl I q (by simp))
  | int j=>obtain ⟨t',rfl⟩:=ry; exact PySem.EqNone.eq_none_int (fin_bl I q (by simp))
  | str j=>obtain ⟨t',rfl⟩:=ry; exact PySem.EqNone.eq_none_str (fin_bl I q (by simp))
  | _=>exact absurd (show false = true from hs) Bool.false_ne_true
 | bl i=>
  cases rx
  cases y with
  | non=>cases ry; exact PySem.EqNone.eq_bool_none (fin_bl I q (by simp))
  | bl j=>cases ry; exact eq_bool (fin_bl I q dec_bl)
  | str j=>obtain ⟨t',rfl⟩:=ry; exact PySem.EqMixed.eq_bool_str (fin_bl I q (by simp))
  | _=>exact absurd (show false = true from hs) Bool.false_ne_true
 | int i=>
  obtain ⟨t,rfl⟩:=rx
  cases y with
  | non=>cases ry; exact PySem.EqNone.eq_int_none (fin_bl I q (by simp))
  | int j=>obtain ⟨t',rfl⟩:=ry; exact eq_int (fin_bl I q dec_int)
  | str j=>obtain ⟨t',rfl⟩:=ry; exact PySem.EqMixed.eq_int_str (fin_bl I q (by simp))
  | _=>exact absurd (show false = true from hs) Bool.false_ne_true
 | str i=>
  obtain ⟨t,rfl⟩:=rx
  cases y with
  | non=>cases ry; exact PySem.EqNone.eq_str_none (fin_bl I q (by simp))
  | bl j=>cases ry; exact PySem.EqMixed.eq_str_bool (fin_bl I q (by simp))
  | int j=>obtain ⟨t',rfl⟩:=ry; exact PySem.EqMixed.eq_str_int (fin_bl I q (by simp))
  | str j=>obtain ⟨t',rfl⟩:=ry; exact eq_str (fin_bl I q dec_str)
  | _=>exact absurd (show false = true from hs) Bool.false_ne_true
 | byt i=>
  obtain ⟨t,rfl⟩:=rx
  cases y with
  | byt j=>obtain ⟨t',rfl⟩:=ry; exact PySem.W.eq_bytes (fin_bl I q dec_byt)
  | _=>exact absurd (show false = true from hs) Bool.false_ne_true
 | _=>cases y <;> exact absurd (show false = true from hs) Bool.false_ne_true
theorem op_ne:OpR X (compareOp .NotEq) rNe:=by
 intro pins s σ H x y v u Q I rx ry h
 obtain ⟨hs,q⟩:=h
 cases x with
 | non=>
  cases rx
  cases y with
  | non=>cases ry; exact PySem.EqNone.ne_none_none (fin_bl I q (by simp))
  | bl j=>cases ry; exact PySem.EqNone.ne_none_bool (fin_bl I q (by simp))
  | int j=>obtain ⟨t',rfl⟩:=ry; exact PySem.EqNone.ne_none_int (fin_bl I q (by simp))
  | str j=>obtain ⟨t',rfl⟩:=ry; exact PySem.EqNone.ne_none_str (fin_bl I q (by simp))
  | _=>exact absurd (show false = true from hs) Bool.false_ne_true
 | bl i=>
  cases rx
  cases y with
  | non=>cases ry; exact PySem.EqNone.ne_bool_none (fin_bl I q (by simp))
  | bl j=>cases ry; exact ne_bool (fin_bl I q (congrArg not dec_bl))
  | str j=>obtain ⟨t',rfl⟩:=ry; exact PySem.EqMixed.ne_bool_str (fin_bl I q (by simp))
  | _=>exact absurd (show false = true from hs) Bool.false_ne_true
 | int i=>
  obtain ⟨t,rfl⟩:=rx
  cases y with
  | non=>cases ry; exact PySem.EqNone.ne_int_none (fin_bl I q (by simp))
  | int j=>obtain ⟨t',rfl⟩:=ry; exact ne_int (fin_bl I q (congrArg not dec_int))
  | str j=>obtain ⟨t',rfl⟩:=ry; exact PySem.EqMixed.ne_int_str (fin_bl I q (by simp))
  | _=>exact absurd (show false = true from hs) Bool.false_ne_true
 | str i=>
  obtain ⟨t,rfl⟩:=rx
  cases y with
  | non=>cases ry; exact PySem.EqNone.ne_str_none (fin_bl I q (by simp))
  | bl j=>cases ry; exact PySem.EqMixed.ne_str_bool (fin_bl I q (by simp))
  | int j=>obtain ⟨t',rfl⟩:=ry; exact PySem.EqMixed.ne_str_int (fin_bl I q (by simp))
  | str j=>obtain ⟨t',rfl⟩:=ry; exact ne_str (fin_bl I q (congrArg not dec_str))
  | _=>exact absurd (show false = true from hs) Bool.false_ne_true
 | byt i=>
  obtain ⟨t,rfl⟩:=rx
  cases y with
  | byt j=>obtain ⟨t',rfl⟩:=ry; exact PySem.W.ne_bytes (fin_bl I q (congrArg not dec_byt))
  | _=>exact absurd (show false = true from hs) Bool.false_ne_true
 | _=>cases y <;> exact absurd (show false = true from hs) Bool.false_ne_true
theorem op_lt:OpR X (compareOp .Lt) (rI0 fun i j=>.bl (decide (i < j))):=opB0 fun _ _ _ _ _ _ _ q=>lt_int q
theorem op_gt:OpR X (compareOp .Gt) (rI0 fun i j=>.bl (decide (j < i))):=opB0 fun _ _ _ _ _ _ _ q=>gt_int q
theorem OpR.or {f:Value->Value->Sem Value} {r r':R2} (h:OpR X f r) (h':OpR X f r'):OpR X f (fun x y H Q=>r x y H Q\/r' x y H Q):=by
 intro pins s σ H x y v u Q I rx ry q
 rcases q with q | q
 ·exact h pins s σ H x y v u Q I rx ry q
 ·exact h' pins s σ H x y v u Q I rx ry q
theorem nomark (b:Expr) {op:CmpOp} (h:op ≠ .In:=by decide) (h2:op ≠ .NotIn:=by decide):behindInMarks op b = false:=by
 have e1:(op == CmpOp.In) = false:=by cases op <;> first | rfl | exact absurd rfl h
 have e2:(op == CmpOp.NotIn) = false:=by cases op <;> first | rfl | exact absurd rfl h2
 cases b <;> simp [behindInMarks,e1,e2]
theorem pe_cmpR {op:CmpOp} {r:R2} (ho:OpR X (compareOp op) r) (ha:PE X a ta) (hb:PE X b tb) (hm:behindInMarks op b = false):PE X (.Compare a [op] [b] pos) (tOp r ta tb):=by
 refine ⟨?_⟩
 intro pins s σ H Q I h
 exact wpAny_Compare1 (binT ha hb I h fun v u s2 x y H2 I2 rx ry q=>ho pins s2 σ H2 x y v u Q I2 rx ry q) hm
inductive ITest (x:V) (H:Hp) (Q:Bool->Hp->Prop):Prop where
 | mk (k:Bool) (e:x = .bl k) (q:Q k H)
def tTest (t:TE):TT:=fun σ H Q=>t σ H fun x H'=>ITest x H' Q
theorem pt_cmpR {op:CmpOp} {r:R2} (ho:OpR X (compareOp op) r) (ha:PE X a ta) (hb:PE X b tb) (hm:behindInMarks op b = false):PT X (.Compare a [op] [b] pos) (tTest (tOp r ta tb)):=by
 refine ⟨?_⟩
 intro pins s σ H Q I h
 refine wpAny_isTrue_Compare1 (thn (ha pins s σ H _ I h) fun v s1 ⟨x,H1,I1,r1,q1⟩=>thn (hb pins s1 σ H1 _ I1 q1) fun u s2 ⟨y,H2,I2,r2,q2⟩=>
  thn (ho pins s2 σ H2 x y v u _ I2 r1 r2 q2) fun c s3 ⟨z,H3,I3,r3,k,e,q3⟩=>?_) hm
 subst e
 cases r3
 exact wpAny_truthy_bool ⟨H3,I3,q3⟩
def TruV (K:PySem.W.Frag) (x:V) (H:Hp) (k:Bool):Prop:=
 match x with
 | .non=>k = false
 | .bl b=>k = b
 | .int i=>k = (i != 0)
 | .str y=>y.length<=sizeLine/\k = ((y.length:Int) != 0)
 | .byt y=>y.size<=sizeLine/\k = ((y.size:Int) != 0)
 | .ref p=>(∃ xs,SqL K H p xs/\k = !xs.isEmpty)\/(∃ xs,SqT K H p xs/\k = !xs.isEmpty)\/∃ kvs,H p = some (.dK kvs)/\k = !kvs.isEmpty
 | _=>False
theorem isEmpty_kv {κ : Type} {kvs:List (κ × V)} {vs:List (κ × Value)} (r:KV kvs vs):(!vs.isEmpty) = !kvs.isEmpty:=by
 cases r <;> rfl
theorem isEmpty_of {xs:List V} {its:List Value} (r:Vals xs its):(!its.toArray.isEmpty) = !xs.isEmpty:=by
 cases r <;> simp
theorem line63:(sizeLine:Nat) < 2 ^ 63:=by rw [sizeLine_eq]; decide
theorem tru_ok:TruR X (fun x H Q=>∃ k,TruV X.K x H k/\Q k H):=by
 intro pins s σ H x v Q I rx h
 obtain ⟨k,e,q⟩:=h
 have hl:=line63
 have hs:sizeLine = 16777216:=sizeLine_eq
 cases x with
 | non=>
  cases rx
  have e':k = false:=e
  subst e'
  exact truthy_none ⟨H,I,q⟩
 | bl b=>
  cases rx
  have e':k = b:=e
  subst e'
  exact wpAny_truthy_bool ⟨H,I,q⟩
 | int i=>
  obtain ⟨t,rfl⟩:=rx
  have e':k = (i != 0):=e
  subst e'
  exact PySem.P.truthy_int ⟨H,I,q⟩
 | str y=>
  obtain ⟨t,rfl⟩:=rx
  obtain ⟨hy,e'⟩:y.length<=sizeLine/\k = ((y.length:Int) != 0):=e
  subst e'
  exact PySem.P.truthy_str (by omega) ⟨H,I.tok _,q⟩
 | byt y=>
  obtain ⟨t,rfl⟩:=rx
  obtain ⟨hy,e'⟩:y.size<=sizeLine/\k = ((y.size:Int) != 0):=e
  subst e'
  exact PySem.W.truthy_bytes (by omega) ⟨H,I.tok _,q⟩
 | ref p=>
  cases rx
  have e':(∃ xs,SqL X.K H p xs/\k = !xs.isEmpty)\/(∃ xs,SqT X.K H p xs/\k = !xs.isEmpty)\/∃ kvs,H p = some (.dK kvs)/\k = !kvs.isEmpty:=e
  rcases e' with ⟨xs,hx,e'⟩ | ⟨xs,hx,e'⟩ | ⟨kvs,hx,e'⟩
  ·subst e'
   obtain ⟨its,r,pl,hz⟩:=I.list hx
   have hlen:=r.length
   exact wpAny_truthy_list pl.isList (by simp only [List.size_toArray]; omega) ⟨H,I.tok _,by rw [isEmpty_of r]; exact q⟩
  ·subst e'
   obtain ⟨its,r,pl,hz⟩:=I.tuple hx
   have hlen:=r.length
   exact truthy_tuple pl (by simp only [List.size_toArray]; omega) ⟨H,I.tok _,by rw [isEmpty_of r]; exact q⟩
  ·subst e'
   obtain ⟨hz,hS,vs,r,m⟩:kvs.length<=sizeLine/\(p == sysModules) = false/\∃ vs,KV kvs vs/\s.heap.DictOf (mixKind X.prog X.w) p vs:=I.hok p _ hx
   have hlen:kvs.length = vs.length:=Paired.length r
   exact wpAny_truthy_dict hS m (by omega) ⟨H,I.tok _,by rw [isEmpty_kv r]; exact q⟩
 | _=>exact (show False from e).elim
theorem pt_truth (ha:PE X a ta) (he:∀ whole,isTrue a X.env whole = (do let v <- whole; standAt a.pos; holding [v] (truthy v))) :
  PT X a (fun σ H Q=>ta σ H fun x H'=>∃ k,TruV X.K x H' k/\Q k H'):=by
 refine ⟨?_⟩
 intro pins s σ H Q I h
 exact isTrue_plain (thn (ha pins s σ H _ I h) fun v s1 ⟨x,H1,I1,r1,q1⟩=>tru_ok pins s1 σ H1 x v Q I1 r1 q1) (he _)
theorem op_add_str:OpR X (binaryOp .Add) (fun x y H Q=>∃ i j,x = .str i/\y = .str j/\i.length + j.length<=sizeLine/\Q (.str (i ++ j)) H):=by
 intro pins s σ H x y v u Q I rx ry h
 obtain ⟨i,j,rfl,rfl,hz,q⟩:=h
 obtain ⟨t,rfl⟩:=rx
 obtain ⟨t',rfl⟩:=ry
 exact add_str (fun t' tk=>⟨.str (i ++ j),H,I.tok _,⟨_,rfl⟩,q⟩) hz
theorem vals1 {x:V} {us:List Value} (r:Vals [x] us):∃ u,us = [u]/\RelV x u:=by
 cases r with
 | cons r1 r2=>cases r2; exact ⟨_,rfl,r1⟩
theorem vals2 {x y:V} {us:List Value} (r:Vals [x,y] us):∃ u w',us = [u,w']/\RelV x u/\RelV y w':=by
 cases r with
 | cons r1 r2=>
  cases r2 with
  | cons r3 r4=>cases r4; exact ⟨_,_,rfl,r1,r3⟩
end
structure ObjM (h:Heap) (x dx C:Addr) (mA:Str->Option Value):Prop where
 obj:h.get? x = some (PySem.W.instObj C dx)
 ns:h.Ns1 dx mA
 ne:dx ≠ x
theorem lookIn_ns {h:Heap} {dx:Addr} {mA:Str->Option Value} (n:h.Ns1 dx mA):∃ od,h.get? dx = some od/\∀ name,PySem.W.lookIn name od = some (mA name):=by
 obtain ⟨o,es,ep,ho,hd,hk,_,hm⟩:=n
 refine ⟨o,ho,fun name=>?_⟩
 have e:=hm name
 unfold nsFind findBy at e
 rw [<- Array.find?_toList] at e
 unfold PySem.W.lookIn
 rw [hd]
 dsimp only
 split
 ·rename_i y q
  rw [q] at e
  exact congrArg some e
 ·rename_i q
  rw [q] at e
  have a:es.toList.any (·.refKey) = false:=by
   rw [List.any_eq_false]
   intro y hy
   obtain ⟨z,t,hkey⟩:=hk y (Array.mem_toList_iff.mp hy)
   simp [DictEntry.refKey,hkey]
  have a':¬ es.toList.any (·.refKey) = true:=by rw [a]; exact Bool.false_ne_true
  rw [if_neg a']
  exact congrArg some e
theorem ObjM.look {h:Heap} {x dx C:Addr} {mA:Str->Option Value} (I:ObjM h x dx C mA):∃ od,PySem.W.InstAt h x (PySem.W.instObj C dx) C (some od)/\∀ name,PySem.W.lookIn name od = some (mA name):=
 let ⟨od,ho,hl⟩:=lookIn_ns I.ns
 ⟨od,⟨I.obj,rfl,rfl,ho⟩,hl⟩
section
variable {prog:Program} {w:World} {A:Around} {E:Value->Shared->Prop} {s:Shared} {K:PySem.W.Frag} {x dx C f:Addr} {mA:Str->Option Value} {name:Str} {v:Value}
theorem get_map {expr:Bool} {Q:Value->Shared->Prop} (X:K.In s.heap) (I:ObjM s.heap x dx C mA) (hg:PySem.W.plainGet K C name = true) (hh:PySem.W.hasDictIn K C = true)
  (ha:PySem.W.findIn K (.ref C) name = some none) (hv:mA name = some v) (hv':PySem.W.handedIn v = true) (h:Q v { s with toks:=s.toks + 1 }) :
  wpAny (model prog w) A (getAttr (.ref x) name expr) Q E s:=by
 obtain ⟨od,J,hl⟩:=I.look
 exact PySem.W.get_value X J (PySem.W.plainGet_of hg).1 (PySem.W.findObj_own hh ha rfl (by rw [hl,hv])) hv' h
theorem set_map {ns:List Str} {Q:Unit->Shared->Prop} (X:K.In s.heap) (I:ObjM s.heap x dx C mA)
  (hs:PySem.W.findIn K (.ref C) "__setattr__" = some (some (.builtin "object.__setattr__"))) (hp:PySem.W.plainOver K C = true) (ht:PySem.W.takerIn K C name = some none) (hh:PySem.W.hasDictIn K C = true)
  (hw:PySem.Within mA ns) (hsz:ns.length<=sizeLine)
  (h:∀ h',ObjM h' x dx C (fun y=>if y = name then some v else mA y)->Heap.SameBut dx s.heap h'->Q () { s with heap:=h',toks:=s.toks + 2 }) :
  wpAny (model prog w) A (setAttr (.ref x) name v) Q E s:=by
 obtain ⟨od,J,hl⟩:=I.look
 refine PySem.W.set_plain X J hs (PySem.W.osa_open (s:={ s with toks:=s.toks + 1 }) (r:=none) X J hp ht fun b=>?_)
 obtain ⟨cd,hc,hd'⟩:=PySem.W.any_some hh
 have hx:s.heap.get? x = some ⟨.ref C,some dx,.plain,#[]⟩:=I.obj
 refine wpAny_bind (wpAny_pure (wpAny_bind (wpAny_bind (wpAny_loadPart hx (wpAny_bind (PySem.W.Looks.here (s:={ s with toks:=s.toks + 1 }) (PySem.W.looks_clsIn X hc) ?_))))))
 rw [hd']
 refine wpAny_pure (a:=some dx) (wpAny_bind (wpAny_pure (wpAny_bind ?_)))
 refine wpAny_nsSet1 (s:={ s with toks:=s.toks + 1 }) I.ns fun h' hn2 hs2=>?_
 obtain ⟨oD,esD,epD,hoD,hdD,hcD⟩:=hn2.count (PySem.Within.cons name v hw)
 refine wpAny_bind (wpAny_lookBehind hoD (by rw [hdD]; exact pastItsLine_dict (Nat.le_trans hcD (by rw [List.length_cons]; omega))) ?_)
 exact wpAny_pure (h _ ⟨(hs2.2 _ (Ne.symm I.ne)).trans I.obj,hn2,I.ne⟩ hs2)
theorem make_map {R:Result->Shared->Prop} {vs:List Value} {kw:List (Str × Value)} (X:K.In s.heap) (hm:PySem.W.makesIn K C = true)
  (hi:PySem.W.findIn K (.ref C) "__init__" = some (some (.ref f))) (hf:PySem.W.typeIn K (.ref f) = some (.type "function"))
  (h:codeAny (model prog w) (A.under (.builtin "type.__call__" ⟨.ref C :: vs,kw⟩)) (.call (.ref f) ⟨.ref (s.heap.objs.size + 1) :: vs,kw⟩) (PySem.W.InitBack (s.heap.objs.size + 1) R)
   { s with heap:=(s.heap.push PySem.W.emptyDict).push (PySem.W.instObj C s.heap.objs.size) }) :
  codeAny (model prog w) A (.call (.ref C) ⟨vs,kw⟩) R s:=by
 obtain ⟨hh,g,d,t,os⟩:=s
 exact PySem.W.make_core (PySem.W.makes_of X hm) (PySem.W.looks_findIn X hi) (fun self=>PySem.W.bind_fn X self hf) (.inl rfl) h
end
def putF (f:Str) (v:V):List (Str × V)->List (Str × V)
 | []=>[(f,v)]
 | (g,x) :: r=>if g = f then (g,v) :: r else (g,x) :: putF f v r
theorem lookup_putF (f g:Str) (v:V):∀ fs:List (Str × V),(putF f v fs).lookup g = if g = f then some v else fs.lookup g
 | []=>by
  show List.lookup g [(f,v)] = _
  by_cases h:g = f
  ·have hb:(g == f) = true:=beq_iff_eq.mpr h
   simp only [List.lookup,hb,if_pos h]
  ·have hb:(g == f) = false:=beq_eq_false_iff_ne.mpr h
   simp only [List.lookup,hb,if_neg h]
 | (k,x) :: r=>by
  have ih:=lookup_putF f g v r
  rw [show putF f v ((k,x) :: r) = (if k = f then (k,v) :: r else (k,x) :: putF f v r) from rfl]
  by_cases hk:k = f
  ·rw [if_pos hk]
   by_cases h:g = k
   ·have hb:(g == k) = true:=beq_iff_eq.mpr h
    simp only [List.lookup,hb,if_pos (h.trans hk)]
   ·have hb:(g == k) = false:=beq_eq_false_iff_ne.mpr h
    simp only [List.lookup,hb,if_neg (fun e:g = f=>h (e.trans hk.symm))]
  ·rw [if_neg hk]
   by_cases h:g = k
   ·have hb:(g == k) = true:=beq_iff_eq.mpr h
    simp only [List.lookup,hb,if_neg (fun e:g = f=>hk (h.symm.trans e))]
   ·have hb:(g == k) = false:=beq_eq_false_iff_ne.mpr h
    simp only [List.lookup,hb]
    exact ih
theorem keys_putF (f:Str) (v:V):∀ fs:List (Str × V),f ∈ (putF f v fs).map (·.1)/\∀ g,g ∈ fs.map (·.1)->g ∈ (putF f v fs).map (·.1)
 | []=>⟨by simp [putF],fun g h=>by simp at h⟩
 | (k,x) :: r=>by
  obtain ⟨i1,i2⟩:=keys_putF f v r
  rw [show putF f v ((k,x) :: r) = (if k = f then (k,v) :: r else (k,x) :: putF f v r) from rfl]
  by_cases hk:k = f
  ·rw [if_pos hk]
   subst hk
   exact ⟨by simp,fun g h=>by simpa using h⟩
  ·rw [if_neg hk]
   refine ⟨?_,fun g h=>?_⟩
   ·rw [List.map_cons]
    exact List.mem_cons_of_mem _ i1
   ·rw [List.map_cons] at h |-
    rcases List.mem_cons.mp h with e | e
    ·exact List.mem_cons.mpr (.inl e)
    ·exact List.mem_cons_of_mem _ (i2 g e)
theorem length_putF (f:Str) (v:V):∀ fs:List (Str × V),(putF f v fs).length<=fs.length + 1
 | []=>by simp [putF]
 | (k,x) :: r=>by
  have ih:=length_putF f v r
  rw [show putF f v ((k,x) :: r) = (if k = f then (k,v) :: r else (k,x) :: putF f v r) from rfl]
  by_cases hk:k = f
  ·rw [if_pos hk,List.length_cons,List.length_cons]; omega
  ·rw [if_neg hk,List.length_cons,List.length_cons]; omega
theorem RelO.some_of {v:V} {o:Option Value} (r:RelO (some v) o):∃ u,o = some u/\RelV v u:=by
 cases o with
 | none=>exact (show False from r).elim
 | some u=>exact ⟨u,rfl,r⟩
theorem handed_of {v:V} {u:Value} (r:RelV v u):PySem.W.handedIn u = true:=by
 cases v with
 | non=>cases (show u = Value.none from r); rfl
 | bl b=>cases (show u = Value.bool b from r); rfl
 | int i=>obtain ⟨t,e⟩:=(show ∃ t,u = Value.int i t from r); cases e; rfl
 | str x=>obtain ⟨t,e⟩:=(show ∃ t,u = Value.str x t from r); cases e; rfl
 | byt b=>obtain ⟨t,e⟩:=(show ∃ t,u = Value.bytes b t from r); cases e; rfl
 | flt b=>obtain ⟨t,e⟩:=(show ∃ t,u = Value.float b t from r); cases e; rfl
 | ref a=>cases (show u = Value.ref a from r); rfl
 | ty n=>cases (show u = Value.type n from r); rfl
section
variable {P:Program} {w:World} {H H':Hp} {h h':Heap} {a C dx:Addr} {fs fs':List (Str × V)}
theorem ins_get (hok:HOk P w H h) (e:H a = some (.ins C dx fs)):∃ mA,ObjM h a dx C mA/\(∀ f,RelO (fs.lookup f) (mA f))/\PySem.Within mA (fs.map (·.1))/\fs.length<=1000/\H dx = some (.own a):=by
 obtain ⟨d,z,ne,ob,mA,n,r,q⟩:=(show ObjOk P w H h a (.ins C dx fs) from hok a _ e)
 exact ⟨mA,⟨ob,n,ne⟩,r,q,z,d⟩
end
structure Cls (K:PySem.W.Frag) (C:Addr):Prop where
 pg:PySem.W.plainGet K C Str.empty = true
 hd:PySem.W.hasDictIn K C = true
 po:PySem.W.plainOver K C = true
 sa:PySem.W.findIn K (.ref C) "__setattr__" = some (some (.builtin "object.__setattr__"))
theorem Cls.get {K:PySem.W.Frag} {C:Addr} (c:Cls K C) (f:Str):PySem.W.plainGet K C f = true:=c.pg
def NoAttr (K:PySem.W.Frag) (C:Addr) (f:Str):Prop:=PySem.W.findIn K (.ref C) f = some none
theorem NoAttr.taker {K:PySem.W.Frag} {C:Addr} {f:Str} (n:NoAttr K C f):PySem.W.takerIn K C f = some none:=by
 unfold PySem.W.takerIn
 rw [show PySem.W.findIn K (.ref C) f = some none from n]
 rfl
structure Meth (K:PySem.W.Frag) (C:Addr) (m:Str) (f:Addr):Prop where
 at_:PySem.W.findIn K (.ref C) m = some (some (.ref f))
 fn:PySem.W.isFn K (.ref f) = true
 kp:PySem.W.keepIn K (.ref f) = true
section
variable {X:Cx} {pins:List (Addr × Obj)} {σ : St} {H:Hp} {s:Shared} {a C dx:Addr} {fs:List (Str × V)} {f:Str} {v:V} {A:Around} {E:Value->Shared->Prop}
theorem getattr_ok {b:Bool} {Q:Value->Shared->Prop} (I:Inv X pins σ H s) (e:H a = some (.ins C dx fs)) (c:Cls X.K C) (n:NoAttr X.K C f) (l:fs.lookup f = some v)
  (h:∀ u s',Inv X pins σ H s'->RelV v u->Q u s'):wpAny (model X.prog X.w) A (getAttr (.ref a) f b) Q E s:=by
 obtain ⟨mA,O,r,_,_,_⟩:=ins_get I.hok e
 obtain ⟨u,hu,ru⟩:=RelO.some_of (v:=v) (o:=mA f) (by rw [<- l]; exact r f)
 exact get_map I.kIn O (c.get f) c.hd n hu (handed_of ru) (h u _ (I.tok _) ru)
theorem setattr_ok {y:V} {u:Value} {Q:Unit->Shared->Prop} (I:Inv X pins σ H s) (e:H a = some (.ins C dx fs)) (c:Cls X.K C) (n:NoAttr X.K C f) (hl:fs.length < 1000) (ry:RelV y u)
  (h:∀ s',Inv X pins σ (upd H a (.ins C dx (putF f y fs))) s'->Q () s'):wpAny (model X.prog X.w) A (setAttr (.ref a) f u) Q E s:=by
 obtain ⟨mA,O,r,wi,_,ho⟩:=ins_get I.hok e
 have hz:(fs.map (·.1)).length<=sizeLine:=by rw [List.length_map,sizeLine_eq]; omega
 refine set_map I.kIn O c.sa c.po n.taker c.hd wi hz fun h' O' sb=>h _ ?_
 have hd:∃ o,h'.get? dx = some o:=let ⟨o,_,_,e',_⟩:=O'.ns; ⟨o,e'⟩
 refine I.write (x:=a) (e:=dx) (by rw [e]; exact True.intro) (.inr ho) (fun b q hb z=>(sb.2 b hb).trans z) hd ?_
 refine ⟨by rw [upd_ne O.ne]; exact ho,?_,O.ne,O'.obj,_,O'.ns,fun g=>?_,fun g hg=>?_⟩
 ·have:=length_putF f y fs; omega
 ·show RelO ((putF f y fs).lookup g) (if g = f then some u else mA g)
  rw [lookup_putF]
  by_cases q:g = f
  ·rw [if_pos q,if_pos q]; exact ry
  ·rw [if_neg q,if_neg q]; exact r g
 ·by_cases q:g = f
  ·rw [q]; exact (keys_putF f y fs).1
  ·refine (keys_putF f y fs).2 g (wi g fun z=>hg ?_)
   show (if g = f then some u else mA g) = none
   rw [if_neg q]; exact z
theorem Inv.made (I:Inv X pins σ H s):Inv X pins σ (upd (upd H s.heap.objs.size (.own (s.heap.objs.size + 1))) (s.heap.objs.size + 1) (.ins C s.heap.objs.size []))
  { s with heap:=(s.heap.push PySem.W.emptyDict).push (PySem.W.instObj C s.heap.objs.size) }:=by
 have e1:(s.heap.push PySem.W.emptyDict).get? s.heap.objs.size = some PySem.W.emptyDict:=Heap.get?_push_size s.heap rfl
 have e2:((s.heap.push PySem.W.emptyDict).push (PySem.W.instObj C s.heap.objs.size)).get? (s.heap.objs.size + 1) = some (PySem.W.instObj C s.heap.objs.size):=by
  have:=Heap.get?_push_size (s.heap.push PySem.W.emptyDict) (o:=PySem.W.instObj C s.heap.objs.size) rfl
  rwa [Heap.size_push] at this
 have e3:(s.heap.push PySem.W.emptyDict).Ns s.heap.objs.size (fun _=>none):=⟨PySem.W.emptyDict,#[],_,e1,rfl,(fun e he=>absurd he (by simp)),fun _=>rfl⟩
 have I1:=I.laid (a:=s.heap.objs.size) (o:=.own (s.heap.objs.size + 1)) (h':=s.heap.push PySem.W.emptyDict) (t':=s.toks) (fun b u q=>Heap.get?_push_of_some _ q) (Nat.le_refl _) ⟨_,e1⟩
 refine I1.laid (a:=s.heap.objs.size + 1) (o:=.ins C s.heap.objs.size []) (t':=s.toks) (fun b u q=>Heap.get?_push_of_some _ q) (Nat.le_of_eq (Heap.size_push _ _)) ?_
 have ne:s.heap.objs.size ≠ s.heap.objs.size + 1:=Nat.ne_of_lt (Nat.lt_succ_self _)
 refine ⟨by rw [upd_ne ne,upd_same],Nat.zero_le _,ne,e2,fun _=>none,(Heap.Ns1.of_empty e3).at fun o q=>Heap.get?_push_of_some _ q,fun _=>True.intro,fun y hy=>absurd rfl hy⟩
theorem attr_of {prog:Program} {w:World} {env:Env} {e:Expr} {f:Str} {pos:Pos} {s:Shared} {Q:Value->Shared->Prop} (hb:attributeBase e f env (eval e env) = eval e env)
  (h:wpAny (model prog w) A (eval e env) (fun o s₁=>wpAny (model prog w) A (getAttr o f true) Q E s₁) E s):wpAny (model prog w) A (eval (.Attribute e f pos) env) Q E s:=
 Attribute_any_ h (by rw [arm_eval_Attribute,hb])
end
def tFld (K:PySem.W.Frag) (ta:TE) (f:Str):TE:=fun σ H Q=>ta σ H fun x H1=>∃ a C dx fs v,x = .ref a/\H1 a = some (.ins C dx fs)/\Cls K C/\NoAttr K C f/\fs.lookup f = some v/\Q v H1
def sFld (K:PySem.W.Frag) (ta tv:TE) (f:Str):TS:=fun D σ H=>tv σ H fun y H1=>ta σ H1 fun x H2=>∃ a C dx fs,x = .ref a/\H2 a = some (.ins C dx fs)/\Cls K C/\NoAttr K C f/\fs.length < 1000/\
 D.nx σ (upd H2 a (.ins C dx (putF f y fs)))
section
variable {X:Cx} {o e value:Expr} {f:Str} {pos pos' tpos:Pos} {ta tv:TE}
theorem pe_fld (he:PE X e ta) (hb:attributeBase e f X.env (eval e X.env) = eval e X.env):PE X (.Attribute e f pos) (tFld X.K ta f):=by
 refine ⟨?_⟩
 intro pins s σ H Q I h
 refine attr_of hb (thn (he pins s σ H _ I h) fun u s1 ⟨x,H1,I1,rx,a,C,dx,fs,v,ex,ea,c,n,l,q⟩=>?_)
 subst ex
 obtain rfl:u = Value.ref a:=rx
 exact getattr_ok I1 ea c n l fun u' s2 I2 ru=>⟨v,H1,I2,ru,q⟩
theorem ps_fld (ha:PE X o ta) (hv:PE X value tv) (hs:swapsWith value (some (.Attribute o f pos')) pos.line X.env = pure false):PS X (.Assign [.Attribute o f pos'] value pos) (sFld X.K ta tv f):=by
 refine ⟨?_⟩
 intro pins s σ H D I h
 refine plainObj_wpAny_Assign_Attribute (thn (hv pins s σ H _ I h) fun u s1 ⟨y,H1,I1,ry,q⟩=>thn (ha pins s1 σ H1 _ I1 q) fun ov s2 ⟨x,H2,I2,rx,a,C,dx,fs,ex,ea,c,n,l,q2⟩=>?_) hs
 subst ex
 obtain rfl:ov = Value.ref a:=rx
 exact setattr_ok I2 ea c n l ry fun s3 I3=>⟨σ,_,I3,q2⟩
end
section
variable {X:Cx} {pins:List (Addr × Obj)} {σ : St} {H:Hp} {s:Shared} {A:Around} {E:Value->Shared->Prop} {Q:Value->Shared->Prop} {c:Value} {b:Bool}
inductive TyOf (K:PySem.W.Frag) (H:Hp):V->Value->Prop where
 | non:TyOf K H .non (.type "NoneType")
 | bl (x:Bool):TyOf K H (.bl x) (.type "bool")
 | int (i:Int):TyOf K H (.int i) (.type "int")
 | str (x:Str):TyOf K H (.str x) (.type "str")
 | flt (x:UInt64):TyOf K H (.flt x) (.type "float")
 | lst {a:Addr} {xs:List V} (e:H a = some (.lst xs)):TyOf K H (.ref a) (.type "list")
 | frz {a:Addr} {o:Obj} {xs:List V} (e:H a = some (.frz o (.lst xs))):TyOf K H (.ref a) (.type "list")
 | tup {a:Addr} {xs:List V} (e:H a = some (.tup xs)):TyOf K H (.ref a) (.type "tuple")
 | dK {a:Addr} {kvs:List (Key × V)} (e:H a = some (.dK kvs)):TyOf K H (.ref a) (.type "dict")
 | dT {a:Addr} {kvs:List (List Key × V)} (e:H a = some (.dT kvs)):TyOf K H (.ref a) (.type "dict")
 | ins {a C dx:Addr} {fs:List (Str × V)} (e:H a = some (.ins C dx fs)) (cl:Cls K C) (ha:PySem.W.findIn K (.ref C) "__class__" = some (some (.builtin "object.__class__")))
   (hn:PySem.W.specialIn K (.builtin "object.__class__") "__get__" = some (some (.builtin "getset_descriptor.__get__"))) (htk:PySem.W.takesIn K (.builtin "object.__class__") = some true)
   (hm:PySem.W.mroIn K C (.type "object") = some true):TyOf K H (.ref a) (.ref C)
theorem isinst_ok {x:V} {u t:Value} (I:Inv X pins σ H s) (rx:RelV x u) (ty:TyOf X.K H x t) (e:PySem.W.kitOne X.K t c = some b) (h:∀ tk,Q (.bool b) { s with toks:=tk }) :
  wpAny (model X.prog X.w) A (call (.builtin "isinstance") [u,c]) Q E s:=by
 cases ty with
 | non=>cases (show u = Value.none from rx); exact PySem.W.kia_one PySem.W.kitx_none I.kIn True.intro e (fun z=>nomatch z) h
 | bl y=>cases (show u = Value.bool y from rx); exact PySem.W.kia_one PySem.W.kitx_bool I.kIn True.intro e (fun z=>nomatch z) h
 | int i=>obtain ⟨t,q⟩:=(show ∃ t,u = Value.int i t from rx); cases q; exact PySem.W.kia_one PySem.W.kitx_int I.kIn True.intro e (fun z=>nomatch z) h
 | str y=>obtain ⟨t,q⟩:=(show ∃ t,u = Value.str y t from rx); cases q; exact PySem.W.kia_one PySem.W.kitx_str I.kIn True.intro e (fun z=>nomatch z) h
 | flt y=>obtain ⟨t,q⟩:=(show ∃ t,u = Value.float y t from rx); cases q; exact PySem.W.kia_one PySem.W.kitx_float I.kIn True.intro e (fun z=>nomatch z) h
 | @lst a xs ea=>
  cases (show u = Value.ref a from rx)
  obtain ⟨_,_,n,_,h1⟩:=(show ObjOk X.prog X.w H s.heap a (.lst xs) from I.hok a _ ea)
  exact PySem.W.kia_one PySem.W.kitx_list I.kIn ⟨_,h1,rfl⟩ e (fun z=>nomatch z) h
 | @frz a ob xs ea=>
  cases (show u = Value.ref a from rx)
  obtain ⟨_,_,_,n,_,h1⟩:=(show ObjOk X.prog X.w H s.heap a (.frz ob (.lst xs)) from I.hok a _ ea)
  exact PySem.W.kia_one PySem.W.kitx_list I.kIn ⟨_,h1,rfl⟩ e (fun z=>nomatch z) h
 | @tup a xs ea=>
  cases (show u = Value.ref a from rx)
  obtain ⟨_,_,_,p⟩:=(show ObjOk X.prog X.w H s.heap a (.tup xs) from I.hok a _ ea)
  obtain ⟨o,h1,h2,_⟩:=p
  exact PySem.W.kia_one PySem.W.kitx_tuple I.kIn ⟨o,h1,h2⟩ e (fun z=>nomatch z) h
 | @dK a kvs ea=>
  cases (show u = Value.ref a from rx)
  obtain ⟨_,_,vs,_,p⟩:=(show ObjOk X.prog X.w H s.heap a (.dK kvs) from I.hok a _ ea)
  obtain ⟨o,es,ep,h1,h2,_⟩:=p
  exact PySem.W.kia_one PySem.W.kitx_dict I.kIn ⟨o,h1,h2.1⟩ e (fun z=>nomatch z) h
 | @dT a kvs ea=>
  cases (show u = Value.ref a from rx)
  obtain ⟨_,_,xs,_,o,es,ep,h1,h2,_⟩:=(show ObjOk X.prog X.w H s.heap a (.dT kvs) from I.hok a _ ea)
  exact PySem.W.kia_one PySem.W.kitx_dict I.kIn ⟨o,h1,h2.1⟩ e (fun z=>nomatch z) h
 | @ins a C dx fs ea cl ha hn htk hm=>
  cases (show u = Value.ref a from rx)
  obtain ⟨mA,O,_⟩:=ins_get I.hok ea
  obtain ⟨od,J,_⟩:=O.look
  exact PySem.W.kia_one (PySem.W.kitx_own (cl.get _) cl.hd ha hn htk hm) I.kIn J e (fun z=>nomatch z) h
end
structure Room (k:Nat) (A:Around):Prop where
 hd:A.handled = none
 dp:A.depth + 3 * k + 5 < recursionLimit
 un:A.units + 16 * k + 200 < cLine
theorem Room.mono {j k:Nat} {A:Around} (r:Room k A) (h:j<=k):Room j A:=⟨r.hd,by have:=r.dp; omega,by have:=r.un; omega⟩
theorem Room.deeper {k:Nat} {A:Around} (r:Room (k + 1) A) (env:Env):Room k (A.deeper env):=
 ⟨r.hd,by have:=r.dp; show A.depth + 1 + 3 * k + 5 < _; omega,by have:=r.un; show A.units + 3 + 16 * k + 200 < _; omega⟩
theorem make_depth {A:Around} {C:Addr} {us:List Value} {kw:List (Str × Value)}:(A.under (.builtin "type.__call__" ⟨.ref C :: us,kw⟩)).depth = A.depth + 1:=by
 first | rfl | simp [Around.under,Code.weight,Code.isCreation,Code.isGuard,Code.isCaller,Code.frames,Code.isFrame,guardIds]
theorem make_units {A:Around} {C:Addr} {us:List Value} {kw:List (Str × Value)}:(A.under (.builtin "type.__call__" ⟨.ref C :: us,kw⟩)).units = A.units + 1:=by
 first | rfl | simp [Around.under,Code.cUnits,Code.frames,Code.isFrame]
theorem Room.make {k:Nat} {A:Around} (r:Room (k + 1) A) (C:Addr) (us:List Value) (kw:List (Str × Value)):Room k (A.under (.builtin "type.__call__" ⟨.ref C :: us,kw⟩)):=
 ⟨r.hd,by have:=r.dp; rw [make_depth]; omega,by have:=r.un; rw [make_units]; omega⟩
theorem Room.depth {k:Nat} {A:Around} (r:Room k A):A.depth < recursionLimit:=by have:=r.dp; omega
theorem Room.units {k:Nat} {A:Around} (r:Room k A):A.units + 64 < cLine:=by have:=r.un; omega
theorem Room.units0 {k:Nat} {A:Around} (r:Room k A):A.units < cLine:=by have:=r.un; omega
def tNil:TA:=fun _ H Q=>Q [] H
def tCons (ta:TE) (tr:TA):TA:=fun σ H Q=>ta σ H fun x H1=>tr σ H1 fun xs H2=>Q (x :: xs) H2
section
variable {X:Cx} {e:Expr} {es:List Expr} {te:TE} {t:TA} {pos:Pos}
theorem pa_nil:PA X [] tNil:=⟨fun _ _ _ _ H Q I h=>Calls.spliced_nil ⟨[],H,I,.nil,h⟩⟩
theorem pa_cons (ha:PE X e te) (hr:PA X es t) (hs:starEach (e :: es) X.env = (false,eval e X.env) :: starEach es X.env:=by rfl):PA X (e :: es) (tCons te t):=by
 refine ⟨?_⟩
 intro pos pins s σ H Q I h
 rw [hs]
 show wpAny _ _ (spliced ((false,eval e X.env) :: backTo pos (starEach es X.env))) _ _ s
 refine Calls.spliced_cons (thn (ha pins s σ H _ I h) fun u s1 ⟨x,H1,I1,r1,q1⟩=>?_)
 exact thn (hr pos pins s1 σ H1 _ I1 q1) fun us s2 ⟨xs,H2,I2,r2,q2⟩=>⟨x :: xs,H2,I2,.cons r1 r2,q2⟩
def tTup (t:TA):TE:=fun σ H Q=>t σ H fun xs H1=>xs.length<=sizeLine/\∀ p,H1 p = none->Q (.ref p) (upd H1 p (.tup xs))
def tLst (t:TA):TE:=fun σ H Q=>t σ H fun xs H1=>xs.length<=sizeLine/\∀ p,H1 p = none->Q (.ref p) (upd H1 p (.lst xs))
theorem pe_tup {x1} (h:PA X es t):PE X (.Tuple es x1 pos) (tTup t):=by
 refine ⟨?_⟩
 intro pins s σ H Q I hq
 refine wpAny_Tuple_spliced (thn (h pos pins s σ H _ I hq) fun us s1 ⟨xs,H1,I1,r,z,q⟩=>⟨by rw [<- r.length]; exact z,?_⟩)
 have hf:H1 s1.heap.objs.size = none:=I1.hok.fresh (Nat.le_refl _)
 refine ⟨.ref s1.heap.objs.size,upd H1 s1.heap.objs.size (.tup xs),I1.laid (t':=s1.toks) (fun b u e=>Heap.get?_push_of_some _ e) (Nat.le_refl _) ?_,rfl,q _ hf⟩
 exact ⟨z,us,r,⟨_,Heap.get?_push_size _ rfl,rfl,_,rfl⟩⟩
theorem pe_lst (h:PA X es t):PE X (.List es pos) (tLst t):=by
 refine ⟨?_⟩
 intro pins s σ H Q I hq
 refine wpAny_List_spliced (thn (h pos pins s σ H _ I hq) fun us s1 ⟨xs,H1,I1,r,z,q⟩=>⟨by rw [<- r.length]; exact z,?_⟩)
 have hf:H1 s1.heap.objs.size = none:=I1.hok.fresh (Nat.le_refl _)
 refine ⟨.ref s1.heap.objs.size,upd H1 s1.heap.objs.size (.lst xs),I1.laid (t':=s1.toks) (fun b u e=>Heap.get?_push_of_some _ e) (Nat.le_refl _) ?_,rfl,q _ hf⟩
 exact ⟨z,us,0,r,Heap.get?_push_size _ rfl⟩
end
abbrev Sp:=List V->Hp->VK->XK->Prop
abbrev CXT:=List Env->Hp->Shared->XK->Value->Shared->Prop
structure Env0 (P:Program) (w:World) (K:PySem.W.Frag) (mg:Str->Option Value) (base:Heap) (A:Around) (outer:List Env) (s:Shared) (H:Hp):Prop where
 frames:A.frames = some outer
 mod:Mod K mg base
 bs:∀ b o,base.get? b = some o->s.heap.get? b = some o/\H b = none
 bsz:base.objs.size<=s.heap.objs.size
 funs:s.heap.FunFrames base outer
 frf:∀ b ∈ frs outer,H b = none
 hok:HOk P w H s.heap
 bare:AllBare s.gens
def CE (outer:List Env) (P:Program) (w:World) (H:Hp) (s:Shared) (Q:VK) (u:Value) (s':Shared):Prop:=
 ∃ v H',s'.os = s.os/\AllBare s'.gens/\Un (frs outer) [] H H' s.heap s'.heap/\HOk P w H' s'.heap/\RelV v u/\Q v H'
def CR (CX:CXT) (outer:List Env) (P:Program) (w:World) (H:Hp) (s:Shared) (Q:VK) (E:XK) (r:Result) (s':Shared):Prop:=
 match r with
 | .ok (.ret u)=>CE outer P w H s Q u s'
 | .ok _=>False
 | .error e=>CX outer H s E e s'
structure FnOk (P:Program) (w:World) (K:PySem.W.Frag) (mg:Str->Option Value) (base:Heap) (CX:CXT) (k:Nat) (f:Addr) (fd:FuncData) (ps:List Str) (sp:Sp):Prop where
 len:∀ vs H Q E,sp vs H Q E->vs.length = ps.length
 run:∀ (A:Around) (outer:List Env) (s:Shared) (H:Hp) (args:Args) (us:List Value) (vs:List V) (Q:VK) (E:XK),Room k A->Env0 P w K mg base A outer s H->BindsTo s fd args (ps.zip us)->Vals vs us->sp vs H Q E->
  codeAny (model P w) A (.call (.ref f) args) (CR CX outer P w H s Q E) s
theorem Env0.make {P:Program} {w:World} {K:PySem.W.Frag} {mg:Str->Option Value} {base:Heap} {A:Around} {outer:List Env} {s:Shared} {H:Hp} (e:Env0 P w K mg base A outer s H) (C:Addr) (us:List Value) (kw:List (Str × Value)) :
  Env0 P w K mg base (A.under (.builtin "type.__call__" ⟨.ref C :: us,kw⟩)) outer s H:=⟨by first | exact e.frames | (simpa [Around.under,Code.envs,Code.isFrame,pushEnvs] using e.frames),e.mod,e.bs,e.bsz,e.funs,e.frf,e.hok,e.bare⟩
section
variable {X:Cx} {pins:List (Addr × Obj)} {σ : St} {H:Hp} {s s':Shared}
theorem Inv.env0 (I:Inv X pins σ H s):Env0 X.prog X.w X.K X.mg X.base X.A X.stack s H:=
 ⟨I.ok.frames,I.ok.mod,I.bs,Nat.le_trans I.ok.bsz I.sz,I.stack,I.stkFree,I.hok,I.bare⟩
theorem Inv.after {Q:VK} {u:Value} (I:Inv X pins σ H s) (h:CE X.stack X.prog X.w H s Q u s'):EP X pins σ Q u s':=by
 obtain ⟨v,H',os,bare,un,hok,r,q⟩:=h
 obtain ⟨hh,g,d,t,os'⟩:=s'
 obtain rfl:os' = s.os:=os
 exact ⟨v,H',I.call (h':=hh) (g':=g) (d':=d) (t':=t) (ch:=[]) un hok bare (fun b z=>absurd z (by simp)),r,q⟩
end
def tCall (sp:Sp) (dvs:List V) (E:XK) (t:TA):TE:=fun σ H Q=>t σ H fun vs H1=>sp (vs ++ dvs) H1 Q E
def tMake (C:Addr) (sp:Sp) (dvs:List V) (E:XK) (t:TA):TE:=fun σ H Q=>t σ H fun vs H1=>∀ x dx,H1 x = none->H1 dx = none->dx ≠ x->
 sp (.ref x :: (vs ++ dvs)) (upd (upd H1 dx (.own x)) x (.ins C dx [])) (fun v H2=>v = .non/\Q (.ref x) H2) E
def Binds (K:PySem.W.Frag) (fd:FuncData) (ps:List Str) (ds:List Value):Prop:=
 ∀ (s:Shared) (us:List Value),K.In s.heap->(us ++ ds).length = ps.length->BindsTo s fd ⟨us,[]⟩ (ps.zip (us ++ ds))
theorem Binds.all {K:PySem.W.Frag} {fd:FuncData} {ps:List Str} (h:∀ us:List Value,us.length = ps.length->bindArgs fd ⟨us,[]⟩ = pure (ps.zip us)):Binds K fd ps []:=fun s us _ hl=>by
 rw [List.append_nil] at hl |-
 exact .of_eq (h us hl)
def Passes (CX:CXT) (X:Cx) (E:XK):Prop:=∀ (pins:List (Addr × Obj)) (σ : St) (H:Hp) (s:Shared) (e:Value) (s':Shared),Inv X pins σ H s->CX X.stack H s E e s'->X.xe e s'
section
variable {X:Cx} {CX:CXT} {k:Nat} {f C:Addr} {fd:FuncData} {ps:List Str} {sp:Sp} {dvs:List V} {ds:List Value} {E:XK} {x m:Str} {p pos apos:Pos} {e o:Expr} {es:List Expr} {ta:TE} {t:TA}
theorem run_fn {pins:List (Addr × Obj)} {σ : St} {H:Hp} {s:Shared} {Q:VK} {us:List Value} {vs:List V} (F:FnOk X.prog X.w X.K X.mg X.base CX k f fd ps sp) (hr:Room k X.A) (hb:Binds X.K fd ps ds) (hd:Vals dvs ds) (hx:Passes CX X E)
  (I:Inv X pins σ H s) (r:Vals vs us) (h:sp (vs ++ dvs) H Q E):wpAny (model X.prog X.w) X.A (call (.ref f) us) (EP X pins σ Q) X.xe s:=by
 have r2:Vals (vs ++ dvs) (us ++ ds):=r.append hd
 have hl:(us ++ ds).length = ps.length:=by rw [<- r2.length]; exact F.len _ _ _ _ h
 refine wpAny_call (codeAny_mono (F.run X.A X.stack s H ⟨us,[]⟩ (us ++ ds) (vs ++ dvs) Q E hr I.env0 (hb s us I.kIn hl) r2 h) fun r s' hq=>?_)
 cases r with
 | error e=>exact hx pins σ H s e s' I hq
 | ok fl=>
  cases fl with
  | ret u=>exact I.after hq
  | next=>exact False.elim hq
  | brk=>exact False.elim hq
  | cont=>exact False.elim hq
theorem pe_call (F:FnOk X.prog X.w X.K X.mg X.base CX k f fd ps sp) (hr:Room k X.A) (hg:Gl X x) (hm:X.mg x = some (.ref f)) (hk:PySem.W.keepIn X.K (.ref f) = true) (hb:Binds X.K fd ps ds) (hd:Vals dvs ds) (hx:Passes CX X E)
  (ha:PA X (e :: es) t) (hdb:(x == ("__debug__" : Str)) = false:=by decide) (he:starEach (e :: es) X.env = (false,eval e X.env) :: starEach es X.env:=by rfl) (hpl:(backTo pos (starEach es X.env)).any (·.1) = false:=by rfl) :
  PE X (.Call (.Name x p) (e :: es) [] pos) (tCall sp dvs E t):=by
 refine ⟨?_⟩
 intro pins s σ H Q I h
 refine wpAny_Call_Name_kw (ld_glob I hg hm ?_ hdb)
 refine PySem.W.callWith_K (h₀:=X.base) I.ok.mod.kin hk (thn (ha pos pins s σ H _ I h) fun us s1 ⟨vs,H1,I1,r,q⟩=>⟨I1.kIn,?_⟩) he hpl
 exact run_fn F hr hb hd hx I1 r q
structure Mk (K:PySem.W.Frag) (C f:Addr):Prop where
 makes:PySem.W.makesIn K C = true
 init:PySem.W.findIn K (.ref C) "__init__" = some (some (.ref f))
 fn:PySem.W.isFn K (.ref f) = true
 kp:PySem.W.keepIn K (.ref C) = true
theorem run_make {pins:List (Addr × Obj)} {σ : St} {H:Hp} {s:Shared} {Q:VK} {us:List Value} {vs:List V} (M:Mk X.K C f) (F:FnOk X.prog X.w X.K X.mg X.base CX k f fd ps sp) (hr:Room (k + 1) X.A) (hb:Binds X.K fd ps ds) (hd:Vals dvs ds)
  (hx:Passes CX X E) (I:Inv X pins σ H s) (r:Vals vs us)
  (h:∀ x dx,H x = none->H dx = none->dx ≠ x->sp (.ref x :: (vs ++ dvs)) (upd (upd H dx (.own x)) x (.ins C dx [])) (fun v H2=>v = .non/\Q (.ref x) H2) E) :
  wpAny (model X.prog X.w) X.A (call (.ref C) us) (EP X pins σ Q) X.xe s:=by
 have hq:=h (s.heap.objs.size + 1) s.heap.objs.size (I.hok.fresh (Nat.le_succ _)) (I.hok.fresh (Nat.le_refl _)) (Nat.ne_of_lt (Nat.lt_succ_self _))
 have I2:=Inv.made (C:=C) I
 have r2:Vals (V.ref (s.heap.objs.size + 1) :: (vs ++ dvs)) (Value.ref (s.heap.objs.size + 1) :: (us ++ ds)):=.cons rfl (r.append hd)
 have hl:(Value.ref (s.heap.objs.size + 1) :: us ++ ds).length = ps.length:=by
  have e:=r2.length
  rw [F.len _ _ _ _ hq] at e
  exact e.symm
 refine wpAny_call (make_map (f:=f) I.kIn M.makes M.init (beq_iff_eq.mp M.fn) (codeAny_mono (F.run _ X.stack _ _ ⟨Value.ref (s.heap.objs.size + 1) :: us,[]⟩ (Value.ref (s.heap.objs.size + 1) :: (us ++ ds)) _ _ E (hr.make C us [])
  (I2.env0.make C us []) (hb _ (Value.ref (s.heap.objs.size + 1) :: us) I2.kIn hl) r2 hq) fun r s' hq'=>?_))
 cases r with
 | error e=>exact hx pins σ _ _ e s' I2 hq'
 | ok fl=>
  cases fl with
  | ret u=>
   obtain ⟨v,H',I3,rv,ev,q3⟩:=I2.after hq'
   subst ev
   exact ⟨rv,⟨V.ref (s.heap.objs.size + 1),H',I3,rfl,q3⟩⟩
  | next=>exact False.elim hq'
  | brk=>exact False.elim hq'
  | cont=>exact False.elim hq'
theorem pe_make (M:Mk X.K C f) (F:FnOk X.prog X.w X.K X.mg X.base CX k f fd ps sp) (hr:Room (k + 1) X.A) (hg:Gl X x) (hm:X.mg x = some (.ref C)) (hb:Binds X.K fd ps ds) (hd:Vals dvs ds) (hx:Passes CX X E)
  (ha:PA X (e :: es) t) (hdb:(x == ("__debug__" : Str)) = false:=by decide) (he:starEach (e :: es) X.env = (false,eval e X.env) :: starEach es X.env:=by rfl) (hpl:(backTo pos (starEach es X.env)).any (·.1) = false:=by rfl) :
  PE X (.Call (.Name x p) (e :: es) [] pos) (tMake C sp dvs E t):=by
 refine ⟨?_⟩
 intro pins s σ H Q I h
 refine wpAny_Call_Name_kw (ld_glob I hg hm ?_ hdb)
 refine PySem.W.callWith_K (h₀:=X.base) I.ok.mod.kin M.kp (thn (ha pos pins s σ H _ I h) fun us s1 ⟨vs,H1,I1,r,q⟩=>⟨I1.kIn,?_⟩) he hpl
 exact run_make M F hr hb hd hx I1 r q
end
section
variable {X:Cx} {CX:CXT} {k:Nat} {f C:Addr} {fd:FuncData} {ps ks:List Str} {sp:Sp} {E:XK} {x m:Str} {p pos apos kpos:Pos} {e o:Expr} {es:List Expr} {kws:List Keyword} {te ta:TE} {t tk:TA} {nm:Option Str}
variable {g:List Value->List Value->List Value} {gV:List V->List V->List V}
end
structure FnScope (N P:List Str) (sc:Scope):Prop where
 kind:sc.kind = .function
 co:sc.isCoroutine = false
 gen:sc.isGenerator = false
 nd:N.Nodup
 pre:N.take P.length = P
 par:∀ x ∈ P,sc.names.lookup x = some .local\/sc.names.lookup x = some .cell
 nofree:∀ y ∈ sc.names,y.2 ≠ .free
theorem bindL_out {kindOf:Str->Option NameKind} {x:Str}:∀ {binds:List (Str × Value)} {m:Str->Option Value},(∀ v,(x,v) ∉ binds)->bindL kindOf binds m x = m x
 | [],_,_=>rfl
 | (n,v) :: r,m,h=>by
  unfold bindL
  rw [bindL_out fun w hw=>h w (List.mem_cons_of_mem _ hw)]
  split
  ·have:x ≠ n:=by rintro rfl; exact h v List.mem_cons_self
   simp [this]
  ·rfl
theorem bindC_out {kindOf:Str->Option NameKind} {x:Str}:∀ {binds:List (Str × Value)} {m:Str->Option Value},(∀ v,(x,v) ∉ binds)->bindC kindOf binds m x = m x
 | [],_,_=>rfl
 | (n,v) :: r,m,h=>by
  unfold bindC
  rw [bindC_out fun w hw=>h w (List.mem_cons_of_mem _ hw)]
  split
  ·rfl
  ·have:x ≠ n:=by rintro rfl; exact h v List.mem_cons_self
   simp [this]
theorem bindL_get {kindOf:Str->Option NameKind} {x:Str} {v:Value}:∀ {P:List Str} {vs:List Value} {i:Nat} {m:Str->Option Value},P.Nodup->P[i]? = some x->vs[i]? = some v->kindOf x = some .local->
  bindL kindOf (P.zip vs) m x = some v
 | [],_,_,_,_,h,_,_=>by simp at h
 | _ :: _,[],_,_,_,_,h,_=>by simp at h
 | p :: P,w :: vs,0,m,nd,h1,h2,hk=>by
  simp at h1 h2; subst h1; subst h2
  show bindL kindOf ((p,w) :: P.zip vs) m p = _
  unfold bindL
  rw [bindL_out fun v hv=>(List.nodup_cons.mp nd).1 (List.of_mem_zip hv).1,if_pos hk]
  simp
 | p :: P,w :: vs,i + 1,m,nd,h1,h2,hk=>by
  show bindL kindOf ((p,w) :: P.zip vs) m x = _
  unfold bindL
  exact bindL_get (i:=i) (List.nodup_cons.mp nd).2 (by simpa using h1) (by simpa using h2) hk
theorem bindC_get {kindOf:Str->Option NameKind} {x:Str} {v:Value}:∀ {P:List Str} {vs:List Value} {i:Nat} {m:Str->Option Value},P.Nodup->P[i]? = some x->vs[i]? = some v->kindOf x ≠ some .local->
  bindC kindOf (P.zip vs) m x = some v
 | [],_,_,_,_,h,_,_=>by simp at h
 | _ :: _,[],_,_,_,_,h,_=>by simp at h
 | p :: P,w :: vs,0,m,nd,h1,h2,hk=>by
  simp at h1 h2; subst h1; subst h2
  show bindC kindOf ((p,w) :: P.zip vs) m p = _
  unfold bindC
  rw [bindC_out fun v hv=>(List.nodup_cons.mp nd).1 (List.of_mem_zip hv).1,if_neg hk]
  simp
 | p :: P,w :: vs,i + 1,m,nd,h1,h2,hk=>by
  show bindC kindOf ((p,w) :: P.zip vs) m x = _
  unfold bindC
  exact bindC_get (i:=i) (List.nodup_cons.mp nd).2 (by simpa using h1) (by simpa using h2) hk
def start (N:List Str) (vs:List V):St:=vs.map some ++ List.replicate (N.length - vs.length) none
def cxOf (CX:CXT) (P:Program) (w:World) (K:PySem.W.Frag) (mg:Str->Option Value) (base:Heap) (N:List Str) (qual:Str) (scope:Scope) (f:Addr) (cd:Value) (A:Around) (outer:List Env) (s:Shared) (H:Hp) (E:XK):Cx where
 prog:=P
 w:=w
 K:=K
 mg:=mg
 base:=base
 A:=A.deeper (envOfC qual scope s.heap.objs.size f cd)
 N:=N
 s₀:=s
 H₀:=H
 env:=envOfC qual scope s.heap.objs.size f cd
 outer:=outer
 stack:=envOfC qual scope s.heap.objs.size f cd :: outer
 ex:=[]
 calm:=true
 fn:=fun _=>true
 pn:=[]
 xe:=fun e s'=>wpAny (model P w) (A.deeper (envOfC qual scope s.heap.objs.size f cd)) (leaving (envOfC qual scope s.heap.objs.size f cd) e) (fun _ s''=>CX outer H s E e s'') (fun e' s''=>CX outer H s E e' s'') s'
theorem cell_has {sc:Scope} {n:Nat} {x:Str} (h:sc.names.lookup x = some .cell):∃ c,(cellsFrom n sc.names []).lookup x = some c:=by
 have q:=PySem.W.cellsFrom_some sc.names n [] (.inl h)
 exact Option.isSome_iff_exists.mp q
theorem inv_start {CX:CXT} {P:Program} {w:World} {K:PySem.W.Frag} {mg:Str->Option Value} {base:Heap} {N ps:List Str} {qual:Str} {scope:Scope} {f:Addr} {cd:Value} {A:Around} {outer:List Env} {s s1:Shared} {H:Hp} {E:XK} {us:List Value} {vs:List V}
  (S:FnScope N ps scope) (hd:A.handled = none) (e0:Env0 P w K mg base A outer s H) (hl:vs.length = ps.length) (r:Vals vs us)
  (x:InCallC s s.heap.objs.size (bindL (envOfC qual scope s.heap.objs.size f cd).kindOf (ps.zip us) fun _=>none) (cellsFrom (s.heap.objs.size + 1) scope.names []) (bindC (envOfC qual scope s.heap.objs.size f cd).kindOf (ps.zip us) fun _=>none) s1) :
  Inv (cxOf CX P w K mg base N qual scope f cd A outer s H E) [] (start N vs) H s1:=by
 have hpl:ps.length<=N.length:=by have:=congrArg List.length S.pre; rw [List.length_take] at this; omega
 obtain ⟨h1,tk,rfl,hk⟩:=x.done
 have noA:∀ b:Addr,b ∉ (cxOf CX P w K mg base N qual scope f cd A outer s H E).ex:=fun b z=>absurd (show b ∈ ([]:List Addr) from z) (by simp)
 refine ⟨⟨e0.mod,S.kind,rfl,rfl,Nat.le_refl _,fun y z c h1 h2=>?_,fun y hy=>?_,fun y c _ h=>?_,fun _=>hd,Around.frames_deeper e0.frames,.inr ⟨rfl,rfl⟩,fun b z=>absurd z (noA b),e0.bs,e0.bsz,fun b _ _=>noA b,fun b z=>absurd z (noA b),e0.funs,e0.frf⟩,
  rfl,e0.bare,Un.kept hk,⟨_,x.toInCall.ns,fun i y v h1 h2 h3=>?_⟩,fun y c h=>⟨_,x.cell y c h⟩,e0.hok.fresh (Nat.le_refl _),fun y c h=>?_,fun p hp=>absurd (show p ∈ ([]:List (Addr × Obj)) from hp) (by simp),e0.hok.kept hk,?_⟩
 ·exact name_of_addr x.apart (PySem.mem_of_lookup h1) (PySem.mem_of_lookup h2)
 ·have hy:scope.names.lookup y = some .cell\/scope.names.lookup y = some .free:=hy
  rcases hy with hy | hy
  ·exact cell_has hy
  ·exact absurd rfl (S.nofree _ (PySem.mem_of_lookup hy))
 ·exact Nat.le_of_lt (x.above y c (PySem.mem_of_lookup h))
 ·have hi:i < vs.length:=by
   unfold start at h2
   by_cases hi:i < vs.length
   ·exact hi
   ·rw [List.getElem?_append_right (by simpa using hi)] at h2
    rw [List.getElem?_replicate] at h2
    split at h2 <;> cases h2
  have ha:vs[i]? = some v:=by
   unfold start at h2
   rw [List.getElem?_append_left (by simpa using hi),List.getElem?_map] at h2
   cases e:vs[i]? with
   | none=>rw [e] at h2; cases h2
   | some a=>rw [e] at h2; cases h2; rfl
  obtain ⟨u,hu,rv⟩:=r.get ha
  have hp:ps[i]? = some y:=by
   rw [<- S.pre,List.getElem?_take_of_lt (by omega)]; exact h1
  have ndP:ps.Nodup:=by rw [<- S.pre]; exact S.nd.sublist (List.take_sublist _ _)
  refine ⟨u,rv,?_⟩
  rcases S.par y (List.mem_of_getElem? hp) with k | k
  ·exact .inl ⟨k,bindL_get ndP hp hu k⟩
  ·obtain ⟨c,e⟩:=cell_has (n:=s.heap.objs.size + 1) k
   refine .inr ⟨.inl k,c,e,?_⟩
   have q:=x.cell y c e
   rw [bindC_get ndP hp hu (by show scope.names.lookup y ≠ _; rw [k]; decide)] at q
   exact q
 ·exact e0.hok.fresh (Nat.le_of_lt (x.above y c (PySem.mem_of_lookup h)))
 ·unfold start
  show _ = N.length
  rw [List.length_append,List.length_map,List.length_replicate]
  omega
theorem fn_of {CX:CXT} {P:Program} {w:World} {K:PySem.W.Frag} {mg:Str->Option Value} {base:Heap} {k:Nat} {f:Addr} {name qual:Str} {params:Arguments} {body:List Stmt} {scope:Scope} {dV kV doc pm cdv ct oc:Value} {an od:Option Addr}
  {osl:Array (Option Value)} {N ps:List Str} {sp:Sp} (lk:K.lookup f = some ⟨oc,od,.func (PySem.W.fnOf name qual params body scope dV kV doc pm an cdv ct),osl⟩) (hcd:PySem.W.codeIn K cdv qual = true) (S:FnScope N ps scope)
  (len:∀ vs H Q E,sp vs H Q E->vs.length = ps.length)
  (hbody:∀ (A:Around) (outer:List Env) (s:Shared) (H:Hp) (vs:List V) (Q:VK) (E:XK),Room k (A.deeper (envOfC qual scope s.heap.objs.size f cdv))->sp vs H Q E->
   ∃ t,PSs (cxOf CX P w K mg base N qual scope f cdv A outer s H E) body t/\t { nx:=fun _ H'=>Q .non H',rt:=Q } (start N vs) H) :
  FnOk P w K mg base CX (k + 1) f (PySem.W.fnOf name qual params body scope dV kV doc pm an cdv ct) ps sp:=by
 refine ⟨len,fun A outer s H args us vs Q E hr e0 hb r hsp=>?_⟩
 have hl:=len _ _ _ _ hsp
 have KX:K.In s.heap:=e0.mod.kin.keeps fun b o e=>(e0.bs b o e).1
 have lim:s.heap.NoLimit:=e0.mod.nolimit.keeps fun b o e=>(e0.bs b o e).1
 have hkind:∀ y ∈ ps.zip us,scope.names.lookup y.1 = some .local\/(scope.names.lookup y.1 = some .cell/\((cellsFrom (s.heap.objs.size + 1) scope.names []).lookup y.1).isSome = true):=fun ⟨n,v⟩ hy=>by
  rcases S.par n (List.of_mem_zip hy).1 with q | q
  ·exact .inl q
  ·exact .inr ⟨q,PySem.W.cellsFrom_some _ _ _ (.inl q)⟩
 refine codeAny_call_function hr.depth (KX _ _ lk) rfl S.co S.gen rfl (PySem.W.codeRec_of KX hcd) (hb _ _ _ _ ?_)
 refine wpAny_newFunctionEnv_cells S.kind hkind fun env he s1 x=>?_
 subst he
 refine ⟨lim.keeps x.toInCall.keep,codeAny_func ?_⟩
 obtain ⟨t,ht,hq⟩:=hbody A outer s H vs Q E (hr.deeper _) hsp
 have I:Inv (cxOf CX P w K mg base N qual scope f cdv A outer s H E) [] (start N vs) H s1:=inv_start S hr.hd e0 hl r x
 refine wpAny_mono (ht [] s1 (start N vs) H _ I hq) (fun fl s' hs=>?_) fun e s' hs=>hs
 have fin:∀ {σ':St} {H':Hp} {v:V} {u:Value},Inv (cxOf CX P w K mg base N qual scope f cdv A outer s H E) [] σ' H' s'->RelV v u->Q v H'->CE outer P w H s Q u s':=
  fun {σ' H' v u} J rv q=>⟨v,H',J.os,J.bare,J.base,J.hok,rv,q⟩
 cases fl with
 | ret u=>
  obtain ⟨v,σ',H',J,rv,q⟩:=hs
  exact fin J rv q
 | next=>
  obtain ⟨σ',H',J,q⟩:=hs
  exact fin (v:=V.non) (u:=Value.none) J rfl q
 | brk=>
  obtain ⟨_,_,_,q⟩:=hs
  exact False.elim q
 | cont=>
  obtain ⟨_,_,_,q⟩:=hs
  exact False.elim q
section
variable {X:Cx} {x:Str} {p pos:Pos} {e:Expr} {es:List Expr} {t:TA} {id T:String} {r:List V->Hp->VK->Prop}
def tCB (r:List V->Hp->VK->Prop) (t:TA):TE:=fun σ H Q=>t σ H fun vs H1=>r vs H1 Q
theorem pe_callB (hc:CallR X (.builtin id) r) (hg:Gl X x) (hm:X.mg x = none) (hv:bootBuiltins x = some (.builtin id)) (ha:PA X (e :: es) t) (hn:x ≠ "__name__":=by decide) (hdb:(x == ("__debug__" : Str)) = false:=by decide)
  (he:starEach (e :: es) X.env = (false,eval e X.env) :: starEach es X.env:=by rfl) (hpl:(backTo pos (starEach es X.env)).any (·.1) = false:=by rfl):PE X (.Call (.Name x p) (e :: es) [] pos) (tCB r t):=by
 refine ⟨?_⟩
 intro pins s σ H Q I h
 refine wpAny_Call_Name_kw (ld_blt I hg hm hv ?_ hn hdb)
 exact PyProof.Rows.callWith_builtin1 (thn (ha pos pins s σ H _ I h) fun us s1 ⟨vs,H1,I1,r1,q1⟩=>hc pins s1 σ H1 vs us Q I1 r1 q1) he hpl
theorem pe_callTy (hc:CallR X (.type T) r) (hg:Gl X x) (hm:X.mg x = none) (hv:bootBuiltins x = some (.type T)) (ha:PA X (e :: es) t) (hn:x ≠ "__name__":=by decide) (hdb:(x == ("__debug__" : Str)) = false:=by decide)
  (he:starEach (e :: es) X.env = (false,eval e X.env) :: starEach es X.env:=by rfl) (hpl:(backTo pos (starEach es X.env)).any (·.1) = false:=by rfl):PE X (.Call (.Name x p) (e :: es) [] pos) (tCB r t):=by
 refine ⟨?_⟩
 intro pins s σ H Q I h
 refine wpAny_Call_Name_kw (ld_blt I hg hm hv ?_ hn hdb)
 exact PyProof.Rows.callWith_type1 (thn (ha pos pins s σ H _ I h) fun us s1 ⟨vs,H1,I1,r1,q1⟩=>hc pins s1 σ H1 vs us Q I1 r1 q1) he hpl
end
end L2
namespace HT
open PySem PyProof.Rows
section
open PySem.SeqAt
open PySem.AutoSeq1 (wpAny_loadPart')
open PySem.MeetsSeq PySem.MeetsSeq2 PySem.MeetsSeq3
end
section
variable {prog:Program} {w:World} {A:Around} {E:Value->Shared->Prop} {s:Shared}
theorem cat_tup {t b:Addr} {vs ws:List Value} {Q:Value->Shared->Prop} (ht:IsTup s.heap t vs.toArray) (hb:IsTup s.heap b ws.toArray) (hv:vs ≠ [])
  (h1:ws = []->Q (.ref t) s) (h2:ws ≠ []->Q (.ref s.heap.objs.size) { s with heap:=s.heap.push { cls:=.type "tuple",data:=.seq (vs ++ ws).toArray } })
  (hsz:vs.length + ws.length<=sizeLine):wpAny (model prog w) A (binaryOp .Add (.ref t) (.ref b)) Q E s:=by
 obtain ⟨⟨cls,dd,data,sl⟩,ho,hc,n,hd⟩:=id ht
 obtain ⟨⟨cls2,dd2,data2,sl2⟩,ho2,hc2,n2,hd2⟩:=id hb
 simp only at hc hd hc2 hd2
 subst hc hd hc2 hd2
 have e:vs.toArray ++ ws.toArray = (vs ++ ws).toArray:=by simp
 by_cases hw:ws = []
 ·exact concat_meets ⟨_,ho,rfl⟩ ⟨_,ho2,rfl⟩ noFill_tuple_add seq_tuple_add PySem.F.slot_tuple_add PySem.F.entry_tuple_add (PySem.F.args_tuple_add_2 _ _)
   (tuple_addW1 t b vs.toArray ws.toArray n n2 dd dd2 sl sl2 (by simpa using hv) (by simp [hw])) ⟨ho,ho2,h1 hw⟩
 ·refine concat_meets ⟨_,ho,rfl⟩ ⟨_,ho2,rfl⟩ noFill_tuple_add seq_tuple_add PySem.F.slot_tuple_add PySem.F.entry_tuple_add (PySem.F.args_tuple_add_2 _ _)
   (tuple_addW2 t b vs.toArray ws.toArray n n2 dd dd2 sl sl2 (by simpa using hv) (by simpa using hw) (by rw [List.size_toArray,List.size_toArray]; exact hsz)) ⟨ho,ho2,?_⟩
  rw [e]
  exact h2 hw
def sIx (n d:Nat):Option Int->Nat
 | none=>d
 | some v=>if v < 0 then (v + (n:Int)).toNat else min v.toNat n
theorem sIx_none (n d:Nat):sIx n d none = d:=rfl
theorem sIx_nat (n d k:Nat):sIx n d (some (k:Int)) = min k n:=by
 show (if (k:Int) < 0 then ((k:Int) + (n:Int)).toNat else min (k:Int).toNat n) = min k n
 rw [if_neg (by omega),Int.toNat_natCast]
end
end HT
namespace L2
open PySem PySem.Spec PyProof.Rows
abbrev TO:=St->Hp->(Option Int->Hp->Prop)->Prop
structure PO (X:Cx) (e:Option Expr) (t:TO):Prop where
 run:∀ (pins:List (Addr × Obj)) (s:Shared) (σ : St) (H:Hp) (Q:Option Int->Hp->Prop),Inv X pins σ H s->t σ H Q->
  wpAny (model X.prog X.w) X.A (evalPart e X.env) (fun u s'=>∃ o H',Inv X pins σ H' s'/\IsPart u o/\Q o H') X.xe s
instance {X:Cx} {e:Option Expr} {t:TO}:CoeFun (PO X e t) (fun _=>∀ (pins:List (Addr × Obj)) (s:Shared) (σ : St) (H:Hp) (Q:Option Int->Hp->Prop),Inv X pins σ H s->t σ H Q->
  wpAny (model X.prog X.w) X.A (evalPart e X.env) (fun u s'=>∃ o H',Inv X pins σ H' s'/\IsPart u o/\Q o H') X.xe s):=⟨PO.run⟩
def tNoPart:TO:=fun _ H Q=>Q none H
def tPart (t:TE):TO:=fun σ H Q=>t σ H fun x H1=>∃ i,x = .int i/\Q (some i) H1
section
variable {X:Cx} {e:Expr} {te:TE} {lo hi:Option Expr} {tl th:TO} {pos p2:Pos}
theorem po_none:PO X none tNoPart:=by
 refine ⟨?_⟩
 intro pins s σ H Q I h
 rw [evalPart_none]
 exact wpAny_pure ⟨none,H,I,.none,h⟩
theorem po_some (h:PE X e te):PO X (some e) (tPart te):=by
 refine ⟨?_⟩
 intro pins s σ H Q I hw
 rw [evalPart_some]
 refine thn (h pins s σ H _ I hw) fun u s1 ⟨x,H1,I1,r1,q1⟩=>?_
 obtain ⟨i,rfl,q⟩:=q1
 obtain ⟨t,rfl⟩:=r1
 exact ⟨some i,H1,I1,.int i t,q⟩
def SlR (X:Cx) (r:V->Option Int->Option Int->Hp->VK->Prop):Prop:=
 ∀ (pins:List (Addr × Obj)) (s:Shared) (σ : St) (H:Hp) (x:V) (v vl vu:Value) (lo hi:Option Int) (sl:Addr) (Q:VK),Inv X pins σ H s->RelV x v->s.heap.IsSliceOf sl vl vu .none->IsPart vl lo->IsPart vu hi->r x lo hi H Q->
  ∃ T id,typeLookup (.type T) "__getitem__" = pure (some (.builtin id))/\s.TypeIs v T/\wpAny (model X.prog X.w) X.A (getItem v (.ref sl)) (EP X pins σ Q) X.xe s
def tSl (r:V->Option Int->Option Int->Hp->VK->Prop) (te:TE) (tl th:TO):TE:=fun σ H Q=>te σ H fun x H1=>tl σ H1 fun l H2=>th σ H2 fun u H3=>r x l u H3 Q
theorem pe_slice {r:V->Option Int->Option Int->Hp->VK->Prop} (hr:SlR X r) (he:PE X e te) (hl:PO X lo tl) (hu:PO X hi th):PE X (.Subscript e (.Slice lo hi none p2) pos) (tSl r te tl th):=by
 refine ⟨?_⟩
 intro pins s σ H Q I h
 refine Subscript_ (thn (he pins s σ H _ I h) fun v s1 ⟨x,H1,I1,r1,q1⟩=>?_)
 refine wpAny_Slice (thn (hl pins s1 σ H1 _ I1 q1) fun vl s2 ⟨l,H2,I2,pl,q2⟩=>thn (hu pins s2 σ H2 _ I2 q2) fun vu s3 ⟨u,H3,I3,pu,q3⟩=>?_)
 rw [evalPart_none]
 refine wpAny_pure ?_
 have I4:Inv X pins σ H3 { s3 with heap:=s3.heap.push { cls:=.type "slice",data:=.fields #[vl,vu,.none] } }:=I3.kept (t':=s3.toks) fun b ob q=>Heap.get?_push_of_some _ q
 obtain ⟨T,id,hT,ht,hg⟩:=hr pins { s3 with heap:=s3.heap.push { cls:=.type "slice",data:=.fields #[vl,vu,.none] } } σ H3 x v vl vu l u s3.heap.objs.size Q I4 r1 (Heap.IsSliceOf.new ..) pl pu q3
 show wpAny (model X.prog X.w) X.A (subscriptTail e (.Slice lo hi none p2) v (.ref s3.heap.objs.size)) (EP X pins σ Q) X.xe { s3 with heap:=s3.heap.push { cls:=.type "slice",data:=.fields #[vl,vu,.none] } }
 exact tail_any (ops:=[.ref s3.heap.objs.size,v]) ht hT hg (by with_unfolding_all rfl)
def cutV (xs:List V) (lo hi:Option Int):List V:=(xs.drop (HT.sIx xs.length 0 lo)).take (HT.sIx xs.length xs.length hi - HT.sIx xs.length 0 lo)
theorem cutV_length (xs:List V) (lo hi:Option Int):(cutV xs lo hi).length<=xs.length:=by
 unfold cutV
 rw [List.length_take,List.length_drop]
 omega
def rCatT (K:PySem.W.Frag):R2:=fun x y H Q=>∃ a b xs ys,x = .ref a/\y = .ref b/\SqT K H a xs/\SqT K H b ys/\xs ≠ []/\xs.length + ys.length<=sizeLine/\
 (ys = []->Q (.ref a) H)/\(ys ≠ []->∀ p,H p = none->Q (.ref p) (upd H p (.tup (xs ++ ys))))
theorem Vals.nil_iff {xs:List V} {us:List Value} (r:Vals xs us):us = [] ↔ xs = []:=by
 cases r with
 | nil=>simp
 | cons _ _=>simp
theorem op_catT:OpR X (binaryOp .Add) (rCatT X.K):=by
 intro pins s σ H x y v u Q I rx ry h
 obtain ⟨a,b,xs,ys,rfl,rfl,ha,hb,hx,hz,q1,q2⟩:=h
 cases rx
 cases ry
 obtain ⟨its,r1,p1,_⟩:=I.tuple ha
 obtain ⟨its2,r2,p2,_⟩:=I.tuple hb
 refine HT.cat_tup p1 p2 (fun z=>hx (r1.nil_iff.mp z)) (fun z=>⟨.ref a,H,I,rfl,q1 (r2.nil_iff.mp z)⟩) (fun z=>?_) (by rw [<- r1.length,<- r2.length]; exact hz)
 refine ⟨.ref s.heap.objs.size,_,I.laid (t':=s.toks) (o:=.tup (xs ++ ys)) (fun b ob q=>Heap.get?_push_of_some _ q) (Nat.le_refl _) ?_,rfl,q2 (fun w=>z (r2.nil_iff.mpr w)) _ (I.hok.fresh (Nat.le_refl _))⟩
 exact ⟨by rw [List.length_append]; exact hz,_,r1.append r2,IsTup.new _ _⟩
end
def ixN (n:Nat) (i:Int):Option Nat:=if 0<=i then (if i < n then some i.toNat else none) else if -(n:Int)<=i then some (i + n).toNat else none
def atI {α : Type} (xs:List α) (i:Int):Option α:=(ixN xs.length i).bind fun j=>xs[j]?
theorem ixN_seq {n:Nat} {i:Int} {j:Nat} (h:ixN n i = some j):seqIndex? i n = some j/\j < n/\-(n:Int)<=i/\i < n:=by
 unfold ixN at h
 by_cases h0 : 0<=i
 ·rw [if_pos h0] at h
  by_cases h1:i < n
  ·rw [if_pos h1] at h
   have e:i.toNat = j:=Option.some.inj h
   exact ⟨by rw [seqIndex_of h0 h1,e],by omega,by omega,h1⟩
  ·rw [if_neg h1] at h; cases h
 ·rw [if_neg h0] at h
  by_cases h1 : -(n:Int)<=i
  ·rw [if_pos h1] at h
   have e:(i + n).toNat = j:=Option.some.inj h
   exact ⟨by rw [seqIndex_neg (by omega) h1,e],by omega,h1,by omega⟩
  ·rw [if_neg h1] at h; cases h
theorem atI_get {α : Type} {xs:List α} {i:Int} {v : α} (h:atI xs i = some v):∃ j,seqIndex? i xs.length = some j/\xs[j]? = some v/\j < xs.length/\-(xs.length:Int)<=i/\i < xs.length:=by
 unfold atI at h
 cases e:ixN xs.length i with
 | none=>rw [e] at h; cases h
 | some j=>
  rw [e] at h
  obtain ⟨h1,h2,h3,h4⟩:=ixN_seq e
  exact ⟨j,h1,h,h2,h3,h4⟩
theorem atI_nat {α : Type} {xs:List α} {j:Nat} {v : α} (h:xs[j]? = some v):atI xs (j:Int) = some v:=by
 have hj:j < xs.length:=(List.getElem?_eq_some_iff.mp h).1
 have e:ixN xs.length (j:Int) = some j:=by
  unfold ixN
  rw [if_pos (by omega),if_pos (by omega)]; simp
 unfold atI; rw [e]; exact h
def PlainIx (b:Expr):Prop:=∀ o i,subscripted b false o i = operate [o,i] (getItem o i)
def IxR (X:Cx) (r:R2):Prop:=
 ∀ (value slice:Expr) (pins:List (Addr × Obj)) (s:Shared) (σ : St) (H:Hp) (x y:V) (v u:Value) (Q:VK),Inv X pins σ H s->RelV x v->RelV y u->r x y H Q->
  subscripted slice false v u = operate [v,u] (getItem v u)->wpAny (model X.prog X.w) X.A (subscriptTail value slice v u) (EP X pins σ Q) X.xe s
def MtR (X:Cx) (id:String) (r:V->List V->Hp->VK->Prop):Prop:=
 ∀ (pins:List (Addr × Obj)) (s:Shared) (σ : St) (H:Hp) (x:V) (xs:List V) (v:Value) (us:List Value) (Q:VK),Inv X pins σ H s->RelV x v->Vals xs us->r x xs H Q->
  wpAny (model X.prog X.w) X.A (call (.builtin id) (v :: us)) (EP X pins σ Q) X.xe s
section
variable {X:Cx} {a b:Expr} {ta tb:TE} {pos:Pos}
theorem pe_ix {r:R2} (hr:IxR X r) (ha:PE X a ta) (hb:PE X b tb) (hs:PlainIx b):PE X (.Subscript a b pos) (tOp r ta tb):=by
 refine ⟨?_⟩
 intro pins s σ H Q I h
 exact Subscript_ (binT ha hb I h fun v u s2 x y H2 I2 rx ry q=>hr a b pins s2 σ H2 x y v u Q I2 rx ry q (hs _ _))
inductive IIxL (K:PySem.W.Frag) (x y:V) (H:Hp) (Q:VK):Prop where
 | mk (p:Addr) (xs:List V) (i:Int) (v:V) (e1:x = .ref p) (e2:y = .int i) (h:SqL K H p xs) (a:atI xs i = some v) (q:Q v H)
def rIxL (K:PySem.W.Frag):R2:=fun x y H Q=>IIxL K x y H Q
inductive IIxT (K:PySem.W.Frag) (x y:V) (H:Hp) (Q:VK):Prop where
 | mk (p:Addr) (xs:List V) (i:Int) (v:V) (e1:x = .ref p) (e2:y = .int i) (h:SqT K H p xs) (a:atI xs i = some v) (q:Q v H)
def rIxT (K:PySem.W.Frag):R2:=fun x y H Q=>IIxT K x y H Q
def rIxS:R2:=fun x y H Q=>∃ z i c,x = .str z/\y = .int i/\z.length<=sizeLine/\atI z.cps.toList i = some c/\Q (.str ⟨#[c]⟩) H
theorem ix_list:IxR X (rIxL X.K):=by
 intro value slice pins s σ H x y v u Q I rx ry h hs
 obtain ⟨p,xs,i,z,rfl,rfl,hq,he,q⟩:=h
 cases rx
 obtain ⟨t,rfl⟩:=ry
 obtain ⟨its,r,pl,hz⟩:=I.list hq
 obtain ⟨j,h1,h2,h3,h4,h5⟩:=atI_get he
 obtain ⟨w,ew,rw'⟩:=r.get h2
 have hl:=r.length
 have hn:=line63
 have fin:EP X pins σ Q w s:=⟨z,H,I,rw',q⟩
 by_cases h0 : 0<=i
 ·have hj:i.toNat = j:=by
   rw [seqIndex_of h0 h5] at h1
   exact Option.some.inj h1
  exact item_listR pl.isList h0 (by omega) (by rw [hj]; simpa using ew) fin hs
 ·have hj:(i + (its.toArray.size:Int)).toNat = j:=by
   rw [seqIndex_neg (by omega) h4] at h1
   rw [List.size_toArray,<- hl]
   exact Option.some.inj h1
  exact subscriptTail_builtinR (x:=w) pl.isList.typeIs slot_list_getitem.lookup
   (wpAny_getItem_list_neg (Q:=fun r s'=>r = w/\EP X pins σ Q r s') pl.isList (by omega) (by rw [List.size_toArray] <;> omega) (by omega) (by rw [hj]; simpa using ew) ⟨rfl,fin⟩) hs
theorem ix_tup:IxR X (rIxT X.K):=by
 intro value slice pins s σ H x y v u Q I rx ry h hs
 obtain ⟨p,xs,i,z,rfl,rfl,hq,he,q⟩:=h
 cases rx
 obtain ⟨t,rfl⟩:=ry
 obtain ⟨its,r,pl,hz⟩:=I.tuple hq
 obtain ⟨j,h1,h2,h3,h4,h5⟩:=atI_get he
 obtain ⟨w,ew,rw'⟩:=r.get h2
 have hl:=r.length
 have hn:=line63
 have fin:EP X pins σ Q w s:=⟨z,H,I,rw',q⟩
 exact subscriptTail_builtinR (x:=w) pl.typeIs slot_tuple_getitem.lookup
  (getItem_tuple (j:=j) (Q:=fun r s'=>r = w/\EP X pins σ Q r s') pl (by omega) (by omega) (by rw [List.size_toArray,<- hl]; exact h1) (by simpa using ew) ⟨rfl,fin⟩) hs
theorem ix_str:IxR X rIxS:=by
 intro value slice pins s σ H x y v u Q I rx ry h hs
 obtain ⟨z,i,c,rfl,rfl,hz,he,q⟩:=h
 obtain ⟨t,rfl⟩:=rx
 obtain ⟨t',rfl⟩:=ry
 obtain ⟨j,h1,h2,h3,h4,h5⟩:=atI_get he
 have hl:z.cps.toList.length = z.length:=by simp [Str.length]
 rw [hl] at h1 h4 h5
 have hn:=line63
 exact tail_any (typeIs_str s z t) slot_str_getitem.lookup (getItem_str (c:=c) (by
  have e1:decide (i < -(2 ^ 63:Int)) = false:=decide_eq_false (by omega)
  have e2:decide (i>=2 ^ 63) = false:=decide_eq_false (by omega)
  rw [e1,e2,Bool.or_false]) (by rw [h1]; simpa using h2) ⟨.str ⟨#[c]⟩,H,I.tok _,⟨_,rfl⟩,q⟩) hs
theorem mapSeq_set (its:List Value) (n j:Nat) (u:Value):Obj.mapSeq (·.setIfInBounds j u) { cls:=.type "list",data:=.seq its.toArray n } = { cls:=.type "list",data:=.seq (its.set j u).toArray n }:=by
 simp [Obj.mapSeq]
theorem Inv.lst {pins:List (Addr × Obj)} {σ : St} {H:Hp} {s:Shared} {p:Addr} {xs:List V} (I:Inv X pins σ H s) (h:H p = some (.lst xs)) :
  ∃ (its:List Value) (n:Nat),Vals xs its/\s.heap.get? p = some { cls:=.type "list",data:=.seq its.toArray n }/\xs.length<=sizeLine:=by
 obtain ⟨z,its,n,r,e⟩:=I.hok p _ h
 exact ⟨its,n,r,e,z⟩
theorem Inv.lstUpd {pins:List (Addr × Obj)} {σ : St} {H:Hp} {s:Shared} {p:Addr} {xs ys:List V} {its its':List Value} {n n':Nat} {f:Obj->Obj} (I:Inv X pins σ H s) (h:H p = some (.lst xs))
  (ho:s.heap.get? p = some { cls:=.type "list",data:=.seq its.toArray n }) (hf:f { cls:=.type "list",data:=.seq its.toArray n } = { cls:=.type "list",data:=.seq its'.toArray n' }) (r:Vals ys its') (hz:ys.length<=sizeLine) (t:Nat) :
  Inv X pins σ (upd H p (.lst ys)) { s with heap:=s.heap.update p f,toks:=t }:=by
 have e:(s.heap.update p f).get? p = some { cls:=.type "list",data:=.seq its'.toArray n' }:=by
  rw [Heap.get?_update_self f ho (by rw [hf] <;> rfl),hf]
 refine I.write (x:=p) (e:=p) (by rw [h]; trivial) (.inl rfl) (fun b u hb q=>(Heap.get?_update_other _ _ (Ne.symm hb)).trans q) ⟨_,e⟩ ?_
 exact ⟨hz,its',n',r,e⟩
def rSetL:V->V->V->Hp->(Hp->Prop)->Prop:=fun o i v H Q=>∃ p xs k j,o = .ref p/\i = .int k/\H p = some (.lst xs)/\ixN xs.length k = some j/\Q (upd H p (.lst (xs.set j v)))
theorem set_list:PSet X rSetL:=by
 intro pins s σ H o i v ov iv u Q I ro ri rv h
 obtain ⟨p,xs,k,j,rfl,rfl,hp,hj,q⟩:=h
 cases ro
 obtain ⟨t,rfl⟩:=ri
 obtain ⟨its,n,r,ho,hz⟩:=I.lst hp
 obtain ⟨h1,h2,h3,h4⟩:=ixN_seq hj
 have hl:=r.length
 have hn:=line63
 have I':Inv X pins σ (upd H p (.lst (xs.set j v))) { s with heap:=s.heap.update p (Obj.mapSeq (·.setIfInBounds j u)) }:=
  I.lstUpd hp ho (mapSeq_set its n j u) (r.set rv j) (by rw [List.length_set]; exact hz) s.toks
 by_cases h0 : 0<=k
 ·have hk:k.toNat = j:=by
   rw [seqIndex_of h0 h4] at h1
   exact Option.some.inj h1
  exact PySem.W.ki_setAt ho h0 (by omega) (by rw [List.size_toArray,<- hl]; exact h4) (by rw [hk]; exact ⟨_,I',q⟩)
 ·have hk:(k + (its.toArray.size:Int)).toNat = j:=by
   rw [seqIndex_neg (by omega) h3] at h1
   rw [List.size_toArray,<- hl]
   exact Option.some.inj h1
  exact PySem.W.ki_setBack ho (by omega) (by rw [List.size_toArray,<- hl]; exact h3) (by omega) (by rw [hk]; exact ⟨_,I',q⟩)
theorem slice_bounds (lo hi:Option Int) (n:Nat):(sliceBounds lo hi none n).1 = ((HT.sIx n 0 lo:Nat):Int)/\(sliceBounds lo hi none n).2.1 = ((HT.sIx n n hi:Nat):Int)/\(sliceBounds lo hi none n).2.2 = 1:=by
 refine ⟨?_,?_,rfl⟩
 ·cases lo with
  | none=>simp [sliceBounds,HT.sIx]
  | some i=>
   simp only [sliceBounds,HT.sIx,Option.getD_none,show (1:Int) > 0 by decide,if_true]
   by_cases h:i < 0
   ·simp only [h,if_true] <;> omega
   ·simp only [h,if_false] <;> omega
 ·cases hi with
  | none=>simp [sliceBounds,HT.sIx]
  | some i=>
   simp only [sliceBounds,HT.sIx,Option.getD_none,show (1:Int) > 0 by decide,if_true]
   by_cases h:i < 0
   ·simp only [h,if_true] <;> omega
   ·simp only [h,if_false] <;> omega
theorem slicePick_cut (its:List Value) (lo hi:Option Int):slicePick its.toArray lo hi none = ((its.drop (HT.sIx its.length 0 lo)).take (HT.sIx its.length its.length hi - HT.sIx its.length 0 lo)).toArray:=by
 obtain ⟨h1,h2,h3⟩:=slice_bounds lo hi its.toArray.size
 unfold slicePick
 rw [h1,h2,h3]
 simp only [sliceRange_one,pick_run,List.size_toArray] <;> rfl
def rSlL (K:PySem.W.Frag):V->Option Int->Option Int->Hp->VK->Prop:=fun x lo hi H Q=>∃ a xs,x = .ref a/\SqL K H a xs/\∀ p,H p = none->Q (.ref p) (upd H p (.lst (cutV xs lo hi)))
theorem sl_list:SlR X (rSlL X.K):=by
 intro pins s σ H x v vl vu lo hi sl Q I rx hs pl pu h
 obtain ⟨a,xs,rfl,hx,q⟩:=h
 cases rx
 obtain ⟨its,r,ht,hz⟩:=I.list hx
 have hlen:=r.length
 refine ⟨"list",_,slot_list_getitem.lookup,ht.isList.typeIs,?_⟩
 refine wpAny_getItem_list_slice ht.isList hs pl pu .none (by simp) ?_ (by rw [List.size_toArray] <;> omega)
 rw [slicePick_cut,<- hlen]
 refine ⟨.ref s.heap.objs.size,_,I.laid (t':=s.toks) (o:=.lst (cutV xs lo hi)) (fun b ob q=>Heap.get?_push_of_some _ q) (Nat.le_refl _) ?_,rfl,q _ (I.hok.fresh (Nat.le_refl _))⟩
 exact ⟨Nat.le_trans (cutV_length xs lo hi) hz,_,0,(r.drop (HT.sIx xs.length 0 lo)).take (HT.sIx xs.length xs.length hi - HT.sIx xs.length 0 lo),Heap.get?_push_size _ rfl⟩
def flatV:V->Bool
 | .non=>true
 | .bl _=>true
 | .int _=>true
 | .str _=>true
 | _=>false
def eqV:V->V->Bool
 | .non,.non=>true
 | .bl a,.bl b=>a == b
 | .bl a,.int b=>(if a then 1 else 0) == b
 | .int a,.bl b=>a == (if b then 1 else 0)
 | .int a,.int b=>a == b
 | .str a,.str b=>a == b
 | _,_=>false
theorem eqAt_V {A:Around} {s:Shared} {y x:V} {u v:Value} (ry:RelV y u) (rx:RelV x v) (fy:flatV y = true) (fx:flatV x = true):SeqAt.EqAt A s u v (eqV y x):=by
 cases y with
 | non=>
  cases ry
  cases x with
  | non=>cases rx; exact SeqAt.EqAt.same _
  | bl b=>cases rx; exact SeqAt.EqAt.none_bool b
  | int b=>obtain ⟨t,rfl⟩:=rx; exact SeqAt.EqAt.none_int b t
  | str b=>obtain ⟨t,rfl⟩:=rx; exact SeqAt.EqAt.none_str b t
  | _=>exact absurd (show false = true from fx) Bool.false_ne_true
 | bl a=>
  cases ry
  cases x with
  | non=>cases rx; exact SeqAt.EqAt.bool_none a
  | bl b=>cases rx; exact SeqAt.EqAt.bool_bool a b
  | int b=>obtain ⟨t,rfl⟩:=rx; exact SeqAt.EqAt.bool_int a b t
  | str b=>obtain ⟨t,rfl⟩:=rx; exact SeqAt.EqAt.bool_str a b t
  | _=>exact absurd (show false = true from fx) Bool.false_ne_true
 | int a=>
  obtain ⟨t',rfl⟩:=ry
  cases x with
  | non=>cases rx; exact SeqAt.EqAt.int_none a t'
  | bl b=>cases rx; exact SeqAt.EqAt.int_bool a t' b
  | int b=>obtain ⟨t,rfl⟩:=rx; exact SeqAt.EqAt.int_int a t' b t
  | str b=>obtain ⟨t,rfl⟩:=rx; exact SeqAt.EqAt.int_str a t' b t
  | _=>exact absurd (show false = true from fx) Bool.false_ne_true
 | str a=>
  obtain ⟨t',rfl⟩:=ry
  cases x with
  | non=>cases rx; exact SeqAt.EqAt.str_none a t'
  | bl b=>cases rx; exact SeqAt.EqAt.str_bool a t' b
  | int b=>obtain ⟨t,rfl⟩:=rx; exact SeqAt.EqAt.str_int a t' b t
  | str b=>obtain ⟨t,rfl⟩:=rx; exact SeqAt.EqAt.str_str a t' b t
  | _=>exact absurd (show false = true from fx) Bool.false_ne_true
 | _=>exact absurd (show false = true from fy) Bool.false_ne_true
def eqU (x:V) (u:Value):Bool:=match u with
 | .none=>eqV .non x
 | .bool b=>eqV (.bl b) x
 | .int i _=>eqV (.int i) x
 | .str z _=>eqV (.str z) x
 | _=>false
theorem eqU_of {x y:V} {u:Value} (r:RelV y u) (f:flatV y = true):eqU x u = eqV y x:=by
 cases y with
 | non=>cases r; rfl
 | bl b=>cases r; rfl
 | int i=>obtain ⟨t,rfl⟩:=r; rfl
 | str z=>obtain ⟨t,rfl⟩:=r; rfl
 | _=>exact absurd (show false = true from f) Bool.false_ne_true
theorem any_eqU {x:V}:∀ {xs:List V} {us:List Value},Vals xs us->xs.all flatV = true->us.any (eqU x) = xs.any fun y=>eqV y x
 | _,_,.nil,_=>rfl
 | y :: xs,u :: us,.cons r t,f=>by
  rw [List.all_cons,Bool.and_eq_true] at f
  rw [List.any_cons,List.any_cons,eqU_of r f.1,any_eqU t f.2]
theorem mem_eqAt {A:Around} {s:Shared} {x:V} {v:Value} (rx:RelV x v) (fx:flatV x = true):∀ {xs:List V} {us:List Value},Vals xs us->xs.all flatV = true->∀ u ∈ us,SeqAt.EqAt A s u v (eqU x u)
 | _,_,.nil,_=>fun u hu=>by cases hu
 | y :: xs,u :: us,.cons r t,f=>fun u' hu=>by
  rw [List.all_cons,Bool.and_eq_true] at f
  rcases List.mem_cons.mp hu with rfl | hu
  ·rw [eqU_of r f.1]; exact eqAt_V r rx f.1 fx
  ·exact mem_eqAt rx fx t f.2 u' hu
def inV (x:V) (xs:List V):Bool:=xs.any fun y=>eqV y x
def rIn (K:PySem.W.Frag) (neg:Bool):R2:=fun x y H Q=>∃ p xs,y = .ref p/\(SqL K H p xs\/SqT K H p xs)/\flatV x = true/\xs.all flatV = true/\Q (.bl (if neg then !inV x xs else inV x xs)) H
theorem op_in_seq:OpR X (compareOp .In) (rIn X.K false):=by
 intro pins s σ H x y v u Q I rx ry h
 obtain ⟨p,xs,rfl,hq,fx,fs,q⟩:=h
 cases ry
 rcases hq with hq | hq
 ·obtain ⟨its,r,pl,hz⟩:=I.list hq
  refine SeqAt.in_listAt (eqU x) pl.isList (fun w hw=>mem_eqAt rx fx r fs w (by simpa using hw)) ⟨.bl _,H,I,rfl,?_⟩
  rw [show its.toArray.any (eqU x) = its.any (eqU x) by simp,any_eqU r fs]
  exact q
 ·obtain ⟨its,r,pl,hz⟩:=I.tuple hq
  refine SeqAt.in_tupleAt (eqU x) pl (fun w hw=>mem_eqAt rx fx r fs w (by simpa using hw)) ⟨.bl _,H,I,rfl,?_⟩
  rw [show its.toArray.any (eqU x) = its.any (eqU x) by simp,any_eqU r fs]
  exact q
theorem op_notIn_seq:OpR X (compareOp .NotIn) (rIn X.K true):=by
 intro pins s σ H x y v u Q I rx ry h
 obtain ⟨p,xs,rfl,hq,fx,fs,q⟩:=h
 cases ry
 rcases hq with hq | hq
 ·obtain ⟨its,r,pl,hz⟩:=I.list hq
  refine SeqAt.notIn_listAt (eqU x) pl.isList (fun w hw=>mem_eqAt rx fx r fs w (by simpa using hw)) ⟨.bl _,H,I,rfl,?_⟩
  rw [show its.toArray.any (eqU x) = its.any (eqU x) by simp,any_eqU r fs]
  exact q
 ·obtain ⟨its,r,pl,hz⟩:=I.tuple hq
  refine SeqAt.notIn_tupleAt (eqU x) pl (fun w hw=>mem_eqAt rx fx r fs w (by simpa using hw)) ⟨.bl _,H,I,rfl,?_⟩
  rw [show its.toArray.any (eqU x) = its.any (eqU x) by simp,any_eqU r fs]
  exact q
theorem call_len_seq:CallR X (.builtin "len") (fun xs H Q=>∃ p ys,xs = [.ref p]/\(SqL X.K H p ys\/SqT X.K H p ys)/\Q (.int ys.length) H):=by
 intro pins s σ H xs us Q I r h
 obtain ⟨p,ys,rfl,hq,q⟩:=h
 obtain ⟨u,rfl,rx⟩:=vals1 r
 cases rx
 have hn:=line63
 rcases hq with hq | hq
 ·obtain ⟨its,r',pl,hz⟩:=I.list hq
  have hlen:=r'.length
  exact Calls.call_len_list pl.isList (by simp only [List.size_toArray] <;> omega) ⟨.int ys.length,H,I.tok _,⟨s.toks + 1,by rw [List.size_toArray,hlen]⟩,q⟩
 ·obtain ⟨its,r',pl,hz⟩:=I.tuple hq
  have hlen:=r'.length
  exact len_tuple pl (by simp only [List.size_toArray] <;> omega) ⟨.int ys.length,H,I.tok _,⟨s.toks + 1,by rw [List.size_toArray,hlen]⟩,q⟩
theorem call_list_of:CallR X (.type "list") (fun xs H Q=>∃ p ys,xs = [.ref p]/\(SqL X.K H p ys\/SqT X.K H p ys)/\∀ l,H l = none->Q (.ref l) (upd H l (.lst ys))):=by
 intro pins s σ H xs us Q I r h
 obtain ⟨p,ys,rfl,hq,q⟩:=h
 obtain ⟨u,rfl,rx⟩:=vals1 r
 cases rx
 have fin:∀ (its:List Value),Vals ys its->ys.length<=sizeLine->∀ (h':Heap) (c':Nat),(∀ b o',s.heap.get? b = some o'->h'.get? b = some o')->
   h'.get? s.heap.objs.size = some { cls:=.type "list",dict:=none,data:=.seq its.toArray c',slots:=#[] }->EP X pins σ Q (.ref s.heap.objs.size) { s with heap:=h' }:=fun its r' hz h' c' kp e=>
  ⟨.ref s.heap.objs.size,_,I.laid (t':=s.toks) kp (Nat.le_refl _) (show ObjOk X.prog X.w _ h' _ (.lst ys) from ⟨hz,its,c',r',e⟩),rfl,q _ (I.hok.fresh (Nat.le_refl _))⟩
 rcases hq with hq | hq
 ·obtain ⟨its,r',pl,hz⟩:=I.list hq
  have hlen:=r'.length
  obtain ⟨o,ho,hc,n,hd⟩:=pl.isList
  exact call_list_seq p (.inl rfl) ho hc hd (fun h' c' kp e=>fin its r' hz h' c' kp e) (by simp only [List.size_toArray] <;> omega)
 ·obtain ⟨its,r',pl,hz⟩:=I.tuple hq
  have hlen:=r'.length
  obtain ⟨o,ho,hc,n,hd⟩:=pl
  exact call_list_seq p (.inr rfl) ho hc hd (fun h' c' kp e=>fin its r' hz h' c' kp e) (by simp only [List.size_toArray] <;> omega)
def tyV (K:PySem.W.Frag) (T:String) (x:V) (H:Hp):Prop:=match x with
 | .str _=>T = "str"
 | .int _=>T = "int"
 | .ref p=>(T = "list"/\∃ xs,SqL K H p xs)\/(T = "tuple"/\∃ o,K.lookup p = some o/\o.cls = .type "tuple"/\o.dict = none)\/
   (T = "dict"/\((∃ kvs,H p = some (.dK kvs))\/∃ kvs,H p = some (.dT kvs)))\/(T = "set"/\∃ S n,H p = some (.set S n))
 | _=>False
theorem tyV_is {pins:List (Addr × Obj)} {σ : St} {H:Hp} {s:Shared} {T:String} {x:V} {v:Value} (I:Inv X pins σ H s) (r:RelV x v) (ty:tyV X.K T x H) :
  s.TypeIs v T/\∀ a,v = .ref a->∃ ob,s.heap.get? a = some ob/\ob.dict = none:=by
 cases x with
 | str z=>
  obtain ⟨t,rfl⟩:=r
  cases (show T = "str" from ty)
  exact ⟨typeIs_str s z t,fun _ e=>nomatch e⟩
 | int i=>
  obtain ⟨t,rfl⟩:=r
  cases (show T = "int" from ty)
  exact ⟨typeIs_int s i t,fun _ e=>nomatch e⟩
 | ref p=>
  cases r
  rcases ty with ⟨rfl,xs,hq⟩ | ⟨rfl,o,hk,hc,hd⟩ | ⟨rfl,hk⟩ | ⟨rfl,S,n,hk⟩
  ·obtain ⟨its,_,pl,_⟩:=I.list hq
   refine ⟨pl.isList.typeIs,fun a e=>?_⟩
   cases e
   obtain ⟨o,n,e,c,hd,_⟩:=pl
   exact ⟨o,e,hd⟩
  ·refine ⟨⟨o,I.kIn p o hk,hc⟩,fun a e=>?_⟩
   cases e
   exact ⟨o,I.kIn _ o hk,hd⟩
  ·have z:∃ o,s.heap.get? p = some o/\o.ExactDict:=by
    rcases hk with ⟨kvs,hk⟩ | ⟨kvs,hk⟩
    ·obtain ⟨_,_,_,_,o,_,_,e,ex,_⟩:=I.hok p _ hk
     exact ⟨o,e,ex⟩
    ·obtain ⟨_,_,_,_,o,_,_,e,ex,_⟩:=I.hok p _ hk
     exact ⟨o,e,ex⟩
   obtain ⟨o,e,ex⟩:=z
   refine ⟨⟨o,e,ex.1⟩,fun a e2=>?_⟩
   cases e2
   exact ⟨o,e,ex.2.1⟩
  ·obtain ⟨o,_,_,_,e,ex,_⟩:=I.hok p _ hk
   refine ⟨⟨o,e,ex.1⟩,fun a e2=>?_⟩
   cases e2
   exact ⟨o,e,ex.2.1⟩
 | _=>exact False.elim ty
def tBM0 (K:PySem.W.Frag) (T:String) (r:V->List V->Hp->VK->Prop) (to:TE):TE:=fun σ H Q=>to σ H fun x H1=>tyV K T x H1/\r x [] H1 Q
def tBM (K:PySem.W.Frag) (T:String) (r:V->List V->Hp->VK->Prop) (to:TE) (t:TA):TE:=fun σ H Q=>to σ H fun x H1=>tyV K T x H1/\t σ H1 fun xs H2=>r x xs H2 Q
variable {o e:Expr} {es:List Expr} {to:TE} {t:TA} {name:Str} {apos cpos:Pos} {T id:String} {r:V->List V->Hp->VK->Prop}
theorem pe_bm0 (pa:PlainAttrs T) (slot:Slot T name id) (hty:typeOf (.builtin id) = pure (.type "method_descriptor")) (hm:MtR X id r) (ho:PE X o to)
  (hbase:attributeBase o name X.env (eval o X.env) = eval o X.env:=by rfl) (hline:(apos.endLine == cpos.line) = true:=by rfl):PE X (.Call (.Attribute o name apos) [] [] cpos) (tBM0 X.K T r to):=by
 refine ⟨?_⟩
 intro pins s σ H Q I h
 refine wpAny_Call_method0_late hbase hline (thn (ho pins s σ H _ I h) fun v s1 ⟨x,H1,I1,r1,ty,q1⟩=>?_)
 obtain ⟨h1,h2⟩:=tyV_is I1 r1 ty
 exact ⟨T,id,pa,slot,hty,h1,h2,Calls.callWith_builtin rfl (PySem.evalArgs_none (hm pins s1 σ H1 x [] v [] Q I1 r1 .nil q1))⟩
theorem pe_bm (pa:PlainAttrs T) (slot:Slot T name id) (hty:typeOf (.builtin id) = pure (.type "method_descriptor")) (hm:MtR X id r) (ho:PE X o to) (ha:PA X (e :: es) t)
  (hbase:attributeBase o name X.env (eval o X.env) = eval o X.env:=by rfl)
  (hfew:((backTo cpos (starEach (e :: es) X.env)).all (fun x=>!x.1) && (backToKw cpos (keywordEach [] X.env)).all (fun x=>x.1.isSome)
   && decide ((e :: es).length + ([]:List Keyword).length + (if ([]:List Keyword).isEmpty then 0 else 1) < 30)) = true:=by rfl)
  (hline:(apos.endLine == cpos.line) = true:=by rfl) (hs:starEach (e :: es) X.env = (false,eval e X.env) :: starEach es X.env:=by rfl) (hplain:(backTo cpos (starEach es X.env)).any (·.1) = false:=by rfl) :
  PE X (.Call (.Attribute o name apos) (e :: es) [] cpos) (tBM X.K T r to t):=by
 refine ⟨?_⟩
 intro pins s σ H Q I h
 refine wpAny_Call_method_late hbase hfew hline rfl (thn (ho pins s σ H _ I h) fun v s1 ⟨x,H1,I1,r1,ty,q1⟩=>?_)
 obtain ⟨h1,h2⟩:=tyV_is I1 r1 ty
 refine ⟨T,id,pa,slot,hty,h1,h2,?_⟩
 have hA:=ha cpos pins s1 σ H1 _ I1 q1
 rw [hs] at hA |-
 refine Calls.callWith_builtin (by show (false || (backTo cpos (starEach es X.env)).any (·.1)) = false; rw [hplain] <;> rfl) (Calls.evalArgs_plain ?_)
 exact thn hA fun us s2 ⟨vs,H2,I2,r2,q2⟩=>hm pins s2 σ H2 x vs v us Q I2 r1 r2 q2
end
def MtM (X:Cx) (id:String) (r:V->List V->Hp->VK->Prop):Prop:=
 ∀ (pins:List (Addr × Obj)) (s:Shared) (σ : St) (H:Hp) (x:V) (xs:List V) (v:Value) (us:List Value) (Q:VK),Inv X pins σ H s->RelV x v->Vals xs us->r x xs H Q->
  wpAny (model X.prog X.w) X.A (call (.builtin id) (v :: us)) (EP X pins σ Q) X.xe s
theorem Vals.one:∀ {x:V} {us:List Value},Vals [x] us->∃ u,us = [u]/\RelV x u
 | _,_,.cons r .nil=>⟨_,rfl,r⟩
theorem Vals.zero:∀ {us:List Value},Vals [] us->us = []
 | _,.nil=>rfl
theorem Vals.eraseIdx:∀ {xs:List V} {us:List Value} (i:Nat),Vals xs us->Vals (xs.eraseIdx i) (us.eraseIdx i)
 | _,_,_,.nil=>.nil
 | _,_,0,.cons _ t=>t
 | _,_,i + 1,.cons r t=>.cons r (Vals.eraseIdx i t)
theorem Vals.rep {xs:List V} {us:List Value} (h:Vals xs us):∀ k:Nat,Vals (List.replicate k xs).flatten (List.replicate k us).flatten
 | 0=>.nil
 | k + 1=>by
  rw [List.replicate_succ,List.replicate_succ,List.flatten_cons,List.flatten_cons]
  exact Vals.append h (Vals.rep h k)
theorem len_erase {α : Type}:∀ (l:List α) (i:Nat),(l.eraseIdx i).length<=l.length
 | [],_=>Nat.le_refl _
 | _ :: _,0=>Nat.le_succ _
 | _ :: r,i + 1=>Nat.succ_le_succ (len_erase r i)
theorem foldl_rep (its:List Value):∀ (k:Nat) (acc:List Value),
  List.foldl (fun x1 x2=>x1 ++ x2) acc.toArray (List.replicate k its.toArray) = (acc ++ (List.replicate k its).flatten).toArray
 | 0,acc=>by simp
 | k + 1,acc=>by
  have e:acc.toArray ++ its.toArray = (acc ++ its).toArray:=by simp
  have e2:(acc ++ its) ++ (List.replicate k its).flatten = acc ++ (List.replicate (k + 1) its).flatten:=by
   rw [List.replicate_succ,List.flatten_cons,List.append_assoc]
  rw [<- e2,<- foldl_rep its k (acc ++ its),<- e,List.replicate_succ,List.foldl_cons]
section
variable {X:Cx} {pins:List (Addr × Obj)} {σ : St} {H:Hp} {s:Shared} {l b:Addr} {xs ys zs:List V}
theorem Inv.lset {its its':List Value} {n:Nat} {f:Array Value->Array Value} {t':Nat} (I:Inv X pins σ H s) (hH:H l = some (.lst xs))
  (e:s.heap.get? l = some { cls:=.type "list",data:=.seq its.toArray n }) (hf:f its.toArray = its'.toArray) (hv:Vals ys its') (hz:ys.length<=sizeLine) :
  Inv X pins σ (upd H l (.lst ys)) { s with heap:=s.heap.update l (Obj.mapSeq f),toks:=t' }:=by
 have q:=PySem.IsL.update e f
 rw [hf] at q
 refine I.write (x:=l) (e:=l) (by rw [hH]; exact trivial) (.inl rfl) (fun b' u hb hu=>(Heap.get?_update_other s.heap (Obj.mapSeq f) (Ne.symm hb)).trans hu) ⟨_,q⟩ ?_
 exact ⟨hz,its',_,hv,q⟩
theorem Inv.lnew {its:List Value} {t':Nat} (I:Inv X pins σ H s) (hv:Vals ys its) (hz:ys.length<=sizeLine) :
  Inv X pins σ (upd H s.heap.objs.size (.lst ys)) { s with heap:=s.heap.push { cls:=.type "list",data:=.seq its.toArray },toks:=t' }:=
 I.laid (fun _ _ q=>Heap.get?_push_of_some _ q) (Nat.le_refl _) ⟨hz,its,0,hv,Heap.get?_push_size _ rfl⟩
theorem Inv.fresh (I:Inv X pins σ H s):H s.heap.objs.size = none:=I.hok.fresh (Nat.le_refl _)
theorem Inv.lstM (I:Inv X pins σ H s) (hH:H l = some (.lst xs)):xs.length<=sizeLine/\∃ (its:List Value) (n:Nat),Vals xs its/\xs.length = its.length/\s.heap.get? l = some { cls:=.type "list",data:=.seq its.toArray n }:=by
 obtain ⟨z,its,n,r,e⟩:=I.hok l _ hH
 exact ⟨z,its,n,r,r.length,e⟩
theorem notLongL {n:Nat} (h:n<=sizeLine):Builtin.List.listTooLong n = false:=by
 unfold Builtin.List.listTooLong
 exact decide_eq_false (by omega)
end
section
variable {X:Cx}
def rAppend:V->List V->Hp->VK->Prop:=fun x vs H Q=>∃ l xs y,x = .ref l/\vs = [y]/\H l = some (.lst xs)/\xs.length < sizeLine/\Q .non (upd H l (.lst (xs ++ [y])))
theorem mt_append:MtM X "list.append" rAppend:=by
 intro pins s σ H x vs v us Q I rx rv h
 obtain ⟨l,xs,y,rfl,rfl,hH,hz,q⟩:=h
 cases rx
 obtain ⟨u,rfl,ru⟩:=rv.one
 obtain ⟨z,its,n,r,hl,e⟩:=I.lstM hH
 refine call_meets F.slot_list_append ⟨_,e,rfl⟩ F.entry_list_append (F.args_list_append_2 _ _) (PySem.list_append l its.toArray n u (by rw [List.size_toArray]; omega)) ⟨e,?_⟩
 refine ⟨.non,_,I.lset (its':=its ++ [u]) hH e (by simp) (r.append (.cons ru .nil)) ?_,rfl,q⟩
 rw [List.length_append,List.length_singleton]
 omega
def rExtend:V->List V->Hp->VK->Prop:=fun x vs H Q=>∃ l b xs zs,x = .ref l/\vs = [.ref b]/\H l = some (.lst xs)/\H b = some (.lst zs)/\xs.length + zs.length<=sizeLine/\Q .non (upd H l (.lst (xs ++ zs)))
theorem mt_extend:MtM X "list.extend" rExtend:=by
 intro pins s σ H x vs v us Q I rx rv h
 obtain ⟨l,b,xs,zs,rfl,rfl,hH,hB,hz,q⟩:=h
 cases rx
 obtain ⟨u,rfl,ru⟩:=rv.one
 cases ru
 obtain ⟨z,its,n,r,hl,e⟩:=I.lstM hH
 obtain ⟨z2,its2,n2,r2,hl2,e2⟩:=I.lstM hB
 have hsz:its.toArray.size + its2.toArray.size<=sizeLine:=by rw [List.size_toArray,List.size_toArray]; omega
 have hlong:¬ (!its.toArray.isEmpty && Builtin.List.listTooLong (its.toArray.size + its2.toArray.size)) = true:=by
  rw [notLongL hsz,Bool.and_false]
  exact Bool.false_ne_true
 refine call_meets F.slot_list_extend ⟨_,e,rfl⟩ F.entry_list_extend (F.args_list_extend_2 _ _)
  (AutoSeq1.list_extend_list_list_0 l its.toArray n b its2.toArray n2 hlong (by rw [List.size_toArray]; omega) (by omega)) ⟨e,e2,?_⟩
 refine ⟨.non,_,I.lset (its':=its ++ its2) hH e (by simp) (r.append r2) ?_,rfl,q⟩
 rw [List.length_append]
 omega
def rPopAt:V->List V->Hp->VK->Prop:=fun x vs H Q=>∃ l xs i k y,x = .ref l/\vs = [.int i]/\H l = some (.lst xs)/\-(2 ^ 63)<=i/\i < 2 ^ 63/\seqIndex? i xs.length = some k/\xs[k]? = some y/\Q y (upd H l (.lst (xs.eraseIdx k)))
theorem mt_popAt:MtM X "list.pop" rPopAt:=by
 intro pins s σ H x vs v us Q I rx rv h
 obtain ⟨l,xs,i,k,y,rfl,rfl,hH,h1,h2,hk,hy,q⟩:=h
 cases rx
 obtain ⟨u,rfl,ru⟩:=rv.one
 obtain ⟨t,rfl⟩:=ru
 obtain ⟨z,its,n,r,hl,e⟩:=I.lstM hH
 obtain ⟨w,hw,rw'⟩:=r.get hy
 refine call_meets F.slot_list_pop ⟨_,e,rfl⟩ F.entry_list_pop (F.args_list_pop_2 _ _)
  (MeetsSeq.list_pop_at l its.toArray n i t k w (fitsIndex_both h1 h2) (by rw [List.size_toArray,<- hl]; exact hk) (by rw [<- Array.getElem?_toList]; exact hw) (by rw [List.size_toArray]; omega)) ⟨e,?_⟩
 refine ⟨y,_,I.lset (its':=its.eraseIdx k) hH e ?_ (r.eraseIdx k) ?_,rw',q⟩
 ·show its.toArray.eraseIdxIfInBounds k = (its.eraseIdx k).toArray
  rw [List.eraseIdxIfInBounds_toArray]
 ·have:=len_erase xs k
  omega
def rClear:V->List V->Hp->VK->Prop:=fun x vs H Q=>∃ l xs,x = .ref l/\vs = []/\H l = some (.lst xs)/\Q .non (upd H l (.lst []))
theorem mt_clear:MtM X "list.clear" rClear:=by
 intro pins s σ H x vs v us Q I rx rv h
 obtain ⟨l,xs,rfl,rfl,hH,q⟩:=h
 cases rx
 have hus:=rv.zero
 subst hus
 obtain ⟨z,its,n,r,hl,e⟩:=I.lstM hH
 refine call_meets F.slot_list_clear ⟨_,e,rfl⟩ F.entry_list_clear (F.args_list_clear_1 _) (AutoSeq1.list_clear_list_0 l its.toArray n (by rw [List.size_toArray]; omega)) ⟨e,?_⟩
 exact ⟨.non,_,I.lset (its':=[]) (ys:=[]) hH e rfl .nil (Nat.zero_le _),rfl,q⟩
def rCat:R2:=fun x y H Q=>∃ l b xs zs,x = .ref l/\y = .ref b/\H l = some (.lst xs)/\H b = some (.lst zs)/\xs.length + zs.length<=sizeLine/\∀ p,H p = none->Q (.ref p) (upd H p (.lst (xs ++ zs)))
theorem op_cat:OpR X (binaryOp .Add) rCat:=by
 intro pins s σ H x y v u Q I rx ry h
 obtain ⟨l,b,xs,zs,rfl,rfl,hH,hB,hz,q⟩:=h
 cases rx
 cases ry
 obtain ⟨z,its,n,r,hl,e⟩:=I.lstM hH
 obtain ⟨z2,its2,n2,r2,hl2,e2⟩:=I.lstM hB
 refine PySem.P.add_list e e2 ?_ (by rw [List.size_toArray,List.size_toArray]; omega)
 have ea:its.toArray ++ its2.toArray = (its ++ its2).toArray:=by simp
 rw [ea]
 exact ⟨.ref _,_,I.lnew (t':=s.toks) (r.append r2) (by rw [List.length_append]; omega),rfl,q _ I.fresh⟩
def rRep:R2:=fun x y H Q=>∃ l k xs,x = .ref l/\y = .int k/\H l = some (.lst xs)/\-(2 ^ 63)<=k/\k < 2 ^ 63/\xs.length * k.toNat<=sizeLine/\
 ∀ p,H p = none->Q (.ref p) (upd H p (.lst (List.replicate k.toNat xs).flatten))
theorem len_rep {α : Type} (xs:List α) (k:Nat):(List.replicate k xs).flatten.length = k * xs.length:=by
 induction k with
 | zero=>simp
 | succ k ih=>rw [List.replicate_succ,List.flatten_cons,List.length_append,ih,Nat.succ_mul,Nat.add_comm]
theorem op_rep:OpR X (binaryOp .Mult) rRep:=by
 intro pins s σ H x y v u Q I rx ry h
 obtain ⟨l,k,xs,rfl,rfl,hH,h1,h2,hz,q⟩:=h
 cases rx
 obtain ⟨t,rfl⟩:=ry
 obtain ⟨z,its,n,r,hl,e⟩:=I.lstM hH
 have hlen:its.toArray.size * k.toNat<=sizeLine:=by rw [List.size_toArray,<- hl]; exact hz
 have hcap:¬ its.toArray.size * k.toNat > (2 ^ 63 - 1) / 8:=by
  have:(sizeLine:Nat)<=(2 ^ 63 - 1) / 8:=by decide
  omega
 have hfit:¬ (!Builtin.List.listFitsIndex k) = true:=by
  rw [fitsIndex_both h1 h2]
  exact Bool.false_ne_true
 have hlong:¬ Builtin.List.listTooLong (its.toArray.size * k.toNat) = true:=by
  rw [notLongL hlen]
  exact Bool.false_ne_true
 have hnew:List.foldl (fun x1 x2=>x1 ++ x2) #[] (List.replicate (if its.toArray.isEmpty = true then 0 else k.toNat) its.toArray) = (List.replicate k.toNat its).flatten.toArray:=by
  have f0:∀ m:Nat,List.foldl (fun x1 x2=>x1 ++ x2) #[] (List.replicate m its.toArray) = (List.replicate m its).flatten.toArray:=fun m=>by
   have:=foldl_rep its m []
   rw [List.nil_append] at this
   exact this
  rw [f0]
  cases its with
  | nil=>simp
  | cons a r'=>rw [if_neg (by simp)]
 refine wpAny_binaryOp_repeat_ref (T:="list") (U:="int") (by decide) ⟨_,e,rfl⟩ (fun s'=>typeIs_int s' k t) noFill_list_mul F.fills_int_mul F.slot_int_rmul repeat_list F.slot_int_index.lookup
  (call_meets F.slot_int_rmul (typeIs_int s k t) F.entry_int_rmul (F.args_int_rmul_2 _ _) (int___rmul___int_list k t l its.toArray n)
   ⟨e,rfl,⟨_,e,rfl⟩,call_meets F.slot_list_mul ⟨_,e,rfl⟩ F.entry_list_mul (F.args_list_mul_2 _ _) (AutoListH.list___mul___list_int_3 l its.toArray n k t hfit hcap hlong) ⟨e,?_⟩⟩)
 rw [hnew]
 exact ⟨.ref _,_,I.lnew (t':=s.toks) (r.rep k.toNat) (by rw [len_rep,Nat.mul_comm]; exact hz),rfl,q _ I.fresh⟩
end
section
variable {prog:Program} {w:World} {A:Around} {E:Value->Shared->Prop} {s:Shared}
end
section
variable {X:Cx}
end
section
variable {κ : Type} [DecidableEq κ]
def valV (kvs:List (κ × V)) (k : κ):Option V:=(kvs.find? fun kv=>decide (kv.1 = k)).map (·.2)
def putK (kvs:List (κ × V)) (k : κ) (v:V):List (κ × V):=
 if (kvs.any fun kv=>decide (kv.1 = k)) = true then kvs.map (fun kv=>if kv.1 = k then (kv.1,v) else kv) else kvs ++ [(k,v)]
theorem valV_pos {p : κ × V} {r:List (κ × V)} {k : κ} (e:p.1 = k):valV (p :: r) k = some p.2:=by simp [valV,List.find?_cons,e]
theorem valV_neg {p : κ × V} {r:List (κ × V)} {k : κ} (e:¬ p.1 = k):valV (p :: r) k = valV r k:=by simp [valV,List.find?_cons,e]
theorem valV_any (k : κ):∀ kvs:List (κ × V),(kvs.any fun kv=>decide (kv.1 = k)) = (valV kvs k).isSome
 | []=>rfl
 | p :: r=>by
  rw [List.any_cons]
  by_cases e:p.1 = k
  ·simp only [valV_pos e,decide_eq_true e,Bool.true_or,Option.isSome_some]
  ·rw [valV_neg e,decide_eq_false e,Bool.false_or]; exact valV_any k r
theorem valV_map (k j : κ) (y:V):∀ kvs:List (κ × V),valV (kvs.map fun kv=>if kv.1 = k then (kv.1,y) else kv) j = (valV kvs j).map fun x=>if j = k then y else x
 | []=>rfl
 | p :: r=>by
  have ih:=valV_map k j y r
  rw [List.map_cons]
  by_cases h:p.1 = k
  ·rw [if_pos h]
   by_cases e:p.1 = j
   ·rw [valV_pos (p:=(p.1,y)) e,valV_pos e,Option.map_some,if_pos (e.symm.trans h)]
   ·rw [valV_neg (p:=(p.1,y)) e,valV_neg e,ih]
  ·rw [if_neg h]
   by_cases e:p.1 = j
   ·rw [valV_pos (p:=p) e,valV_pos e,Option.map_some,if_neg (fun z=>h (e.trans z))]
   ·rw [valV_neg (p:=p) e,valV_neg e,ih]
theorem valV_snoc (k j : κ) (y:V):∀ kvs:List (κ × V),valV kvs k = none->valV (kvs ++ [(k,y)]) j = if j = k then some y else valV kvs j
 | [],_=>by
  by_cases e:k = j
  ·rw [if_pos e.symm]; exact valV_pos (p:=(k,y)) e
  ·rw [if_neg (fun z=>e z.symm)]; exact valV_neg (p:=(k,y)) e
 | p :: r,hn=>by
  rw [List.cons_append]
  have hk:¬ p.1 = k:=fun z=>by rw [valV_pos z] at hn; cases hn
  rw [valV_neg hk] at hn
  have ih:=valV_snoc k j y r hn
  by_cases e:p.1 = j
  ·rw [valV_pos e,valV_pos e,if_neg (fun z=>hk (e.trans z))]
  ·rw [valV_neg e,valV_neg e,ih]
theorem valV_put (kvs:List (κ × V)) (k j : κ) (y:V):valV (putK kvs k y) j = if j = k then some y else valV kvs j:=by
 unfold putK
 by_cases a:(kvs.any fun kv=>decide (kv.1 = k)) = true
 ·rw [if_pos a,valV_map]
  rw [valV_any] at a
  by_cases e:j = k
  ·obtain ⟨x,hx⟩:=Option.isSome_iff_exists.mp a
   rw [if_pos e,e,hx,Option.map_some,if_pos rfl]
  ·rw [if_neg e]
   cases valV kvs j with
   | none=>rfl
   | some x=>rw [Option.map_some,if_neg e]
 ·rw [if_neg a]
  refine valV_snoc k j y kvs ?_
  rw [valV_any] at a
  cases q:valV kvs k with
  | none=>rfl
  | some x=>rw [q] at a; exact (a rfl).elim
theorem length_putK (kvs:List (κ × V)) (k : κ) (v:V):(putK kvs k v).length<=kvs.length + 1:=by
 unfold putK
 split
 ·rw [List.length_map]; omega
 ·rw [List.length_append,List.length_cons,List.length_nil]; omega
theorem RelO.isSome_eq {o:Option V} {u:Option Value} (r:RelO o u):o.isSome = u.isSome:=by
 cases o with
 | none=>cases u with
  | none=>rfl
  | some _=>exact (show False from r).elim
 | some _=>cases u with
  | none=>exact (show False from r).elim
  | some _=>rfl
theorem RelO.getD {o:Option V} {u:Option Value} {d:V} {d':Value} (r:RelO o u) (rd:RelV d d'):RelV (o.getD d) (u.getD d'):=by
 cases o with
 | none=>cases u with
  | none=>exact rd
  | some _=>exact (show False from r).elim
 | some _=>cases u with
  | none=>exact (show False from r).elim
  | some _=>exact r
theorem KV.val {kvs:List (κ × V)} {vs:List (κ × Value)} (r:KV kvs vs) (k : κ):RelO (valV kvs k) (valueAt vs k):=by
 unfold KV at r
 induction r with
 | nil=>exact True.intro
 | @cons p q ps qs h t ih=>
  obtain ⟨h1,h2⟩:=h
  by_cases e:p.1 = k
  ·have e':q.1 = k:=h1.symm.trans e
   have b:valueAt (q :: qs) k = some q.2:=by simp [valueAt,List.find?_cons,e']
   rw [valV_pos e,b]; exact h2
  ·have e':¬ q.1 = k:=fun z=>e (h1.trans z)
   have b:valueAt (q :: qs) k = valueAt qs k:=by simp [valueAt,List.find?_cons,e']
   rw [valV_neg e,b]; exact ih
theorem KV.any {kvs:List (κ × V)} {vs:List (κ × Value)} (r:KV kvs vs) (k : κ):(kvs.any fun kv=>decide (kv.1 = k)) = vs.any fun kv=>decide (kv.1 = k):=by
 unfold KV at r
 induction r with
 | nil=>rfl
 | cons h t ih=>rw [List.any_cons,List.any_cons,ih,h.1]
theorem KV.repl {kvs:List (κ × V)} {vs:List (κ × Value)} (r:KV kvs vs) (k : κ) {y:V} {u:Value} (ry:RelV y u) :
  KV (kvs.map fun kv=>if kv.1 = k then (kv.1,y) else kv) (vs.map fun kv=>if kv.1 = k then (kv.1,u) else kv):=by
 unfold KV at r |-
 induction r with
 | nil=>exact .nil
 | @cons p q ps qs h t ih=>
  rw [List.map_cons,List.map_cons]
  refine .cons ?_ ih
  obtain ⟨h1,h2⟩:=h
  by_cases e:p.1 = k
  ·rw [if_pos e,if_pos (h1.symm.trans e)]; exact ⟨h1,ry⟩
  ·rw [if_neg e,if_neg (fun z=>e (h1.trans z))]; exact ⟨h1,h2⟩
theorem KV.put {kvs:List (κ × V)} {vs:List (κ × Value)} (r:KV kvs vs) (k : κ) {y:V} {u:Value} (ry:RelV y u):KV (putK kvs k y) (stored vs k u):=by
 unfold putK stored
 rw [r.any k]
 by_cases e:(vs.any fun kv=>decide (kv.1 = k)) = true
 ·rw [if_pos e,if_pos e]; exact r.repl k ry
 ·rw [if_neg e,if_neg e]; exact Paired.snoc r ⟨rfl,ry⟩
theorem KV.length {kvs:List (κ × V)} {vs:List (κ × Value)} (r:KV kvs vs):kvs.length = vs.length:=Paired.length r
end
theorem kV_is {P:Program} {w:World} {k:Key} {u:Value} (r:RelV (kV k) u):(mixKind P w).is k u = true:=by
 cases k with
 | inl i=>obtain ⟨t,e⟩:=(show ∃ t,u = Value.int i t from r); subst e; exact mixKind_int P w i t
 | inr x=>obtain ⟨t,e⟩:=(show ∃ t,u = Value.str x t from r); subst e; exact mixKind_str P w x t
theorem items_are {P:Program} {w:World}:∀ {ks:List Key} {us:List Value},Vals (ks.map kV) us->ItemsAre (mixKind P w) ks us
 | [],_,r=>by rw [List.map_nil] at r; cases r; exact .nil
 | k :: ks,_,r=>by
  rw [List.map_cons] at r
  cases r with
  | cons h t=>exact .cons (kV_is h) (items_are t)
abbrev KT (H:Hp):List (List Key × V)->List (List Key × Addr × Value)->Prop:=Paired fun p q=>p.1 = q.1/\H q.2.1 = some (.tup (p.1.map kV))/\RelV p.2 q.2.2
theorem KT.val {H:Hp} {kvs:List (List Key × V)} {xs:List (List Key × Addr × Value)} (r:KT H kvs xs) (k:List Key):RelO (valV kvs k) ((atKey xs k).map (·.2)):=by
 induction r with
 | nil=>exact True.intro
 | @cons p q ps qs h t ih=>
  obtain ⟨h1,_,h2⟩:=h
  by_cases e:p.1 = k
  ·have e':q.1 = k:=h1.symm.trans e
   have b:atKey (q :: qs) k = some q.2:=by simp [atKey,List.find?_cons,e']
   rw [valV_pos e,b]; exact h2
  ·have e':¬ q.1 = k:=fun z=>e (h1.trans z)
   have b:atKey (q :: qs) k = atKey qs k:=by simp [atKey,List.find?_cons,e']
   rw [valV_neg e,b]; exact ih
theorem KT.repl {H:Hp} {kvs:List (List Key × V)} {xs:List (List Key × Addr × Value)} (r:KT H kvs xs) (k:List Key) {y:V} {u:Value} (ry:RelV y u) :
  KT H (kvs.map fun kv=>if kv.1 = k then (kv.1,y) else kv) (xs.map (putAt k u)):=by
 induction r with
 | nil=>exact .nil
 | @cons p q ps qs h t ih=>
  rw [List.map_cons,List.map_cons]
  refine .cons ?_ ih
  obtain ⟨h1,h2,h3⟩:=h
  unfold putAt
  by_cases e:p.1 = k
  ·rw [if_pos e,if_pos (h1.symm.trans e)]; exact ⟨h1,h2,ry⟩
  ·rw [if_neg e,if_neg (fun z=>e (h1.trans z))]; exact ⟨h1,h2,h3⟩
theorem KT.put {H:Hp} {kvs:List (List Key × V)} {xs:List (List Key × Addr × Value)} (r:KT H kvs xs) (k:List Key) {b:Addr} {y:V} {u:Value} (hb:H b = some (.tup (k.map kV))) (ry:RelV y u) :
  KT H (putK kvs k y) (storedH xs k b u):=by
 have e:(kvs.any fun kv=>decide (kv.1 = k)) = (atKey xs k).isSome:=by
  rw [valV_any,(r.val k).isSome_eq,Option.isSome_map]
 unfold putK storedH
 rw [e]
 by_cases q:(atKey xs k).isSome = true
 ·rw [if_pos q,if_pos q]; exact r.repl k ry
 ·rw [if_neg q,if_neg q]; exact Paired.snoc r ⟨rfl,hb,ry⟩
theorem KT.keeps {H H':Hp} {kvs:List (List Key × V)} {xs:List (List Key × Addr × Value)} (r:KT H kvs xs) (ht:∀ b ys,H b = some (.tup ys)->H' b = some (.tup ys)):KT H' kvs xs:=
 Paired.mapP r fun _ _ z=>⟨z.1,ht _ _ z.2.1,z.2.2⟩
section
variable {P:Program} {w:World} {H:Hp} {h:Heap} {a:Addr}
theorem rd_of {u:HO} (ok:HOk P w H h) (e:Rd H a u):ObjOk P w H h a u:=e.ok ok
theorem dk_rd {kvs:List (Key × V)} (ok:HOk P w H h) (e:Rd H a (.dK kvs)):kvs.length<=sizeLine/\(a == sysModules) = false/\∃ vs,KV kvs vs/\h.DictOf (mixKind P w) a vs:=
 show ObjOk P w H h a (.dK kvs) from rd_of ok e
theorem dk_of {kvs:List (Key × V)} (ok:HOk P w H h) (e:H a = some (.dK kvs)):kvs.length<=sizeLine/\(a == sysModules) = false/\∃ vs,KV kvs vs/\h.DictOf (mixKind P w) a vs:=dk_rd ok (.inl e)
theorem key_of {ks:List Key} (ok:HOk P w H h) (e:H a = some (.tup (ks.map kV))):(tupleKind (mixKind P w)).is h ks a:=by
 obtain ⟨_,its,r,o,h1,h2,n,h3⟩:=(show ObjOk P w H h a (.tup (ks.map kV)) from ok a _ e)
 exact ⟨o,its.toArray,n,h1,h2,h3,by simpa using items_are r⟩
theorem dt_rd {kvs:List (List Key × V)} (ok:HOk P w H h) (e:Rd H a (.dT kvs)):kvs.length<=sizeLine/\(a == sysModules) = false/\
  ∃ xs,KT H kvs xs/\h.DictOfH (tupleKind (mixKind P w)) a xs:=by
 obtain ⟨z,y,xs,r,o,es,ep,h1,h2,h3,h4,h5⟩:=(show ObjOk P w H h a (.dT kvs) from rd_of ok e)
 refine ⟨z,y,xs,r,o,es,ep,h1,h2,h3,h4,fun x hx=>?_,h5⟩
 have all:∀ {l:List (List Key × V)} {m:List (List Key × Addr × Value)},KT H l m->∀ x ∈ m,(tupleKind (mixKind P w)).is h x.1 x.2.1:=by
  intro l m q
  induction q with
  | nil=>intro x hx; exact nomatch hx
  | @cons p q ps qs hq t ih=>
   intro x hx
   rcases List.mem_cons.mp hx with e | hx
   ·subst e
    exact key_of ok (by rw [<- hq.1]; exact hq.2.1)
   ·exact ih x hx
 exact all r x hx
theorem dt_of {kvs:List (List Key × V)} (ok:HOk P w H h) (e:H a = some (.dT kvs)):kvs.length<=sizeLine/\(a == sysModules) = false/\
  ∃ xs,KT H kvs xs/\h.DictOfH (tupleKind (mixKind P w)) a xs:=dt_rd ok (.inl e)
end
def DGet (H:Hp) (a:Addr) (y:V) (r:Option V):Prop:=
 (∃ kvs k,Rd H a (.dK kvs)/\y = kV k/\r = valV kvs k)\/∃ kvs k b,Rd H a (.dT kvs)/\y = .ref b/\H b = some (.tup (k.map kV))/\r = valV kvs k
def DPut (H:Hp) (a:Addr) (y v:V) (H':Hp):Prop:=
 (∃ kvs k,H a = some (.dK kvs)/\y = kV k/\kvs.length < sizeLine/\H' = upd H a (.dK (putK kvs k v)))\/
 ∃ kvs k b,H a = some (.dT kvs)/\y = .ref b/\H b = some (.tup (k.map kV))/\kvs.length < sizeLine/\H' = upd H a (.dT (putK kvs k v))
theorem DGet.k {H:Hp} {a:Addr} {kvs:List (Key × V)} {k:Key} (e:H a = some (.dK kvs)):DGet H a (kV k) (valV kvs k):=.inl ⟨kvs,k,.inl e,rfl,rfl⟩
theorem DPut.k {H:Hp} {a:Addr} {kvs:List (Key × V)} {k:Key} {v:V} (e:H a = some (.dK kvs)) (hl:kvs.length < sizeLine):DPut H a (kV k) v (upd H a (.dK (putK kvs k v))):=.inl ⟨kvs,k,e,rfl,hl,rfl⟩
section
variable {X:Cx} {pins:List (Addr × Obj)} {σ : St} {H:Hp} {s:Shared} {a:Addr} {y v:V} {u r:Value} {o:Option V} {A:Around} {E:Value->Shared->Prop}
theorem Inv.big (I:Inv X pins σ H s):sysModules < s.heap.objs.size:=by
 have h:mainGlobals < s.heap.objs.size:=(I.mod.glob.keeps I.bk).lt
 exact Nat.lt_trans (by decide) h
theorem d_getItem {Q:Value->Shared->Prop} (hu:A.units + 1 < cLine) (I:Inv X pins σ H s) (g:DGet H a y (some v)) (ry:RelV y u) (h:∀ w' s',Inv X pins σ H s'->RelV v w'->Q w' s') :
  wpAny (model X.prog X.w) A (getItem (.ref a) u) Q E s:=by
 rcases g with ⟨kvs,k,e,ey,l⟩ | ⟨kvs,k,b,e,ey,eb,l⟩
 ·subst ey
  obtain ⟨z,hd,vs,rel,dd⟩:=dk_rd I.hok e
  obtain ⟨w',hw,rw'⟩:=RelO.some_of (v:=v) (o:=valueAt vs k) (by rw [l]; exact rel.val k)
  exact wpAny_getItem_of (kV_is ry) dd.mapOf hw (h w' _ (I.tok _) rw')
 ·subst ey
  cases (show u = Value.ref b from ry)
  obtain ⟨z,hd,xs,rel,dd⟩:=dt_rd I.hok e
  obtain ⟨w',hw,rw'⟩:=RelO.some_of (v:=v) (o:=(atKey xs k).map (·.2)) (by rw [l]; exact rel.val k)
  obtain ⟨p,hp,hp2⟩:=Option.map_eq_some_iff.mp hw
  refine wpAny_getItem_heap (tupleKind_room_in1 hu) (key_of I.hok eb) dd hp ?_
  rw [hp2]
  exact h w' _ (I.tok _) rw'
theorem d_in {Q:Value->Shared->Prop} (hu:A.units + 1 < cLine) (I:Inv X pins σ H s) (g:DGet H a y o) (ry:RelV y u) (h:∀ s',Inv X pins σ H s'->Q (.bool o.isSome) s') :
  wpAny (model X.prog X.w) A (compareOp .In u (.ref a)) Q E s:=by
 rcases g with ⟨kvs,k,e,ey,l⟩ | ⟨kvs,k,b,e,ey,eb,l⟩
 ·subst ey
  obtain ⟨z,hd,vs,rel,dd⟩:=dk_rd I.hok e
  refine wpAny_in_of (kV_is ry) hd dd.mapOf ?_
  rw [<- (rel.val k).isSome_eq,<- l]
  exact h _ (I.tok _)
 ·subst ey
  cases (show u = Value.ref b from ry)
  obtain ⟨z,hd,xs,rel,dd⟩:=dt_rd I.hok e
  refine wpAny_in_heap (tupleKind_room_in1 hu) (key_of I.hok eb) hd dd ?_
  have q:=(rel.val k).isSome_eq
  rw [Option.isSome_map] at q
  rw [<- q,<- l]
  exact h _ (I.tok _)
theorem d_write {h':Heap} {t':Nat} {ob:HO} (I:Inv X pins σ H s) (mu:Mut (H a)) (hs:Heap.SameBut a s.heap h') (he:∃ q,h'.get? a = some q) (new:ObjOk X.prog X.w (upd H a ob) h' a ob) :
  Inv X pins σ (upd H a ob) { s with heap:=h',toks:=t' }:=
 I.write (x:=a) (e:=a) mu (.inl rfl) (fun b q hb z=>(hs.2 b hb).trans z) he new
theorem dk_new {P:Program} {w:World} {H':Hp} {h':Heap} {kvs:List (Key × V)} {vs:List (Key × Value)} (z:kvs.length<=sizeLine) (hd:(a == sysModules) = false) (rel:KV kvs vs) (dd:h'.DictOf (mixKind P w) a vs) :
  ObjOk P w H' h' a (.dK kvs):=⟨z,hd,vs,rel,dd⟩
theorem d_setItem {H':Hp} {Q:Unit->Shared->Prop} (hu:A.units + 1 < cLine) (I:Inv X pins σ H s) (g:DPut H a y v H') (ry:RelV y u) (rv:RelV v r) (h:∀ s',Inv X pins σ H' s'->Q () s') :
  wpAny (model X.prog X.w) A (setItem (.ref a) u r) Q E s:=by
 rcases g with ⟨kvs,k,e,ey,l,eH⟩ | ⟨kvs,k,b,e,ey,eb,l,eH⟩
 ·subst ey eH
  obtain ⟨z,hd,vs,rel,dd⟩:=dk_of I.hok e
  have hz:vs.length<=sizeLine:=by rw [<- rel.length]; exact z
  have hl:(putK kvs k v).length<=sizeLine:=by have:=length_putK kvs k v; omega
  refine wpAny_setItem_pairs (hsz:=hz) (kV_is ry) dd fun h' dd' hs=>h _ ?_
  have he:∃ q,h'.get? a = some q:=let ⟨q,_,_,hq,_⟩:=dd'; ⟨q,hq⟩
  exact d_write I (by rw [e]; exact True.intro) hs he (dk_new hl hd (rel.put k rv) dd')
 ·subst ey eH
  cases (show u = Value.ref b from ry)
  obtain ⟨z,hd,xs,rel,dd⟩:=dt_of I.hok e
  have hz:xs.length<=sizeLine:=by rw [<- Paired.length rel]; exact z
  have hl:(putK kvs k v).length<=sizeLine:=by have:=length_putK kvs k v; omega
  refine wpAny_setItem_heap (hsz:=hz) (tupleKind_room_in1 hu) (key_of I.hok eb) dd fun h' dd' hs=>h _ ?_
  obtain ⟨q,es,ep,hq,h2,h3,h4,_,h5⟩:=dd'
  refine d_write I (by rw [e]; exact True.intro) hs ⟨q,hq⟩ ⟨hl,hd,_,(rel.put k eb rv).keeps fun c ys ec=>?_,q,es,ep,hq,h2,h3,h4,h5⟩
  rw [upd_ne (ne_of ec e (fun z=>nomatch z))]
  exact ec
end
section
variable {X:Cx} {pins:List (Addr × Obj)} {σ : St} {H:Hp} {s:Shared} {a:Addr} {kvs:List (Key × V)} {k:Key} {u:Value} {A:Around} {E:Value->Shared->Prop}
end
def NoSl (i:Expr):Prop:=∀ ov iv,subscripted i false ov iv = operate [ov,iv] (getItem ov iv)
theorem subD_of {prog:Program} {w:World} {A:Around} {E:Value->Shared->Prop} {s:Shared} {env:Env} {value slice:Expr} {pos:Pos} {T id:String} {Q:Value->Shared->Prop}
  (hl:typeLookup (.type T) "__getitem__" = pure (some (.builtin id))) (hs:NoSl slice)
  (h:wpAny (model prog w) A (eval value env) (fun o s₁=>wpAny (model prog w) A (eval slice env) (fun i s₂=>s₂.TypeIs o T/\wpAny (model prog w) A (getItem o i) Q E s₂) E s₁) E s) :
  wpAny (model prog w) A (eval (.Subscript value slice pos) env) Q E s:=by
 refine Subscript_ (wpAny_mono h (fun o s₁ h₁=>wpAny_mono h₁ (fun i s₂ h₂=>?_) fun _ _ x=>x) fun _ _ x=>x)
 obtain ⟨hT,h₂⟩:=h₂
 unfold subscriptTail
 refine wpAny_bind ?_
 rw [getitemInPython_of_ne hT.not_modules]
 refine wpAny_bind (wpAny_specialOf hT hl ?_)
 have fin:wpAny (model prog w) A (subscripted slice false o i) (fun r s₃=>wpAny (model prog w) A (letTemporaryGo value o r >>= fun _=>pure r) Q E s₃) E s₂:=by
  rw [hs o i]
  exact wpAny_operating (wpAny_mono h₂ (fun r s₃ h₃=>wpAny_bind (wpAny_letTemporaryGo (wpAny_pure h₃))) fun _ _ x=>x)
 first
  | exact wpAny_pure (wpAny_bind fin)
  | exact wpAny_bind (wpAny_pure (wpAny_bind fin))
  | exact wpAny_bind fin
theorem dict_typeIs {X:Cx} {pins:List (Addr × Obj)} {σ : St} {H:Hp} {s:Shared} {a:Addr} {y:V} {o:Option V} (I:Inv X pins σ H s) (g:DGet H a y o):s.TypeIs (.ref a) "dict":=by
 rcases g with ⟨kvs,k,e,_,_⟩ | ⟨kvs,k,b,e,_,_,_⟩
 ·obtain ⟨_,_,vs,_,dd⟩:=dk_rd I.hok e
  exact dd.typeIs
 ·obtain ⟨_,_,xs,_,dd⟩:=dt_rd I.hok e
  exact dd.typeIs
def tDGet (td ty:TE):TE:=fun σ H Q=>td σ H fun x H1=>ty σ H1 fun y H2=>∃ a v,x = .ref a/\DGet H2 a y (some v)/\Q v H2
def tDIn (ty td:TE):TE:=fun σ H Q=>ty σ H fun y H1=>td σ H1 fun x H2=>∃ a o,x = .ref a/\DGet H2 a y o/\Q (.bl o.isSome) H2
def sDPut (td ty tv:TE):TS:=fun D σ H=>tv σ H fun v H1=>td σ H1 fun x H2=>ty σ H2 fun y H3=>∃ a H4,x = .ref a/\DPut H3 a y v H4/\D.nx σ H4
section
variable {X:Cx} {o i e value:Expr} {pos pos' tpos:Pos} {td ty tv:TE}
theorem pe_dget (hu:X.A.units + 1 < cLine) (ho:PE X o td) (hi:PE X i ty) (hs:NoSl i):PE X (.Subscript o i pos) (tDGet td ty):=by
 refine ⟨?_⟩
 intro pins s σ H Q I h
 refine subD_of PySem.F.slot_dict_getitem.lookup hs (thn (ho pins s σ H _ I h) fun u s1 ⟨x,H1,I1,rx,q1⟩=>thn (hi pins s1 σ H1 _ I1 q1) fun iv s2 ⟨y,H2,I2,ry,a,v,ex,g,q2⟩=>?_)
 subst ex
 obtain rfl:u = Value.ref a:=rx
 exact ⟨dict_typeIs I2 g,d_getItem hu I2 g ry fun w' s3 I3 rw'=>⟨v,H2,I3,rw',q2⟩⟩
theorem pc_din (hu:X.A.units + 1 < cLine) (hi:PE X i ty) (ho:PE X o td):PC X .In i o (tDIn ty td):=by
 refine ⟨?_⟩
 intro pins s σ H Q I h
 refine thn (hi pins s σ H _ I h) fun iv s1 ⟨y,H1,I1,ry,q1⟩=>thn (ho pins s1 σ H1 _ I1 q1) fun u s2 ⟨x,H2,I2,rx,a,ov,ex,g,q2⟩=>?_
 subst ex
 obtain rfl:u = Value.ref a:=rx
 exact d_in hu I2 g ry fun s3 I3=>⟨.bl ov.isSome,H2,I3,rfl,q2⟩
theorem ps_dput (hu:X.A.units + 1 < cLine) (ho:PE X o td) (hi:PE X i ty) (hv:PE X value tv) (hs:swapsWith value (some (.Subscript o i pos')) pos.line X.env = pure false) :
  PS X (.Assign [.Subscript o i pos'] value pos) (sDPut td ty tv):=by
 refine ⟨?_⟩
 intro pins s σ H D I h
 refine wpAny_Assign_Subscript (thn (hv pins s σ H _ I h) fun r s1 ⟨v,H1,I1,rv,q1⟩=>thn (ho pins s1 σ H1 _ I1 q1) fun u s2 ⟨x,H2,I2,rx,q2⟩=>thn (hi pins s2 σ H2 _ I2 q2) fun iv s3 ⟨y,H3,I3,ry,a,H4,ex,g,q3⟩=>?_) hs
 subst ex
 obtain rfl:u = Value.ref a:=rx
 exact d_setItem hu I3 g ry rv fun s4 I4=>⟨σ,H4,I4,q3⟩
end
theorem dk_empty {P:Program} {w:World} {H:Hp} (h:Heap) (hb:sysModules < h.objs.size):ObjOk P w H (h.push { cls:=.type "dict",data:=.dict #[] }) h.objs.size (.dK []):=
 ⟨Nat.zero_le _,beq_eq_false_iff_ne.mpr (Ne.symm (Nat.ne_of_lt hb)),[],.nil,Heap.DictOf.new h⟩
def tDNewK:TE:=fun _ H Q=>∀ p,H p = none->Q (.ref p) (upd H p (.dK []))
section
variable {X:Cx} {pos:Pos}
theorem pe_dnewK:PE X (.Dict [] [] pos) tDNewK:=⟨fun pins s σ H Q I h=>
 wpAny_Dict_empty ⟨.ref s.heap.objs.size,_,I.laid (a:=s.heap.objs.size) (o:=.dK []) (t':=s.toks) (fun _ _ q=>Heap.get?_push_of_some _ q) (Nat.le_refl _) (dk_empty s.heap I.big),rfl,h _ (I.hok.fresh (Nat.le_refl _))⟩⟩
end
def tPairs:List (TE × TE)->St->Hp->(List (V × V)->Hp->Prop)->Prop
 | [],_,H,Q=>Q [] H
 | (tk,tv) :: r,σ,H,Q=>tk σ H fun x H1=>tv σ H1 fun y H2=>tPairs r σ H2 fun ps H3=>Q ((x,y) :: ps) H3
structure M1 (X:Cx) (o:Expr) (m:Str) (apos:Pos) (e:Expr) (cpos:Pos):Prop where
 base:attributeBase o m X.env (eval o X.env) = eval o X.env
 few:((backTo cpos (starEach [e] X.env)).all (fun x=>!x.1) && (backToKw cpos (keywordEach [] X.env)).all (fun x=>x.1.isSome)
  && decide (([e]:List Expr).length + ([]:List Keyword).length + (if ([]:List Keyword).isEmpty then 0 else 1) < 30)) = true
 line:(apos.endLine == cpos.line) = true
 trees:backTo cpos (starEach [e] X.env) = [(false,eval e X.env)]
def IsD (H:Hp) (a:Addr):Prop:=(∃ kvs,Rd H a (.dK kvs))\/∃ kvs,Rd H a (.dT kvs)
theorem isD_at {X:Cx} {pins:List (Addr × Obj)} {σ : St} {H:Hp} {s:Shared} {a:Addr} (I:Inv X pins σ H s) (d:IsD H a) :
  s.TypeIs (.ref a) "dict"/\(∀ b,Value.ref a = .ref b->∃ ob,s.heap.get? b = some ob/\ob.dict = none)/\(a == sysModules) = false:=by
 rcases d with ⟨kvs,e⟩ | ⟨kvs,e⟩
 ·obtain ⟨_,hd,vs,_,dd⟩:=dk_rd I.hok e
  refine ⟨dd.typeIs,fun b q=>?_,hd⟩
  cases q
  obtain ⟨ob,_,_,h1,h2,_⟩:=dd
  exact ⟨ob,h1,h2.2.1⟩
 ·obtain ⟨_,hd,xs,_,dd⟩:=dt_rd I.hok e
  refine ⟨dd.typeIs,fun b q=>?_,hd⟩
  cases q
  obtain ⟨ob,_,_,h1,h2,_⟩:=dd
  exact ⟨ob,h1,h2.2.1⟩
section
variable {X:Cx} {pins:List (Addr × Obj)} {σ : St} {H:Hp} {s:Shared} {a:Addr} {y d:V} {u r:Value} {o:Option V} {A:Around} {E:Value->Shared->Prop}
theorem d_get1 {Q:Value->Shared->Prop} (hu:A.units + 1 < cLine) (I:Inv X pins σ H s) (g:DGet H a y o) (ry:RelV y u) (h:∀ w' s',Inv X pins σ H s'->RelV (o.getD .non) w'->Q w' s') :
  wpAny (model X.prog X.w) A (call (.builtin "dict.get") [.ref a,u]) Q E s:=by
 rcases g with ⟨kvs,k,e,ey,l⟩ | ⟨kvs,k,b,e,ey,eb,l⟩
 ·subst ey
  obtain ⟨z,hd,vs,rel,dd⟩:=dk_rd I.hok e
  refine call_meetsIn PySem.F.slot_dict_get dd.typeIs PySem.F.entry_dict_get (PySem.F.args_dict_get_2 _ _) (meets_dict_get (mixKind X.prog X.w) a (kV_is ry) hd) ⟨_,dd.mapOf,h _ _ (I.tok _) ?_⟩
  rw [l]
  exact (rel.val k).getD rfl
 ·subst ey
  cases (show u = Value.ref b from ry)
  obtain ⟨z,hd,xs,rel,dd⟩:=dt_rd I.hok e
  refine call_meetsIn PySem.F.slot_dict_get dd.typeIs PySem.F.entry_dict_get (PySem.F.args_dict_get_2 _ _) (meetsH_dict_get (tupleKind (mixKind X.prog X.w)) a b hd) ⟨tupleKind_room_in1 hu,k,xs,key_of I.hok eb,dd,h _ _ (I.tok _) ?_⟩
  rw [l]
  exact (rel.val k).getD rfl
end
def tDGet1 (td ty:TE):TE:=fun σ H Q=>td σ H fun x H1=>∃ a,x = .ref a/\IsD H1 a/\ty σ H1 fun y H2=>∃ o,DGet H2 a y o/\Q (o.getD .non) H2
section
variable {X:Cx} {o e f:Expr} {apos cpos:Pos} {td ty tx:TE}
theorem pe_dget1 (hu:X.A.units + 1 < cLine) (ho:PE X o td) (he:PE X e ty) (m:M1 X o "get" apos e cpos):PE X (.Call (.Attribute o "get" apos) [e] [] cpos) (tDGet1 td ty):=by
 refine ⟨?_⟩
 intro pins s σ H Q I h
 refine wpAny_Call_method m.base m.few m.line PySem.F.plainAttrs_dict PySem.F.slot_dict_get PySem.F.type_dict_get (thn (ho pins s σ H _ I h) fun u s1 ⟨x,H1,I1,rx,a,ex,d,q1⟩=>?_)
 subst ex
 obtain rfl:u = Value.ref a:=rx
 obtain ⟨t1,t2,_⟩:=isD_at I1 d
 refine ⟨t1,t2,?_⟩
 rw [m.trees]
 refine Calls.callWith_builtin rfl (Calls.evalArgs_plain (Calls.spliced_cons (thn (he pins s1 σ H1 _ I1 q1) fun iv s2 ⟨y,H2,I2,ry,ov,g,q2⟩=>Calls.spliced_nil ?_)))
 exact d_get1 hu I2 g ry fun w' s3 I3 rw'=>⟨_,H2,I3,rw',q2⟩
end
section
variable {X:Cx} {pins:List (Addr × Obj)} {σ : St} {H:Hp} {s:Shared} {a:Addr} {kvs:List (Key × V)} {A:Around} {E:Value->Shared->Prop}
end
section
variable {X:Cx} {pins:List (Addr × Obj)} {σ : St} {H:Hp} {s:Shared} {a:Addr} {y:V} {u:Value} {A:Around} {E:Value->Shared->Prop}
end
end L2
namespace Att
open PySem PySem.W PySem.Calls PyProof.Rows
theorem ints_of_wellAll {P:Params} {h:Heap}:∀ (ns:List Int) (vs:List Value),WellAll P h vs (ns.map WData.int)->IntsAre vs ns:=by
 intro ns
 induction ns with
 | nil=>
  intro vs w
  rw [List.map_nil] at w
  cases w
  exact .nil
 | cons n ns ih=>
  intro vs w
  rw [List.map_cons] at w
  cases w with
  | cons a b=>
   cases a
   exact .cons _ _ (ih _ b)
theorem script_of {l:OpenLaw} {n:Nat} (hn:l.most = some n) {P:Params} {h:Heap} {args:List WData} {vals:List Value}
  (hpre:l.row.toRowW.claim.pre args = true) (hwl:WellAll P h vals args) :
  ∃ a vs ns,vals = [Value.ref a]/\args = [WData.list (ns.map WData.int)]/\h.get? a = some { cls:=.type "list",data:=.seq vs.toArray }/\IntsAre vs ns/\ns.length<=n:=by
 have hsh:WShape.hasAll [] args [.list .int] = true:=(pre_splitW hpre).1
 have hc:l.pre.holds [] { args:=args } = true:=(pre_splitW hpre).2
 obtain ⟨d,r,rfl,h1,h2⟩:=hasAllW_cons hsh
 obtain rfl:=hasAllW_nil h2
 obtain ⟨xs,rfl,h3⟩:=hasW_list h1
 obtain ⟨ns,rfl⟩:=items_int h3
 have hlen:ns.length<=n:=by
  unfold OpenLaw.pre at hc
  have h4:(WTm.not (.lt (.lit (.int (n:Int))) (.len (.arg 0)))).holds [] { args:=[.list (ns.map .int)] } = true:=by
   have h4:=(holds_andW hc).1
   rw [hn] at h4
   exact h4
  have h5:=condW_of h4 (w_not (w_lt w_lit (w_len_list (w_arg rfl))))
  rw [List.length_map] at h5
  refine Nat.le_of_not_lt fun q=>?_
  have q':(n:Int) < ((ns.length:Nat):Int):=by omega
  first
   | (rw [decide_eq_true q'] at h5; exact absurd h5 (by decide))
   | (simp at h5; omega)
 cases hwl with
 | cons w1 w2=>
  cases w2
  cases w1 with
  | list ho hall=>exact ⟨_,_,ns,rfl,rfl,ho,ints_of_wellAll ns _ hall,hlen⟩
theorem post_true (l:OpenLaw) (args:List WData):l.row.toRowW.claim.post args (.bool true) args = true:=
 postW_of (r:=l.row.toRowW) (X:=(true == true))
  (show WShape.has [] (.bool true) .bool = true by first | rfl | decide | simp [WShape.has,WShape.arms,WShape.armsAll])
  (show (WTm.eq .res (.lit (.bool true))).value [] { args:=args,res:=some (.bool true),after:=args } = some (.bool (true == true)) from w_eq_bool (w_res rfl) w_lit) rfl
section
variable {prog:Program} {w:World} {A:Around} {E:Value->Shared->Prop} {s:Shared} {K:Frag}
def ledger (h:Heap) (L d:Addr):List (Addr × Obj):=(List.range h.objs.size).filterMap fun a=>if a = L\/a = d then none else (h.get? a).map fun o=>(a,o)
end
end Att
namespace L2
open PySem PySem.Spec PyProof.Rows
theorem vals_ints:∀ {vs:List Value} {ns:List Int},IntsAre vs ns->Vals (ns.map V.int) vs
 | _,_,.nil=>.nil
 | _,_,.cons n t h=>.cons ⟨t,rfl⟩ (vals_ints h)
def Only (H:Hp):Prop:=∀ b,H b = none\/∃ o xs,H b = some (.frz o (.lst xs))
theorem law_call {P:Program} {w:World} {K:PySem.W.Frag} {mg mb:Str->Option Value} {CX:CXT} {k:Nat} {fa a:Addr} {fd:FuncData} {x:Str} {sp:Sp} {s₁:Shared} {vs:List Value} {ns:List Int}
  (KX:K.In s₁.heap) (hns:s₁.heap.Ns mainGlobals mg) (hb:s₁.heap.Ns builtinsNs mb) (hbb:∀ x:Str,x ≠ "__name__"->mb x = bootBuiltins x) (hlim:s₁.heap.NoLimit) (hg:s₁.gens = #[])
  (ha:s₁.heap.get? a = some { cls:=.type "list",data:=.seq vs.toArray }) (hi:IntsAre vs ns) (hl:ns.length<=sizeLine) (hr:Room k callerA)
  (F:∀ base:Heap,K.In base->base.Ns mainGlobals mg->FnOk P w K mg base CX k fa fd [x] sp) (hbind:∀ (s:Shared) (u:Value),BindsTo s fd ⟨[u],[]⟩ [(x,u)])
  (hsp:∀ H:Hp,Only H->SqL K H a (ns.map V.int)->sp [.ref a] H (fun v _=>v = .bl true) fun _ _ _=>False)
  (hCX:∀ H e s',CX [] H s₁ (fun _ _ _=>False) e s'->False) :
  codeAny (model P w) callerA (.call (.ref fa) ⟨[.ref a],[]⟩) (fun r s'=>r = .ok (.ret (.bool true))/\OldK s₁.heap s'.heap/\s'.os = s₁.os/\AllBare s'.gens) s₁:=by
 have rv:=vals_ints hi
 have lenV:=hi.length
 have core:∀ H:Hp,Only H->SqL K H a (ns.map V.int)->HOk P w H s₁.heap->(∀ b,H b ≠ none->b = a)->(H a ≠ none->K.lookup a = none)->
   codeAny (model P w) callerA (.call (.ref fa) ⟨[.ref a],[]⟩) (fun r s'=>r = .ok (.ret (.bool true))/\OldK s₁.heap s'.heap/\s'.os = s₁.os/\AllBare s'.gens) s₁:=by
  intro H hO hS hok hA hK
  have base_of:∀ {b:Addr} {o:Obj},s₁.heap.get? b = some o->H b = none->(hidT s₁.heap H).get? b = some o:=fun e n=>hidT_get e n
  have noA:∀ {b:Addr} {o:Obj} {es:Array DictEntry} {ep:Nat},s₁.heap.get? b = some o->o.data = .dict es ep->H b = none:=fun {b o es ep} e d=>by
   cases q:H b with
   | none=>rfl
   | some u=>
    have e':b = a:=hA b (by rw [q]; simp)
    subst e'
    rw [ha] at e; cases e
    have d':Data.seq vs.toArray _ = Data.dict es ep:=d
    cases d'
  have nsK:∀ {b:Addr} {m:Str->Option Value},s₁.heap.Ns b m->(hidT s₁.heap H).Ns b m:=fun {b m} ⟨o,es,ep,e,d,r⟩=>⟨o,es,ep,base_of e (noA e d),d,r⟩
  have hKb:K.In (hidT s₁.heap H):=fun b o e=>base_of (KX b o e) (by
   cases q:H b with
   | none=>rfl
   | some u=>
    have e':b = a:=hA b (by rw [q]; simp)
    subst e'
    rw [hK (by rw [q]; simp)] at e; cases e)
  have hM:Mod K mg (hidT s₁.heap H):=⟨hKb,nsK hns,⟨mb,nsK hb,hbb⟩,let ⟨mc,h1,h2⟩:=hlim; ⟨mc,nsK h1,h2⟩⟩
  have e0:Env0 P w K mg (hidT s₁.heap H) callerA [] s₁ H:=⟨rfl,hM,fun b o e=>of_hidT e,Nat.le_of_eq (hidT_size _ _),trivial,fun b hb=>absurd (show b ∈ ([]:List Addr) from hb) (by simp),hok,.of_eq hg⟩
  refine codeAny_mono ((F _ hKb (nsK hns)).run callerA [] s₁ H ⟨[.ref a],[]⟩ [.ref a] [.ref a] _ _ hr e0 (hbind s₁ (.ref a)) (.cons rfl .nil) (hsp H hO hS)) fun r s' h=>?_
  cases r with
  | error e=>exact (hCX H e s' h).elim
  | ok fl=>
   cases fl with
   | next=>exact False.elim h
   | brk=>exact False.elim h
   | cont=>exact False.elim h
   | ret u=>
    obtain ⟨v,H',os,bare,un,hok',r',q⟩:=h
    have q':v = .bl true:=q
    subst q'
    obtain rfl:u = Value.bool true:=r'
    refine ⟨rfl,OldK.of_keep fun b o e=>?_,os,bare⟩
    cases q:H b with
    | none=>exact un.keep b o e q (by intro z; exact absurd (show b ∈ ([]:List Addr) from z) (by simp)) (by simp)
    | some u=>
     rcases hO b with z | ⟨ob,xs,z⟩
     ·rw [q] at z; cases z
     ·have z2:=un.frzs b ob _ z
      obtain ⟨e1,_⟩:=hok b _ z
      obtain ⟨e2,_⟩:=hok' b _ z2
      rw [e] at e1; cases e1
      exact e2
 cases hk:K.lookup a with
 | some o=>
  have e:=KX a o hk
  rw [ha] at e
  cases e
  refine core (fun _=>none) (fun _=>.inl rfl) (.inr ⟨_,vs.toArray,_,hk,rfl,rfl,rfl,by rw [List.size_toArray,lenV]; exact hl,by simpa using rv⟩) (fun b u z=>by have z':(none:Option HO) = some u:=z; cases z') (fun b z=>absurd rfl z) fun z=>absurd rfl z
 | none=>
  refine core (fun b=>if b = a then some (.frz { cls:=.type "list",data:=.seq vs.toArray } (.lst (ns.map V.int))) else none) (fun b=>?_) (.inl (.inr ⟨{ cls:=.type "list",data:=.seq vs.toArray },if_pos rfl⟩)) (fun b u z=>?_) (fun b z=>?_) fun _=>hk
  ·by_cases hb:b = a
   ·exact .inr ⟨_,_,if_pos hb⟩
   ·exact .inl (if_neg hb)
  ·by_cases hb:b = a
   ·have z':=(if_pos hb).symm.trans z
    cases z'
    subst hb
    exact ⟨ha,by rw [List.length_map]; exact hl,vs,_,rv,ha⟩
   ·have z':=(if_neg hb).symm.trans z
    cases z'
  ·by_cases hb:b = a
   ·exact hb
   ·exact absurd (if_neg hb) z
def inClass (s:Stmt) (j:Nat):Stmt:=match s with
 | .ClassDef _ _ _ body _ _ _ _ _ _ _=>body.getD j (.Pass ⟨0,0,0,0⟩)
 | _=>.Pass ⟨0,0,0,0⟩
def defArgs (s:Stmt):Arguments:=match s with
 | .FunctionDef _ a _ _ _ _ _ _ _ _=>a
 | _=>{ posonlyargs:=[],args:=[],vararg:=none,kwonlyargs:=[],kw_defaults:=[],kwarg:=none,defaults:=[] }
def defBody (s:Stmt):List Stmt:=match s with
 | .FunctionDef _ _ b _ _ _ _ _ _ _=>b
 | _=>[]
def defScope (s:Stmt):Scope:=match s with
 | .FunctionDef _ _ _ _ _ _ sc _ _ _=>sc
 | _=>{ kind:=.function,names:=[],isGenerator:=false,isCoroutine:=false }
abbrev CX0:CXT:=fun _ _ _ _ _ _=>False
abbrev E0:XK:=fun _ _ _=>False
theorem pass0 {X:Cx}:Passes CX0 X E0:=fun _ _ _ _ _ _ _ h=>h.elim
structure Fun (K:PySem.W.Frag) (x qual:Str) (st:Stmt) (f:Addr) (fd:FuncData):Prop where
 ex:∃ (oc:Value) (od:Option Addr) (kV doc pm:Value) (an:Option Addr) (cdv ct:Value) (osl:Array (Option Value)),
  fd = PySem.W.fnOf x qual (defArgs st) (defBody st) (defScope st) .none kV doc pm an cdv ct/\K.lookup f = some ⟨oc,od,.func fd,osl⟩/\PySem.W.codeIn K cdv qual = true
 kp:PySem.W.keepIn K (.ref f) = true
section
variable {P:Program} {w:World} {K:PySem.W.Frag} {mg:Str->Option Value} {base:Heap}
theorem Fun.ok {x qual:Str} {st:Stmt} {f:Addr} {fd:FuncData} {N ps:List Str} {k:Nat} {sp:Sp} (F:Fun K x qual st f fd) (S:FnScope N ps (defScope st)) (len:∀ vs H Q E,sp vs H Q E->vs.length = ps.length)
  (hbody:∀ (cdv:Value) (A:Around) (outer:List Env) (s:Shared) (H:Hp) (vs:List V) (Q:VK) (E:XK),Room k (A.deeper (envOfC qual (defScope st) s.heap.objs.size f cdv))->sp vs H Q E->
   ∃ t,PSs (cxOf CX0 P w K mg base N qual (defScope st) f cdv A outer s H E).nox (defBody st) t/\t { nx:=fun _ H'=>Q .non H',rt:=Q } (start N vs) H):FnOk P w K mg base CX0 (k + 1) f fd ps sp:=by
 obtain ⟨oc,od,kV,doc,pm,an,cdv,ct,osl,rfl,lk,hcd⟩:=F.ex
 refine fn_of lk hcd S len fun A outer s H vs Q E hr hsp=>?_
 obtain ⟨t,h,q⟩:=hbody cdv A outer s H vs Q E hr hsp
 exact ⟨t,h.nox,q⟩
theorem Fun.binds {x qual:Str} {st:Stmt} {f:Addr} {fd:FuncData} {ps:List Str} (F:Fun K x qual st f fd)
  (h:∀ (kV doc pm:Value) (an:Option Addr) (cdv ct:Value) (us:List Value),us.length = ps.length->bindArgs (PySem.W.fnOf x qual (defArgs st) (defBody st) (defScope st) .none kV doc pm an cdv ct) ⟨us,[]⟩ = pure (ps.zip us)):Binds K fd ps []:=by
 obtain ⟨oc,od,kV,doc,pm,an,cdv,ct,osl,rfl,lk,hcd⟩:=F.ex
 exact .all (h kV doc pm an cdv ct)
theorem fun_mk {x qual:Str} {st:Stmt} {f:Addr} {oc:Value} {od an:Option Addr} {osl:Array (Option Value)} {kV doc pm cdv ct:Value} (l:K.lookup f = some ⟨oc,od,.func (PySem.W.fnOf x qual (defArgs st) (defBody st) (defScope st) .none kV doc pm an cdv ct),osl⟩)
  (c:PySem.W.codeIn K cdv qual = true) (k:PySem.W.keepIn K (.ref f) = true):Fun K x qual st f (PySem.W.fnOf x qual (defArgs st) (defBody st) (defScope st) .none kV doc pm an cdv ct):=⟨⟨oc,od,kV,doc,pm,an,cdv,ct,osl,rfl,l,c⟩,k⟩
end
theorem hu_of {A:Around} {k:Nat} (hr:Room k A):A.units + 1 < cLine:=Nat.lt_of_le_of_lt (Nat.add_le_add_left (by decide : 1<=64) _) hr.units
theorem small1000 {n:Nat} (h:n<=1000):n < sizeLine:=Nat.lt_of_le_of_lt h (by decide)
section
variable {X:Cx}
theorem pv (i:Nat) {x:Str} {pos:Pos} (hN:X.N[i]? = some x:=by rfl) (hv:Vis X.env.scope x:=by first | exact Or.inl rfl | exact Or.inr (Or.inl rfl) | exact Or.inr (Or.inr rfl)) (hd:(x == ("__debug__" : Str)) = false:=by decide)
  (hcd:(x == ("__classdict__" : Str)) = false:=by decide):PE X (.Name x pos) (tVar i):=pe_var hN hv hd hcd
end
theorem iteF {A B:Prop} (h:B):if false = true then A else B:=by
 rw [if_neg Bool.false_ne_true]
 exact h
theorem iteT {A B:Prop} (h:A):if true = true then A else B:=by
 rw [if_pos rfl]
 exact h
theorem ite2 {c A B:Prop} [Decidable c] (h1:c->A) (h2:¬ c->B):if c then A else B:=by
 by_cases h:c
 ·rw [if_pos h]
  exact h1 h
 ·rw [if_neg h]
  exact h2 h
def Same (H H':Hp):Prop:=∀ b o,H b = some o->H' b = some o
theorem Same.refl (H:Hp):Same H H:=fun _ _ h=>h
theorem Same.trans {H H1 H2:Hp} (a:Same H H1) (b:Same H1 H2):Same H H2:=fun c o h=>b c o (a c o h)
theorem Same.free {H H':Hp} (e:Same H H') {l:Addr} (h:H' l = Option.none):H l = Option.none:=by
 cases q:H l with
 | none=>rfl
 | some o=>
  rw [e l o q] at h
  cases h
theorem Same.seq {K:PySem.W.Frag} {H H':Hp} {a:Addr} {xs:List V} (e:Same H H') (h:SqL K H a xs):SqL K H' a xs:=by
 rcases h with (h | ⟨o,h⟩) | h
 ·exact .inl (.inl (e _ _ h))
 ·exact .inl (.inr ⟨o,e _ _ h⟩)
 ·exact .inr h
section
variable {X:Cx}
end
section
variable {κ : Type} [DecidableEq κ]
end
def clB (env:Env) (fr:List Str):List (Str × Addr):=fr.map fun n=>(n,(env.cells.lookup n).getD 0)
theorem clB_look {env:Env}:∀ {fr:List Str} {x:Str} {c:Addr},(clB env fr).lookup x = some c->x ∈ fr/\c = (env.cells.lookup x).getD 0
 | [],x,c,h=>by simp [clB] at h
 | n :: r,x,c,h=>by
  have h':List.lookup x ((n,(env.cells.lookup n).getD 0) :: clB env r) = some c:=h
  rw [List.lookup_cons] at h'
  cases e:x == n with
  | true=>
   rw [e] at h'
   have e':x = n:=by simpa using e
   subst e'
   exact ⟨List.mem_cons_self,(Option.some.inj h').symm⟩
  | false=>
   rw [e] at h'
   obtain ⟨h1,h2⟩:=clB_look h'
   exact ⟨List.mem_cons_of_mem _ h1,h2⟩
theorem clB_in {env:Env}:∀ {fr:List Str} {x:Str},x ∈ fr->(clB env fr).lookup x = some ((env.cells.lookup x).getD 0)
 | n :: r,x,h=>by
  show List.lookup x ((n,(env.cells.lookup n).getD 0) :: clB env r) = _
  rw [List.lookup_cons]
  cases e:x == n with
  | true=>
   have e':x = n:=by simpa using e
   subst e'
   rfl
  | false=>
   rcases List.mem_cons.mp h with z | z
   ·subst z; simp at e
   ·exact clB_in z
theorem relabel_mem {env:Env}:∀ {names:List (Str × NameKind)} {x:Str} {k:NameKind},
  (names.map fun (n,k)=>if (k == NameKind.free && env.scope.kind == .function && env.kindOf n == some .cell) then (n,NameKind.cell) else (n,k)).lookup x = some k->
  ∃ k0,(x,k0) ∈ names/\(k = k0\/(k0 = .free/\k = .cell))
 | [],_,_,h=>by simp at h
 | (n,k0) :: r,x,k,h=>by
  have h':List.lookup x ((if (k0 == NameKind.free && env.scope.kind == .function && env.kindOf n == some .cell) = true then (n,NameKind.cell) else (n,k0)) ::
   (r.map fun (n,k)=>if (k == NameKind.free && env.scope.kind == .function && env.kindOf n == some .cell) then (n,NameKind.cell) else (n,k))) = some k:=h
  by_cases hc:(k0 == NameKind.free && env.scope.kind == .function && env.kindOf n == some .cell) = true
  ·rw [if_pos hc,List.lookup_cons] at h'
   cases e:x == n with
   | true=>
    rw [e] at h'
    have e':x = n:=by simpa using e
    subst e'
    simp only [Bool.and_eq_true] at hc
    exact ⟨k0,List.mem_cons_self,.inr ⟨by simpa using hc.1.1,(Option.some.inj h').symm⟩⟩
   | false=>
    rw [e] at h'
    obtain ⟨k1,h1,h2⟩:=relabel_mem h'
    exact ⟨k1,List.mem_cons_of_mem _ h1,h2⟩
  ·rw [if_neg hc,List.lookup_cons] at h'
   cases e:x == n with
   | true=>
    rw [e] at h'
    have e':x = n:=by simpa using e
    subst e'
    exact ⟨k0,List.mem_cons_self,.inl (Option.some.inj h').symm⟩
   | false=>
    rw [e] at h'
    obtain ⟨k1,h1,h2⟩:=relabel_mem h'
    exact ⟨k1,List.mem_cons_of_mem _ h1,h2⟩
theorem relabel_free {env:Env} (hk:env.scope.kind = .function):∀ {names:List (Str × NameKind)} {x:Str},names.lookup x = some .free->env.kindOf x = some .cell->
  (names.map fun (n,k)=>if (k == NameKind.free && env.scope.kind == .function && env.kindOf n == some .cell) then (n,NameKind.cell) else (n,k)).lookup x = some .cell
 | [],_,h,_=>by simp at h
 | (n,k0) :: r,x,h,hx=>by
  show List.lookup x ((if (k0 == NameKind.free && env.scope.kind == .function && env.kindOf n == some .cell) = true then (n,NameKind.cell) else (n,k0)) ::
   (r.map fun (n,k)=>if (k == NameKind.free && env.scope.kind == .function && env.kindOf n == some .cell) then (n,NameKind.cell) else (n,k))) = some .cell
  rw [List.lookup_cons] at h
  cases e:x == n with
  | true=>
   rw [e] at h
   have e':x = n:=by simpa using e
   subst e'
   have h0:k0 = .free:=Option.some.inj h
   subst h0
   rw [if_pos (by rw [hk,hx]; decide),List.lookup_cons]
   simp
  | false=>
   rw [e] at h
   have ih:=relabel_free hk h hx
   split
   ·rw [List.lookup_cons,e]; exact ih
   ·rw [List.lookup_cons,e]; exact ih
abbrev compCx (X:Cx) (pins:List (Addr × Obj)) (sc:Scope) (fr Nc:List Str) (fp:List Addr) (s:Shared) (H:Hp) (C:Addr):Cx:=
 { prog:=X.prog,w:=X.w,K:=X.K,mg:=X.mg,base:=X.base,A:=X.A,N:=Nc,s₀:=s,H₀:=H,env:=compEnvC sc (clB X.env fr) C X.env,outer:=X.stack,stack:=X.stack,ex:=fp,fn:=fun _=>false,calm:=X.calm,pn:=X.pn ++ pins,xe:=fun _ _=>False }
structure BlockOk (env:Env) (sc:Scope) (fr:List Str):Prop where
 kind:sc.kind = .function
 clos:closureFor sc env = pure (clB env fr)
 cells:(fr.all fun n=>(env.cells.lookup n).isSome) = true
 names:(sc.names.all fun y=>(y.2 != .cell) && (y.2 != .free || fr.contains y.1) && (y.2 != .local || sc.names.lookup y.1 == some .local)) = true
def capChk (N Nc:List Str) (caps:List (Option Nat)) (env:Env) (sc:Scope) (fr:List Str):Bool:=
 (Nc.zip caps).all fun p=>match p.2 with
  | none=>true
  | some j=>(N[j]? == some p.1) && (env.kindOf p.1 == some .cell) && (sc.names.lookup p.1 == some .free) && fr.contains p.1
def capS (caps:List (Option Nat)) (σ : St):St:=caps.map fun o=>match o with
 | none=>none
 | some j=>(σ[j]?).join
section
variable {X:Cx} {pins:List (Addr × Obj)} {σ : St} {H:Hp} {s:Shared} {sc:Scope} {fr Nc:List Str} {fp:List Addr} {C:Addr}
theorem BlockOk.sub {env:Env} (B:BlockOk env sc fr) {x:Str} {c:Addr} (h:(clB env fr).lookup x = some c):env.cells.lookup x = some c:=by
 obtain ⟨h1,h2⟩:=clB_look h
 have h3:=List.all_eq_true.mp B.cells x h1
 obtain ⟨d,hd⟩:=Option.isSome_iff_exists.mp h3
 rw [hd] at h2 |-
 rw [h2]; rfl
theorem BlockOk.free {env:Env} (B:BlockOk env sc fr) {x:Str} {k:NameKind} (h:(relabel sc env).names.lookup x = some k) (hk:k = .cell\/k = .free):x ∈ fr:=by
 obtain ⟨k0,h1,h2⟩:=relabel_mem h
 have h3:=List.all_eq_true.mp B.names _ h1
 simp only [Bool.and_eq_true,Bool.or_eq_true,bne_iff_ne,ne_eq,List.contains_iff_mem] at h3
 have h4:k0 = .free:=by
  rcases h2 with h2 | ⟨h2,_⟩
  ·subst h2
   rcases hk with z | z
   ·exact absurd z h3.1.1
   ·exact z
  ·exact h2
 rcases h3.1.2 with z | z
 ·exact absurd h4 z
 ·exact z
theorem comp_ok (I:Inv X pins σ H s) (B:BlockOk X.env sc fr) (hf:∀ b ∈ fp,FpOk X pins H b) (ho:∀ b ∈ fp,∃ o,s.heap.get? b = some o) (hC:s.heap.objs.size<=C):(compCx X pins sc fr Nc fp s H C).Ok where
 mod:=I.ok.mod
 kind:=B.kind
 glob:=I.ok.glob
 blt:=I.ok.blt
 above:=hC
 inj:=fun x y c h1 h2=>I.ok.inj x y c (B.sub h1) (B.sub h2)
 has:=fun x h=>by
  have hx:x ∈ fr:=by
   rcases h with h | h
   ·exact B.free h (.inl rfl)
   ·exact B.free h (.inr rfl)
  exact ⟨_,clB_in hx⟩
 cab:=fun x c h=>absurd h (by simp)
 hd:=I.ok.hd
 frames:=I.ok.frames
 stk:=.inl rfl
 exf:=fun b hb=>by
  obtain ⟨o,e⟩:=ho b hb
  refine ⟨fun z=>?_,fun x c h=>(hf b hb).2.2.2.2.1 x c (B.sub h)⟩
  have z':b = C:=z
  have:=Heap.lt_size e
  rw [z'] at this
  exact absurd (Nat.lt_of_lt_of_le this hC) (Nat.lt_irrefl _)
 bs:=I.bs
 bsz:=Nat.le_trans I.ok.bsz I.sz
 noex:=fun b o e hb=>by
  rcases (hf b hb).2.2.2.1 with z | z
  ·exact I.ok.noex b o e z
  ·exact absurd (Nat.lt_of_lt_of_le (Heap.lt_size (I.ok.bs b o e).1) z) (Nat.lt_irrefl _)
 exfs:=fun b hb h=>by
  rcases List.mem_cons.mp (I.stkSub b h) with z | z
  ·exact (hf b hb).2.1 z
  ·exact (hf b hb).2.2.1 z
 funs:=I.stack
 frf:=I.stkFree
theorem Inv.pin_lt (I:Inv X pins σ H s) {p:Addr × Obj} (hp:p ∈ X.pn ++ pins):p.1 < s.heap.objs.size:=Heap.lt_size (I.pin p hp).1
theorem comp_start {caps:List (Option Nat)} {h':Heap} {D:Addr} {m:Str->Option Value} {t' n0:Nat} (I:Inv X pins σ H s) (B:BlockOk X.env sc fr) (hf:∀ b ∈ fp,FpOk X pins H b) (ho:∀ b ∈ fp,∃ o,s.heap.get? b = some o)
  (hC:s.heap.objs.size<=C) (hD:s.heap.objs.size<=D) (hDC:D ≠ C) (keep:∀ b o,s.heap.get? b = some o->h'.get? b = some o) (hl:h'.get? D = some { cls:=.type "list",data:=.seq ([]:List Value).toArray n0 }) (hn:h'.Ns C m)
  (hcap:capChk X.N Nc caps X.env sc fr = true) (hlen:caps.length = Nc.length) :
  Inv (compCx X pins sc fr Nc fp s H C) [] (capS caps σ) (upd H D (.lst [])) { s with heap:=h',toks:=t' }:=by
 have hk:X.env.scope.kind = .function:=I.ok.kind
 have fresh:∀ a,s.heap.objs.size<=a->H a = none:=fun a ha=>I.hok.fresh ha
 refine ⟨comp_ok I B hf ho hC,rfl,I.bare,Un.laid keep hD (fresh D hD),⟨m,hn,fun i x v e1 e2 e3=>?_⟩,fun x c h=>?_,?_,fun x c h=>?_,fun p hp=>?_,?_,?_⟩
 ·
  have e2':(caps[i]?).map (fun o=>match o with | none=>none | some j=>(σ[j]?).join) = some (some v):=by
   have:(capS caps σ)[i]? = some (some v):=e2
   unfold capS at this
   rw [List.getElem?_map] at this
   exact this
  cases hc:caps[i]? with
  | none=>rw [hc] at e2'; cases e2'
  | some o=>
   rw [hc] at e2'
   cases o with
   | none=>simp at e2'
   | some j=>
    have e4:(σ[j]?).join = some v:=by simpa using e2'
    have e5 : σ[j]? = some (some v):=by
     cases q : σ[j]? with
     | none=>rw [q] at e4; cases e4
     | some w'=>rw [q] at e4; simp at e4; rw [e4]
    have e6:(Nc.zip caps)[i]? = some (x,some j):=by
     rw [List.getElem?_zip_eq_some]
     exact ⟨e1,hc⟩
    have e7:=List.all_eq_true.mp hcap _ (List.mem_of_getElem? e6)
    simp only [Bool.and_eq_true,beq_iff_eq,List.contains_iff_mem] at e7
    obtain ⟨⟨⟨a1,a2⟩,a3⟩,a4⟩:=e7
    obtain ⟨m0,hn0,hl0⟩:=I.loc
    obtain ⟨u,r,l⟩:=hl0 j x v a1 e5 (.inr (.inl a2))
    refine ⟨u,r,.inr ⟨.inl (relabel_free hk a3 a2),_,clB_in a4,?_⟩⟩
    rcases l with ⟨z,_⟩ | ⟨_,c,ec,hcell⟩
    ·rw [a2] at z; cases z
    ·have:(X.env.cells.lookup x).getD 0 = c:=by rw [ec]; rfl
     rw [this]
     exact hcell.keeps keep
 ·obtain ⟨v,hv⟩:=I.cell x c (B.sub h)
  exact ⟨v,hv.keeps keep⟩
 ·show upd H D (.lst []) C = none
  rw [upd_ne (Ne.symm hDC)]; exact fresh C hC
 ·obtain ⟨v,hv⟩:=I.cell x c (B.sub h)
  have:c ≠ D:=fun z=>by have:=hv.lt; rw [z] at this; exact absurd (Nat.lt_of_lt_of_le this hD) (Nat.lt_irrefl _)
  rw [upd_ne this]; exact I.freeC x c (B.sub h)
 ·have hp':p ∈ X.pn ++ pins:=by simpa using hp
  obtain ⟨e,n,ne,nf,d⟩:=I.pin p hp'
  have hlt:=I.pin_lt hp'
  refine ⟨keep _ _ e,?_,?_,fun z=>?_,d⟩
  ·rw [upd_ne (fun z=>by rw [z] at hlt; exact absurd (Nat.lt_of_lt_of_le hlt hD) (Nat.lt_irrefl _))]; exact n
  ·intro z
   have z':p.1 = C:=z
   rw [z'] at hlt; exact absurd (Nat.lt_of_lt_of_le hlt hC) (Nat.lt_irrefl _)
  ·rcases List.mem_cons.mp (I.stkSub p.1 z) with q | q
   ·exact ne q
   ·exact nf q
 ·exact I.hok.laid keep hD ⟨Nat.zero_le _,[],n0,.nil,hl⟩
 ·show (capS caps σ).length = Nc.length
  unfold capS
  rw [List.length_map,hlen]
theorem comp_back {pl:List (Addr × Obj)} {σ':St} {H':Hp} {s':Shared} (I:Inv X pins σ H s) (hf:∀ b ∈ fp,FpOk X pins H b) (J:Inv (compCx X pins sc fr Nc fp s H C) pl σ' H' s'):Inv X pins σ H' s':=
 I.call' J.os J.base J.hok J.bare fun b hb=>⟨(hf b hb).2.2.2.1,(hf b hb).2.1,(hf b hb).2.2.2.2.1,(hf b hb).2.2.2.2.2⟩
theorem comp_gone {pl:List (Addr × Obj)} {σ' σ2:St} {H':Hp} {s':Shared} {h2:Heap} {t2:Nat} (I:Inv X pins σ H s) (J:Inv (compCx X pins sc fr Nc fp s H C) pl σ' H' s') (J2:Inv X pins σ2 H' s') (hs:Heap.SameBut C s'.heap h2):Inv X pins σ2 H' { s' with heap:=h2,toks:=t2 }:=by
 have hC:s.heap.objs.size<=C:=J.ok.above
 refine J2.turned (it:=C) (fun b o hb e=>(hs.2 b hb).trans e) J.free ?_ (.inr (Nat.le_trans I.sz hC)) (fun x c h z=>?_) fun p hp z=>?_
 ·intro z
  have:=I.lt
  rw [<- z] at this
  exact absurd (Nat.lt_of_lt_of_le this hC) (Nat.lt_irrefl _)
 ·obtain ⟨v,hv⟩:=I.cell x c h
  have:=hv.lt
  rw [z] at this
  exact absurd (Nat.lt_of_lt_of_le this hC) (Nat.lt_irrefl _)
 ·have:=I.pin_lt hp
  rw [z] at this
  exact absurd (Nat.lt_of_lt_of_le this hC) (Nat.lt_irrefl _)
end
def tTrue:TT:=fun _ H Q=>Q true H
structure PIf (X:Cx) (ifs:List Expr) (t:TT):Prop where
 run:∀ (pins:List (Addr × Obj)) (s:Shared) (σ : St) (H:Hp) (Q:Bool->Hp->Prop),Inv X pins σ H s->t σ H Q->
  wpAny (model X.prog X.w) X.A (forIn ifs true fun c r=>if r = true then do let ok <- isTrue c X.env (eval c X.env); pure (ForInStep.yield ok) else pure (ForInStep.yield r)) (TP X pins σ Q) X.xe s
instance {X:Cx} {ifs:List Expr} {t:TT}:CoeFun (PIf X ifs t) (fun _=>∀ (pins:List (Addr × Obj)) (s:Shared) (σ : St) (H:Hp) (Q:Bool->Hp->Prop),Inv X pins σ H s->t σ H Q->
  wpAny (model X.prog X.w) X.A (forIn ifs true fun c r=>if r = true then do let ok <- isTrue c X.env (eval c X.env); pure (ForInStep.yield ok) else pure (ForInStep.yield r)) (TP X pins σ Q) X.xe s):=⟨PIf.run⟩
theorem pif_nil {X:Cx}:PIf X [] tTrue:=⟨fun _ _ _ H _ I h=>wpAny_tests_nil ⟨H,I,h⟩⟩
theorem pif_one {X:Cx} {c:Expr} {t:TT} (hc:PT X c t):PIf X [c] t:=⟨fun pins s σ H Q I h=>wpAny_tests_one (hc pins s σ H Q I h)⟩
def GOwn (g:TG) (ow:List Nat):Prop:=
 ∀ (v:V) (σ : St) (H:Hp) (Q:St->Hp->Prop),g v σ H Q->g v σ H fun σ2 H2=>Q σ2 H2/\σ2.length = σ.length/\∀ i,i ∉ ow->σ2[i]? = σ[i]?
theorem gown_name (i:Nat):GOwn (gName i) [i]:=fun v σ H Q h=>⟨h,List.length_set ..,fun j hj=>List.getElem?_set_ne (fun e=>hj (by simp [e]))⟩
theorem gown_tup2 {K:PySem.W.Frag} {n:Nat} (i j:Nat):GOwn (gTup K n (gCons (gName i) (gCons (gName j) gNil))) [i,j]:=by
 rintro v σ H Q ⟨a,xs,e1,e2,e3,v1,r1,e4,v2,r2,e5,e6,q⟩
 refine ⟨a,xs,e1,e2,e3,v1,r1,e4,v2,r2,e5,e6,q,by rw [List.length_set,List.length_set],fun k hk=>?_⟩
 have h1:i ≠ k:=fun e=>hk (by simp [e])
 have h2:j ≠ k:=fun e=>hk (by simp [e])
 rw [List.getElem?_set_ne h2,List.getElem?_set_ne h1]
section
variable {prog:Program} {w:World} {A:Around} {R:Result->Shared->Prop} {s:Shared}
theorem compLoop_any {elt target iter:Expr} {ifs:List Expr} {scope:Scope} {pos:Pos} {it acc:Value} {env:Env} (I:Nat->Shared->Prop)
  (turn:∀ n s,I n s->wpAny (model prog w) A (pyNext it) (fun r s₁=>match r with
   | none=>R (.ok .next) s₁
   | some v=>wpAny (model prog w) A (letOwnedTupleGo target it v) (fun _ s₀=>wpAny (model prog w) A (assign target env v) (fun _ s₂=>
     wpAny (model prog w) A (forIn ifs true fun c r=>if r = true then do let ok <- isTrue c env (eval c env); pure (ForInStep.yield ok) else pure (ForInStep.yield r)) (fun ok s₃=>
      if ok = true then wpAny (model prog w) A (eval elt env) (fun x s₄=>
       wpAny (model prog w) A (call (.builtin "list.append") [acc,x]) (fun _ s₅=>∃ m,m < n/\I m s₅) (fun _ _=>False) s₄) (fun _ _=>False) s₃
      else ∃ m,m < n/\I m s₃) (fun _ _=>False) s₂) (fun _ _=>False) s₀) (fun _ _=>False) s₁) (fun _ _=>False) s)
  (n:Nat) (h:I n s) :
  codeAny (model prog w) A (.compLoop (.ListComp elt [⟨target,iter,ifs,0⟩] scope pos) 0 it acc env) R s:=by
 refine codeAny_loop rfl I (fun n s hI=>?_) n h
 show wpAny _ A ((compTurn (.ListComp elt [⟨target,iter,ifs,0⟩] scope pos) 0 it acc env).onRaise (fun x=>do noteFrame x env; theTreesLotGoes x)) _ _ s
 refine wpAny_noted ?_
 rw [compTurn_list]
 refine wpAny_bind (wpAny_standAt (wpAny_bind (wpAny_mono (turn n s hI) (fun r s₁ h₁=>?_) fun _ _ z=>z.elim)))
 cases r with
 | none=>exact wpAny_pure h₁
 | some v=>
  refine wpAny_bind (wpAny_mono h₁ (fun _ s₀ h₀=>?_) fun _ _ z=>z.elim)
  refine wpAny_bind (wpAny_mono h₀ (fun _ s₂ h₂=>wpAny_bind (wpAny_mono h₂ (fun ok s₃ h₃=>?_) fun _ _ z=>z.elim)) fun _ _ z=>z.elim)
  cases ok with
  | false=>exact wpAny_pure ⟨rfl,h₃⟩
  | true=>
   exact wpAny_bind (wpAny_bind (wpAny_mono h₃ (fun x s₄ h₄=>wpAny_bind (wpAny_mono h₄ (fun _ s₅ h₅=>wpAny_pure (wpAny_pure ⟨rfl,h₅⟩)) fun _ _ z=>z.elim)) fun _ _ z=>z.elim))
end
def LCr (J:It) (caps:List (Option Nat)) (g:TG) (tt:TT) (te:TE) (σ : St) (H1:Hp) (Q:VK) (D:Addr):Prop:=
 ∃ W:Nat->Nat->List V->Hp->Prop,(∃ m,W 0 m [] (upd H1 D (.lst [])))/\∀ i m ys H,W i m ys H->
  (J.stop i H/\Q (.ref D) H)\/
  (J.go i H/\∀ x H',J.yld i H x H'->g x (capS caps σ) H' fun σ2 H2=>tt σ2 H2 fun ok H3=>
   (ok = true->te σ2 H3 fun v H4=>H4 D = some (.lst ys)/\ys.length < sizeLine/\∃ m',m' < m/\W (i + 1) m' (ys ++ [v]) (upd H4 D (.lst (ys ++ [v]))))/\
   (ok = false->∃ m',m' < m/\W (i + 1) m' ys H3))
def tLC (wi:TI) (caps:List (Option Nat)) (g:TG) (tt:TT) (te:TE):TE:=fun σ H Q=>wi σ H fun J H1=>∀ D,H1 D = none->LCr J caps g tt te σ H1 Q D
section
variable {X:Cx} {pins:List (Addr × Obj)} {σ : St} {s:Shared} {sc:Scope} {fr Nc:List Str} {caps:List (Option Nat)} {elt tg iter:Expr} {ifs:List Expr} {g:TG} {tt:TT} {te:TE} {ow:List Nat} {pos pos2:Pos} {E:Value->Shared->Prop}
theorem comp_run {H2:Hp} {it:Addr} {fp:List Addr} {tn:Nat->Heap->Prop} {J:It} {Q:VK} {RR:Value->Addr->Result->Shared->Prop}
  (hc:X.calm = true) (B:BlockOk X.env sc fr) (go:GOwn g ow) (how:(ow.all fun i=>caps[i]? == some none) = true) (hcap:capChk X.N Nc caps X.env sc fr = true) (hlen:caps.length = Nc.length)
  (hb:∀ (pins:List (Addr × Obj)) (fp:List Addr) (s:Shared) (H:Hp) (C:Addr),PG (compCx X pins sc fr Nc fp s H C) tg g/\PIf (compCx X pins sc fr Nc fp s H C) ifs tt/\PE (compCx X pins sc fr Nc fp s H C) elt te)
  (I2:Inv X pins σ H2 s) (T:Turn X.prog X.w X.K tg J fp it tn) (st2:tn 0 s.heap) (f2:∀ b ∈ fp,FpOk X pins H2 b) (h:∀ D,H2 D = none->LCr J caps g tt te σ H2 Q D)
  (fin:∀ (D C:Addr) (σ':St) (H':Hp) (s':Shared),Inv (compCx X pins sc fr Nc fp s H2 C) [] σ' H' s'->Q (.ref D) H'->RR (.ref D) C (.ok .next) s') :
  wpAny (model X.prog X.w) X.A (newList []) (fun acc s₃=>wpAny (model X.prog X.w) X.A (newFunctionEnv sc X.env.globals (clB X.env fr) [] X.env.qual none .none (some X.env)) (fun cenv s₄=>
   codeAny (model X.prog X.w) X.A (.compStart (.ListComp elt [⟨tg,iter,ifs,0⟩] sc pos) 0 (.ref it) acc { cenv with scope:=relabel sc X.env }) (RR acc cenv.locals) s₄) E s₃) E s:=by
 have hcell:∀ y ∈ sc.names,y.2 ≠ .cell:=fun y hy=>by
  have h3:=List.all_eq_true.mp B.names _ hy
  simp only [Bool.and_eq_true,bne_iff_ne,ne_eq] at h3
  exact h3.1.1
 refine wpAny_newObj_type (wpAny_newFunctionEnv hcell (by intro y hy; simp at hy) (fun h₁ hns₁ hsb₁=>?_) B.kind)
 dsimp only at hns₁ hsb₁ |-
 generalize hH2:s.heap.push { cls:=.type "list",dict:=none,data:=.seq ([]:List Value).toArray } = H3 at hns₁ hsb₁ |-
 have hCs:H3.objs.size = s.heap.objs.size + 1:=by rw [<- hH2,Heap.size_push]
 have hDC:s.heap.objs.size ≠ H3.objs.size:=by rw [hCs]; exact Nat.ne_of_lt (Nat.lt_succ_self _)
 have hC:s.heap.objs.size<=H3.objs.size:=by rw [hCs]; exact Nat.le_succ _
 have old:∀ b o,s.heap.get? b = some o->h₁.get? b = some o:=fun b o e=>
  hsb₁.extBut b o (Nat.ne_of_lt (Nat.lt_of_lt_of_le (Heap.lt_size e) hC)) (Heap.get?_push_of_some _ (hH2 ▸ Heap.get?_push_of_some _ e))
 have hD:h₁.get? s.heap.objs.size = some { cls:=.type "list",data:=.seq ([]:List Value).toArray }:=hsb₁.extBut _ _ hDC (Heap.get?_push_of_some _ (hH2 ▸ Heap.get?_push_size _ rfl))
 have ho:∀ b ∈ fp,∃ o,s.heap.get? b = some o:=fun b hb'=>let ⟨o,e,_⟩:=T.obj 0 _ st2 b hb'; ⟨o,e⟩
 have I4:∀ t',Inv (compCx X pins sc fr Nc fp s H2 H3.objs.size) [] (capS caps σ) (upd H2 s.heap.objs.size (.lst [])) { s with heap:=h₁,toks:=t' }:=fun t'=>
  comp_start I2 B f2 ho hC (Nat.le_refl _) hDC old hD hns₁ hcap hlen
 have ok:=(I4 0).ok
 obtain ⟨hbg,hbt,hbe⟩:=hb pins fp s H2 H3.objs.size
 obtain ⟨W,⟨m0,w0⟩,turn⟩:=h s.heap.objs.size (I2.hok.fresh (Nat.le_refl _))
 have stat:∀ {H':Hp},(∀ b ∈ fp,H' b = none)->∀ b ∈ fp,FpOk (compCx X pins sc fr Nc fp s H2 H3.objs.size) [] H' b:=fun hn b hb'=>
  ⟨hn b hb',(ok.exf b hb').1,ok.exfs b hb',.inl hb',(ok.exf b hb').2,fun p hp=>(f2 b hb').2.2.2.2.2 p (by simpa using hp)⟩
 have hfp0:∀ b ∈ fp,upd H2 s.heap.objs.size (.lst []) b = none:=fun b hb'=>by
  obtain ⟨o,e⟩:=ho b hb'
  rw [upd_ne (Nat.ne_of_lt (Heap.lt_size e))]
  exact (f2 b hb').1
 have loop:∀ s₃:Shared,s₃ = { s with heap:=h₁,toks:=s.toks + ([]:List (Str × Value)).length }->
   codeAny (model X.prog X.w) X.A (.compLoop (.ListComp elt [⟨tg,iter,ifs,0⟩] sc pos) 0 (.ref it) (.ref s.heap.objs.size) (compEnvC sc (clB X.env fr) H3.objs.size X.env)) (RR (.ref s.heap.objs.size) H3.objs.size) s₃:=by
  rintro s₃ rfl
  refine compLoop_any (fun n s'=>∃ i σ' H' ys,Inv (compCx X pins sc fr Nc fp s H2 H3.objs.size) [] σ' H' s'/\tn i s'.heap/\(∀ b ∈ fp,H' b = none)/\W i n ys H'/\
   (∀ (k:Nat) (v:V),(capS caps σ)[k]? = some (some v)->σ'[k]? = some (some v))) ?_ m0
   ⟨0,_,_,[],I4 _,T.keep _ _ _ st2 (fun b _ o e=>old b o e),hfp0,w0,fun _ _ e=>e⟩
  rintro n s3 ⟨i,σ3,H4,ys,I3,st3,fr3,w3,wk3⟩
  have I3':Inv (compCx X pins sc fr Nc fp s H2 H3.objs.size) [] (capS caps σ) H4 s3:=I3.weak (by rw [I3.len]; exact (I4 0).len) wk3
  rcases turn i n ys H4 w3 with ⟨stop,qn⟩ | ⟨gg,step⟩
  ·refine thn (T.done (compCx X pins sc fr Nc fp s H2 H3.objs.size) rfl rfl rfl hc i [] s3 _ H4 (fun _ _=>False) I3' (stat fr3) st3 stop) fun r s4 ⟨hr,I4'⟩=>?_
   subst hr
   exact fin _ _ _ _ _ I4' qn
  ·refine thn (T.item (compCx X pins sc fr Nc fp s H2 H3.objs.size) rfl rfl rfl hc i [] s3 _ H4 (fun _ _=>False) I3' (stat fr3) st3 gg) fun r s4 ⟨u,hr,h4⟩=>?_
   subst hr
   refine thn h4 fun _ s5 ⟨x,H5,I5,r5,y5,st5,fr5⟩=>?_
   have I5':=I5.pinned (stat fr5) (T.obj _ _ st5)
   refine thn (hbg _ s5 _ H5 x u _ I5' r5 (go _ _ _ _ (step x H5 y5))) fun _ s6 ⟨σ6,H6,I6,q6,l6,k6⟩=>?_
   have wk6:∀ (k:Nat) (v:V),(capS caps σ)[k]? = some (some v)->σ6[k]? = some (some v):=fun k v e=>by
    rw [k6 k fun hk=>?_]
    ·exact e
    ·have h1:=List.all_eq_true.mp how k hk
     have h2:caps[k]? = some none:=by simpa using h1
     unfold capS at e
     rw [List.getElem?_map,h2] at e
     cases e
   refine thn (hbt _ s6 σ6 H6 _ I6 q6) fun ok s7 ⟨H7,I7,q7⟩=>?_
   have again:∀ {H8:Hp} {s8:Shared} {ys':List V},Inv (compCx X pins sc fr Nc fp s H2 H3.objs.size) ([] ++ pinsAt fp s5.heap) σ6 H8 s8->(∃ m',m' < n/\W (i + 1) m' ys' H8)->
     ∃ m,m < n/\∃ i σ' H' ys,Inv (compCx X pins sc fr Nc fp s H2 H3.objs.size) [] σ' H' s8/\tn i s8.heap/\(∀ b ∈ fp,H' b = none)/\W i m ys H'/\(∀ (k:Nat) (v:V),(capS caps σ)[k]? = some (some v)->σ'[k]? = some (some v)):=fun {H8 s8 ys'} I8 ⟨m',hm,w8⟩=>by
    refine ⟨m',hm,i + 1,σ6,H8,ys',I8.unpinned,T.keep _ _ _ st5 fun b hb' o e=>(I8.pin (b,o) (List.mem_append_right _ (List.mem_append_right _ (mem_pinsAt hb' e)))).1,fun b hb'=>?_,w8,wk6⟩
    obtain ⟨o,e,d⟩:=T.obj _ _ st5 b hb'
    exact (I8.pin (b,o) (List.mem_append_right _ (List.mem_append_right _ (mem_pinsAt hb' e)))).2.1
   cases ok with
   | false=>
    rw [if_neg Bool.false_ne_true]
    exact again I7 (q7.2 rfl)
   | true=>
    rw [if_pos rfl]
    refine thn (hbe _ s7 σ6 H7 _ I7 (q7.1 rfl)) fun uv s8 ⟨v,H8,I8,r8,hD8,hz,q8⟩=>?_
    refine thn (mt_append (X:=compCx X pins sc fr Nc fp s H2 H3.objs.size) _ s8 σ6 H8 (.ref s.heap.objs.size) [v] _ [uv] (fun _ H'=>H' = upd H8 s.heap.objs.size (.lst (ys ++ [v]))) I8 rfl (.cons r8 .nil) ⟨_,ys,v,rfl,rfl,hD8,hz,rfl⟩) fun _ s9 ⟨_,H9,I9,_,e9⟩=>?_
    subst e9
    exact again I9 q8
 exact codeAny_compStart_list (loop _ rfl) (T.self _ 0 _ _ _ (T.keep _ _ _ st2 (fun b _ o e=>old b o e)) (loop _ rfl))
theorem BlockOk.loc {env:Env} (B:BlockOk env sc fr):∀ x ∈ sc.names,x.2 = .local->sc.names.lookup x.1 = some .local:=fun y hy e=>by
 have h3:=List.all_eq_true.mp B.names _ hy
 simp only [Bool.and_eq_true,Bool.or_eq_true,bne_iff_ne,ne_eq,beq_iff_eq] at h3
 rcases h3.2 with z | z
 ·exact absurd e z
 ·exact z
theorem pe_lc {wi:TI} (fr Nc:List Str) (caps:List (Option Nat)) (hc:X.calm = true) (B:BlockOk X.env sc fr) (hi:PI X tg iter wi) (go:GOwn g ow) (how:(ow.all fun i=>caps[i]? == some none) = true)
  (hcap:capChk X.N Nc caps X.env sc fr = true) (hlen:caps.length = Nc.length)
  (hb:∀ (pins:List (Addr × Obj)) (fp:List Addr) (s:Shared) (H:Hp) (C:Addr),PG (compCx X pins sc fr Nc fp s H C) tg g/\PIf (compCx X pins sc fr Nc fp s H C) ifs tt/\PE (compCx X pins sc fr Nc fp s H C) elt te)
  (hs:∀ x,foldedSetIterable iter X.env x = pure x:=by intro _; rfl):PE X (.ListComp elt [⟨tg,iter,ifs,0⟩] sc pos) (tLC wi caps g tt te):=by
 refine ⟨?_⟩
 intro pins s σ H Q I h
 rw [eval_ListComp]
 refine wpAny_comprehension_free (use:=none) rfl hs B.clos B.kind B.loc (thn (hi pins s σ H _ I h) fun v s1 h1=>thn h1 fun itv s2 h2=>?_)
 obtain ⟨it,fp,tn,J,H2,e,I2,T,st2,f2,q⟩:=h2
 subst e
 refine comp_run (RR:=fun acc C=>compPost (model X.prog X.w) X.A X.xe none (EP X pins σ Q) acc C) hc B go how hcap hlen hb I2 T st2 f2 q ?_
 intro D C σ' H' s' J' qq
 obtain ⟨m,hn,_⟩:=J'.loc
 exact ⟨m,hn,fun h' hs'=>⟨.ref D,H',comp_gone I2 J' (comp_back I2 f2 J') hs',rfl,qq⟩⟩
theorem ps_lc {wi:TI} {i:Nat} {x:Str} {pos':Pos} (fr Nc:List Str) (caps:List (Option Nat)) (hN:X.N.Nodup) (hix:X.N[i]? = some x) (hx:Loc X.env.scope x) (hc:X.calm = true) (B:BlockOk X.env sc fr) (hi:PI X tg iter wi) (go:GOwn g ow) (how:(ow.all fun i=>caps[i]? == some none) = true)
  (hcap:capChk X.N Nc caps X.env sc fr = true) (hlen:caps.length = Nc.length)
  (hb:∀ (pins:List (Addr × Obj)) (fp:List Addr) (s:Shared) (H:Hp) (C:Addr),PG (compCx X pins sc fr Nc fp s H C) tg g/\PIf (compCx X pins sc fr Nc fp s H C) ifs tt/\PE (compCx X pins sc fr Nc fp s H C) elt te)
  (hsw:swapsWith (.ListComp elt [⟨tg,iter,ifs,0⟩] sc pos) (some (.Name x pos')) pos2.line X.env = pure true:=by rfl)
  (hs:∀ x,foldedSetIterable iter X.env x = pure x:=by intro _; rfl) (hf:X.fn x = true\/X.env.scope.names.lookup x = some .local:=by first | exact .inl rfl | exact .inr rfl | assumption) :
  PS X (.Assign [.Name x pos'] (.ListComp elt [⟨tg,iter,ifs,0⟩] sc pos) pos2) (tAsg (tLC wi caps g tt te) (gName i)):=by
 refine ⟨?_⟩
 intro pins s σ H D0 I h
 rw [exec_Assign_Name_used _ _ _ _ hsw]
 refine wpAny_bind (wpAny_standAt (wpAny_bind ?_))
 show wpAny _ X.A (do let _ <- comprehension (.ListComp elt [⟨tg,iter,ifs,0⟩] sc pos) sc X.env _ (newList []) false (eval iter X.env) (some (assign (.Name x pos') X.env))) _ _ s
 refine wpAny_bind (wpAny_mono (wpAny_comprehension_free (use:=some (assign (.Name x pos') X.env)) (Q:=fun _ s'=>SP X pins D0 .next s') rfl hs B.clos B.kind B.loc
  (thn (hi pins s σ H _ I h) fun v s1 h1=>thn h1 fun itv s2 h2=>?_)) (fun _ s' hq=>wpAny_pure (wpAny_pure hq)) fun _ _ e=>e)
 obtain ⟨it,fp,tn,J,H2,e,I2,T,st2,f2,q⟩:=h2
 subst e
 refine comp_run (Q:=fun v H1=>gName i v σ H1 D0.nx) (RR:=fun acc C=>compPost (model X.prog X.w) X.A X.xe (some (assign (.Name x pos') X.env)) (fun _ s'=>SP X pins D0 .next s') acc C) hc B go how hcap hlen hb I2 T st2 f2 q ?_
 intro D C σ' H' s' J' qq
 have I':=comp_back I2 f2 J'
 obtain ⟨m,hn,_⟩:=J'.loc
 have hC:s2.heap.objs.size<=C:=J'.ok.above
 show wpAny _ X.A (assign (.Name x pos') X.env (.ref D)) _ _ s'
 refine wpAny_assign_Name (store_ok2 (v:=.ref D) I' hN hix hx rfl (fun s'' I'' ⟨a,sb,ha⟩=>?_) hf)
 have haC:C ≠ a:=by
  rintro rfl
  rcases ha with z | z
  ·have:=I2.lt
   rw [<- z] at this
   exact absurd (Nat.lt_of_lt_of_le this hC) (Nat.lt_irrefl _)
  ·obtain ⟨v,hv⟩:=I2.cell x C z
   exact absurd (Nat.lt_of_lt_of_le hv.lt hC) (Nat.lt_irrefl _)
 have hCH:H' C = none:=J'.free
 refine ⟨m,hn.sameBut sb haC,fun h' hs'=>⟨_,H',?_,qq⟩⟩
 refine I''.turned (it:=C) (t':=s''.toks) (fun b o hb e=>(hs'.2 b hb).trans e) hCH ?_ (.inr (Nat.le_trans I2.sz hC)) (fun x c h z=>?_) fun p hp z=>?_
 ·intro z
  have:=I2.lt
  rw [<- z] at this
  exact absurd (Nat.lt_of_lt_of_le this hC) (Nat.lt_irrefl _)
 ·obtain ⟨v,hv⟩:=I2.cell x c h
  have:=hv.lt
  rw [z] at this
  exact absurd (Nat.lt_of_lt_of_le this hC) (Nat.lt_irrefl _)
 ·have:=I2.pin_lt hp
  rw [z] at this
  exact absurd (Nat.lt_of_lt_of_le this hC) (Nat.lt_irrefl _)
end
section
variable {X:Cx} {tg:Expr}
def rSlS:V->Option Int->Option Int->Hp->VK->Prop:=fun x lo hi H Q=>∃ z,x = .str z/\z.length<=sizeLine/\Q (.str (Txt.slice z lo hi)) H
theorem sl_str:SlR X rSlS:=by
 intro pins s σ H x v vl vu lo hi sl Q I rx hs pl pu h
 obtain ⟨z,rfl,hz,q⟩:=h
 obtain ⟨t,rfl⟩:=rx
 refine ⟨"str",_,F.slot_str_getitem.lookup,typeIs_str _ _ _,?_⟩
 have fin:∀ t' k,EP X pins σ Q (.str (Txt.slice z lo hi) t') { s with toks:=k }:=fun t' k=>⟨.str (Txt.slice z lo hi),H,I.tok k,⟨t',rfl⟩,q⟩
 cases pl with
 | none=>
  cases pu with
  | none=>exact wpAny_getItem_str_slice (l:=none) (u:=none) (st:=none) hs rfl (post_val_or_str ⟨Nat.le_trans (Txt.slice_le z _ _) hz,fin⟩)
  | int j tj=>exact wpAny_getItem_str_slice (l:=none) (u:=some (j,tj)) (st:=none) hs rfl (post_val_or_str ⟨Nat.le_trans (Txt.slice_le z _ _) hz,fin⟩)
 | int i ti=>
  cases pu with
  | none=>exact wpAny_getItem_str_slice (l:=some (i,ti)) (u:=none) (st:=none) hs rfl (post_val_or_str ⟨Nat.le_trans (Txt.slice_le z _ _) hz,fin⟩)
  | int j tj=>exact wpAny_getItem_str_slice (l:=some (i,ti)) (u:=some (j,tj)) (st:=none) hs rfl (post_val_or_str ⟨Nat.le_trans (Txt.slice_le z _ _) hz,fin⟩)
theorem call_isinst:CallR X (.builtin "isinstance") (fun xs H Q=>∃ x T t b,xs = [x,.ty T]/\TyOf X.K H x t/\PySem.W.kitOne X.K t (.type T) = some b/\Q (.bl b) H):=by
 intro pins s σ H xs us Q I r h
 obtain ⟨x,T,t,b,rfl,ty,e,q⟩:=h
 obtain ⟨u,w',rfl,ru,rw'⟩:=vals2 r
 cases rw'
 exact isinst_ok I ru ty e fun tk=>⟨.bl b,H,I.tok tk,rfl,q⟩
end
def isSt:Expr->Bool
 | .Starred ..=>true
 | _=>false
theorem star_cons {e:Expr} {es:List Expr} {env:Env} (h:isSt e = false):starEach (e :: es) env = (false,eval e env) :: starEach es env:=by
 cases e <;> first | rfl | cases h
theorem star_any {env:Env} {pos:Pos}:∀ {es:List Expr},es.any isSt = false->(backTo pos (starEach es env)).any (·.1) = false
 | [],_=>rfl
 | e :: es,h=>by
  rw [List.any_cons,Bool.or_eq_false_iff] at h
  rw [star_cons h.1]
  show (false || (backTo pos (starEach es env)).any (·.1)) = false
  rw [star_any h.2]
  rfl
section
variable {X:Cx} {CX:CXT} {k:Nat} {f C:Addr} {fd:FuncData} {ps:List Str} {sp:Sp} {dvs:List V} {ds:List Value} {E:XK} {x m:Str} {p pos apos:Pos} {e o:Expr} {es:List Expr} {te ta:TE} {t:TA} {id T:String} {r:List V->Hp->VK->Prop}
theorem ac (ha:PE X e te) (hr:PA X es t) (h:isSt e = false:=by rfl):PA X (e :: es) (tCons te t):=pa_cons ha hr (star_cons h)
theorem cB (hc:CallR X (.builtin id) r) (hm:X.mg x = none) (hv:bootBuiltins x = some (.builtin id)) (ha:PA X (e :: es) t) (hg:Gl X x:=by rfl) (hn:x ≠ "__name__":=by decide) (hdb:(x == ("__debug__" : Str)) = false:=by decide)
  (h1:isSt e = false:=by rfl) (h2:es.any isSt = false:=by rfl):PE X (.Call (.Name x p) (e :: es) [] pos) (tCB r t):=pe_callB hc hg hm hv ha hn hdb (star_cons h1) (star_any h2)
theorem cTy (hc:CallR X (.type T) r) (hm:X.mg x = none) (hv:bootBuiltins x = some (.type T)) (ha:PA X (e :: es) t) (hg:Gl X x:=by rfl) (hn:x ≠ "__name__":=by decide) (hdb:(x == ("__debug__" : Str)) = false:=by decide)
  (h1:isSt e = false:=by rfl) (h2:es.any isSt = false:=by rfl):PE X (.Call (.Name x p) (e :: es) [] pos) (tCB r t):=pe_callTy hc hg hm hv ha hn hdb (star_cons h1) (star_any h2)
structure Callee (P:Program) (w:World) (K:PySem.W.Frag) (mg:Str->Option Value) (base:Heap) (k:Nat) (x:Str) (f:Addr) (fd:FuncData) (ps:List Str) (sp:Sp):Prop where
 ok:FnOk P w K mg base CX0 k f fd ps sp
 mg:mg x = some (.ref f)
 kp:PySem.W.keepIn K (.ref f) = true
 bd:Binds K fd ps []
theorem cF (c:Callee X.prog X.w X.K X.mg X.base k x f fd ps sp) (hr:Room k X.A) (ha:PA X (e :: es) t) (hg:Gl X x:=by rfl) (hdb:(x == ("__debug__" : Str)) = false:=by decide)
  (h1:isSt e = false:=by rfl) (h2:es.any isSt = false:=by rfl):PE X (.Call (.Name x p) (e :: es) [] pos) (tCall sp [] E0 t):=
 pe_call c.ok hr hg c.mg c.kp c.bd .nil pass0 ha hdb (star_cons h1) (star_any h2)
end
end L2
namespace L2
open PySem PyProof.Rows
theorem kt_int_bool (K:PySem.W.Frag):PySem.W.kitOne K (.type "int") (.type "bool") = some false:=by kernel_rfl
theorem kt_int_int (K:PySem.W.Frag):PySem.W.kitOne K (.type "int") (.type "int") = some true:=by kernel_rfl
theorem kt_list_list (K:PySem.W.Frag):PySem.W.kitOne K (.type "list") (.type "list") = some true:=by kernel_rfl
theorem kt_tuple_tuple (K:PySem.W.Frag):PySem.W.kitOne K (.type "tuple") (.type "tuple") = some true:=by kernel_rfl
end L2
namespace L2
open PySem PySem.Spec PyProof.Rows
inductive Dt where
 | non | bl (b:Bool) | int (i:Int) | str (z:Str) | tup (ds:List Dt) | lst (ds:List Dt)
def FlatD:V->Dt->Prop
 | .non,.non=>True
 | .bl a,.bl b=>a = b
 | .int a,.int b=>a = b
 | .str a,.str b=>a = b
 | _,_=>False
def Says (K:PySem.W.Frag) (ok:Addr->Prop) (H:Hp):Nat->V->Dt->Prop
 | 0,x,d=>FlatD x d
 | n + 1,x,d=>FlatD x d\/(∃ a xs ds,x = .ref a/\d = .tup ds/\SqT K H a xs/\Paired (Says K ok H n) xs ds)\/(∃ a xs ds,x = .ref a/\d = .lst ds/\ok a/\H a = some (.lst xs)/\Paired (Says K ok H n) xs ds)
section
variable {K:PySem.W.Frag} {ok ok':Addr->Prop} {H H':Hp}
theorem Says.flat {n:Nat} {x:V} {d:Dt} (h:FlatD x d):Says K ok H n x d:=by
 cases n with
 | zero=>exact h
 | succ n=>exact .inl h
theorem Says.int {n:Nat} {i:Int}:Says K ok H n (.int i) (.int i):=.flat rfl
theorem Says.str {n:Nat} {z:Str}:Says K ok H n (.str z) (.str z):=.flat rfl
theorem Says.tup {n:Nat} {a:Addr} {xs:List V} {ds:List Dt} (h:SqT K H a xs) (r:Paired (Says K ok H n) xs ds):Says K ok H (n + 1) (.ref a) (.tup ds):=.inr (.inl ⟨a,xs,ds,rfl,rfl,h,r⟩)
theorem Says.lst {n:Nat} {a:Addr} {xs:List V} {ds:List Dt} (o:ok a) (h:H a = some (.lst xs)) (r:Paired (Says K ok H n) xs ds):Says K ok H (n + 1) (.ref a) (.lst ds):=.inr (.inr ⟨a,xs,ds,rfl,rfl,o,h,r⟩)
theorem Says.frame (hT:∀ a xs,SqT K H a xs->SqT K H' a xs) (hL:∀ a xs,ok a->H a = some (.lst xs)->ok' a/\H' a = some (.lst xs)):∀ {n:Nat} {x:V} {d:Dt},Says K ok H n x d->Says K ok' H' n x d
 | 0,_,_,h=>h
 | n + 1,x,d,h=>by
  rcases h with h | ⟨a,xs,ds,e1,e2,h,r⟩ | ⟨a,xs,ds,e1,e2,o,h,r⟩
  ·exact .inl h
  ·exact .inr (.inl ⟨a,xs,ds,e1,e2,hT a xs h,Paired.imp' (fun _ _ z=>Says.frame hT hL z) r⟩)
  ·exact .inr (.inr ⟨a,xs,ds,e1,e2,(hL a xs o h).1,(hL a xs o h).2,Paired.imp' (fun _ _ z=>Says.frame hT hL z) r⟩)
theorem Same.sqT {a:Addr} {xs:List V} (e:Same H H') (h:SqT K H a xs):SqT K H' a xs:=by
 rcases h with (h | ⟨o,h⟩) | h
 ·exact .inl (.inl (e _ _ h))
 ·exact .inl (.inr ⟨o,e _ _ h⟩)
 ·exact .inr h
theorem Says.same {n:Nat} {x:V} {d:Dt} (e:Same H H') (h:Says K ok H n x d):Says K ok H' n x d:=h.frame (fun _ _ z=>e.sqT z) fun _ _ o z=>⟨o,e _ _ z⟩
theorem Paired.get {α β : Type} {F : α->β->Prop}:∀ {l₁:List α} {l₂:List β} {i:Nat} {a : α},Paired F l₁ l₂->l₁[i]? = some a->∃ b,l₂[i]? = some b/\F a b
 | _,_,_,_,.nil,e=>by simp at e
 | _,_,0,_,.cons r _,e=>by simp at e; subst e; exact ⟨_,rfl,r⟩
 | _,_,i + 1,a,.cons _ t,e=>by
  obtain ⟨b,h1,h2⟩:=Paired.get (i:=i) (a:=a) t (by simpa using e)
  exact ⟨b,by simpa using h1,h2⟩
end
section
variable {X:Cx} {pins:List (Addr × Obj)} {σ : St} {H:Hp} {s:Shared} {ok ok':Addr->Prop}
theorem flat_same {A:Around} {x y:V} {d:Dt} {u v:Value} (hx:FlatD x d) (hy:FlatD y d) (ru:RelV x u) (rv:RelV y v):SeqAt.EqAt A s u v true:=by
 cases d with
 | non=>
  cases x <;> try exact hx.elim
  cases y <;> try exact hy.elim
  cases ru; cases rv; exact SeqAt.EqAt.same _
 | bl b=>
  cases x <;> try exact hx.elim
  cases y <;> try exact hy.elim
  rename_i a c
  obtain rfl:a = b:=hx
  obtain rfl:c = a:=hy
  cases ru; cases rv; exact SeqAt.EqAt.same _
 | int b=>
  cases x <;> try exact hx.elim
  cases y <;> try exact hy.elim
  rename_i a c
  obtain rfl:a = b:=hx
  obtain rfl:c = a:=hy
  obtain ⟨t,rfl⟩:=ru
  obtain ⟨t',rfl⟩:=rv
  have:=SeqAt.EqAt.int_int (A:=A) (s:=s) c t c t'
  simpa using this
 | str b=>
  cases x <;> try exact hx.elim
  cases y <;> try exact hy.elim
  rename_i a c
  obtain rfl:a = b:=hx
  obtain rfl:c = a:=hy
  obtain ⟨t,rfl⟩:=ru
  obtain ⟨t',rfl⟩:=rv
  have:=SeqAt.EqAt.str_str (A:=A) (s:=s) c t c t'
  simpa using this
 | tup ds=>cases x <;> exact hx.elim
 | lst ds=>cases x <;> exact hx.elim
theorem flat_ref {a:Addr} {d:Dt} (h:FlatD (.ref a) d):False:=by cases d <;> exact h
theorem all_true (n:Nat):((List.range n).all fun _=>true) = true:=by rw [List.all_eq_true]; intro _ _; rfl
theorem eqAt_same (I:Inv X pins σ H s):∀ (n:Nat) {A:Around} {x y:V} {d:Dt} {u v:Value},Says X.K ok H n x d->Says X.K ok' H n y d->RelV x u->RelV y v->A.units + n < cLine->SeqAt.EqAt A s u v true
 | 0,A,x,y,d,u,v,hx,hy,ru,rv,_=>flat_same hx hy ru rv
 | n + 1,A,x,y,d,u,v,hx,hy,ru,rv,hu=>by
  have hin:A.in1.units + n < cLine:=by show A.units + 1 + n < cLine; omega
  rcases hx with hx | ⟨a,xs,ds,rfl,rfl,hx,r⟩ | ⟨a,xs,ds,rfl,rfl,_,hx,r⟩
  ·rcases hy with hy | ⟨b,ys,es,rfl,rfl,hy,q⟩ | ⟨b,ys,es,rfl,rfl,_,hy,q⟩
   ·exact flat_same hx hy ru rv
   ·cases x <;> exact hx.elim
   ·cases x <;> exact hx.elim
  ·rcases hy with hy | ⟨b,ys,es,rfl,e2,hy,q⟩ | ⟨b,ys,es,rfl,e2,_,hy,q⟩
   ·cases y <;> exact hy.elim
   ·cases e2
    cases ru; cases rv
    by_cases hab:a = b
    ·subst hab; exact SeqAt.EqAt.same _
    ·obtain ⟨ia,va,pa,_⟩:=I.tuple hx
     obtain ⟨ib,vb,pb,_⟩:=I.tuple hy
     have la:ia.length = ds.length:=by rw [<- va.length,r.length]
     have lb:ib.length = ds.length:=by rw [<- vb.length,q.length]
     have:=SeqAt.RcAt.tuples (A:=A) (s:=s) (e:=fun _=>true) (show s.heap.IsTuple a ia.toArray from pa) (show s.heap.IsTuple b ib.toArray from pb) (by omega) (fun j h1 h2=>by
      have j1:j < ia.length:=by simpa using h1
      have j2:j < ib.length:=by simpa using h2
      have hxl:j < xs.length:=by rw [va.length]; exact j1
      have hyl:j < ys.length:=by rw [vb.length]; exact j2
      obtain ⟨u',e1,e2⟩:=va.get (i:=j) (List.getElem?_eq_getElem hxl)
      obtain ⟨v',e3,e4⟩:=vb.get (i:=j) (List.getElem?_eq_getElem hyl)
      obtain ⟨d1,f1,f2⟩:=Paired.get r (List.getElem?_eq_getElem hxl)
      obtain ⟨d2,f3,f4⟩:=Paired.get q (List.getElem?_eq_getElem hyl)
      rw [f1] at f3
      cases f3
      rw [List.getElem?_eq_getElem j1] at e1
      rw [List.getElem?_eq_getElem j2] at e3
      cases e1; cases e3
      simpa using eqAt_same I n f2 f4 e2 e4 hin)
     rw [all_true] at this
     have z:(ia.toArray.size == ib.toArray.size) = true:=by simp [la,lb]
     rw [z] at this
     exact SeqAt.EqAt.of_refs hab this
   ·cases e2
  ·rcases hy with hy | ⟨b,ys,es,rfl,e2,hy,q⟩ | ⟨b,ys,es,rfl,e2,_,hy,q⟩
   ·cases y <;> exact hy.elim
   ·cases e2
   ·cases e2
    cases ru; cases rv
    by_cases hab:a = b
    ·subst hab; exact SeqAt.EqAt.same _
    ·obtain ⟨ia,va,pa,_⟩:=I.list (SqL.of hx)
     obtain ⟨ib,vb,pb,_⟩:=I.list (SqL.of hy)
     have la:ia.length = ds.length:=by rw [<- va.length,r.length]
     have lb:ib.length = ds.length:=by rw [<- vb.length,q.length]
     have:=SeqAt.RcAt.lists (A:=A) (s:=s) (e:=fun _=>true) pa.isList pb.isList (by simp [la,lb]) (by omega) (fun j h1 h2=>by
      have j1:j < ia.length:=by simpa using h1
      have j2:j < ib.length:=by simpa using h2
      have hxl:j < xs.length:=by rw [va.length]; exact j1
      have hyl:j < ys.length:=by rw [vb.length]; exact j2
      obtain ⟨u',e1,e2⟩:=va.get (i:=j) (List.getElem?_eq_getElem hxl)
      obtain ⟨v',e3,e4⟩:=vb.get (i:=j) (List.getElem?_eq_getElem hyl)
      obtain ⟨d1,f1,f2⟩:=Paired.get r (List.getElem?_eq_getElem hxl)
      obtain ⟨d2,f3,f4⟩:=Paired.get q (List.getElem?_eq_getElem hyl)
      rw [f1] at f3
      cases f3
      rw [List.getElem?_eq_getElem j1] at e1
      rw [List.getElem?_eq_getElem j2] at e3
      cases e1; cases e3
      simpa using eqAt_same I n f2 f4 e2 e4 hin)
     rw [all_true] at this
     exact SeqAt.EqAt.of_refs hab this
theorem rc_same (I:Inv X pins σ H s) {n:Nat} {A:Around} {a b:Addr} {d:Dt} (hx:Says X.K ok H (n + 1) (.ref a) d) (hy:Says X.K ok' H (n + 1) (.ref b) d) (hu:A.units + n + 1 < cLine) :
  SeqAt.RcAt A s (.ref a) (.ref b) true/\SeqAt.RcNeAt A s (.ref a) (.ref b) false:=by
 have hin:A.in1.units + n < cLine:=by show A.units + 1 + n < cLine; omega
 rcases hx with hx | ⟨a,xs,ds,e0,rfl,hx,r⟩ | ⟨a,xs,ds,e0,rfl,_,hx,r⟩
 ·exact (flat_ref hx).elim
 ·cases e0
  rcases hy with hy | ⟨b,ys,es,e1,e2,hy,q⟩ | ⟨b,ys,es,e1,e2,_,hy,q⟩
  ·exact (flat_ref hy).elim
  ·cases e1; cases e2
   obtain ⟨ia,va,pa,_⟩:=I.tuple hx
   obtain ⟨ib,vb,pb,_⟩:=I.tuple hy
   have la:ia.length = ds.length:=by rw [<- va.length,r.length]
   have lb:ib.length = ds.length:=by rw [<- vb.length,q.length]
   have el:∀ j (h1:j < ia.toArray.size) (h2:j < ib.toArray.size),SeqAt.EqAt A.in1 s ia.toArray[j] ib.toArray[j] true:=fun j h1 h2=>by
    have j1:j < ia.length:=by simpa using h1
    have j2:j < ib.length:=by simpa using h2
    have hxl:j < xs.length:=by rw [va.length]; exact j1
    have hyl:j < ys.length:=by rw [vb.length]; exact j2
    obtain ⟨u',e1,e2⟩:=va.get (i:=j) (List.getElem?_eq_getElem hxl)
    obtain ⟨v',e3,e4⟩:=vb.get (i:=j) (List.getElem?_eq_getElem hyl)
    obtain ⟨d1,f1,f2⟩:=Paired.get r (List.getElem?_eq_getElem hxl)
    obtain ⟨d2,f3,f4⟩:=Paired.get q (List.getElem?_eq_getElem hyl)
    rw [f1] at f3
    cases f3
    rw [List.getElem?_eq_getElem j1] at e1
    rw [List.getElem?_eq_getElem j2] at e3
    cases e1; cases e3
    simpa using eqAt_same I n f2 f4 e2 e4 hin
   have z:(ia.toArray.size == ib.toArray.size) = true:=by simp [la,lb]
   have t1:=SeqAt.RcAt.tuples (A:=A) (s:=s) (e:=fun _=>true) (show s.heap.IsTuple a ia.toArray from pa) (show s.heap.IsTuple b ib.toArray from pb) (by omega) el
   have t2:=SeqAt.RcNeAt.tuples (A:=A) (s:=s) (e:=fun _=>true) (show s.heap.IsTuple a ia.toArray from pa) (show s.heap.IsTuple b ib.toArray from pb) (by omega) el
   rw [all_true,z] at t1 t2
   exact ⟨t1,t2⟩
  ·cases e1; cases e2
 ·cases e0
  rcases hy with hy | ⟨b,ys,es,e1,e2,hy,q⟩ | ⟨b,ys,es,e1,e2,_,hy,q⟩
  ·exact (flat_ref hy).elim
  ·cases e1; cases e2
  ·cases e1; cases e2
   obtain ⟨ia,va,pa,_⟩:=I.list (SqL.of hx)
   obtain ⟨ib,vb,pb,_⟩:=I.list (SqL.of hy)
   have la:ia.length = ds.length:=by rw [<- va.length,r.length]
   have lb:ib.length = ds.length:=by rw [<- vb.length,q.length]
   have el:∀ j (h1:j < ia.toArray.size) (h2:j < ib.toArray.size),SeqAt.EqAt A.in1 s ia.toArray[j] ib.toArray[j] true:=fun j h1 h2=>by
    have j1:j < ia.length:=by simpa using h1
    have j2:j < ib.length:=by simpa using h2
    have hxl:j < xs.length:=by rw [va.length]; exact j1
    have hyl:j < ys.length:=by rw [vb.length]; exact j2
    obtain ⟨u',e1,e2⟩:=va.get (i:=j) (List.getElem?_eq_getElem hxl)
    obtain ⟨v',e3,e4⟩:=vb.get (i:=j) (List.getElem?_eq_getElem hyl)
    obtain ⟨d1,f1,f2⟩:=Paired.get r (List.getElem?_eq_getElem hxl)
    obtain ⟨d2,f3,f4⟩:=Paired.get q (List.getElem?_eq_getElem hyl)
    rw [f1] at f3
    cases f3
    rw [List.getElem?_eq_getElem j1] at e1
    rw [List.getElem?_eq_getElem j2] at e3
    cases e1; cases e3
    simpa using eqAt_same I n f2 f4 e2 e4 hin
   have t1:=SeqAt.RcAt.lists (A:=A) (s:=s) (e:=fun _=>true) pa.isList pb.isList (by simp [la,lb]) (by omega) el
   have t2:=SeqAt.RcNeAt.lists (A:=A) (s:=s) (e:=fun _=>true) pa.isList pb.isList (by simp [la,lb]) (by omega) el
   rw [all_true] at t1 t2
   exact ⟨t1,t2⟩
def rSame (K:PySem.W.Frag) (b:Bool):R2:=fun x y H Q=>∃ (a c:Addr) (n:Nat) (d:Dt) (ok ok':Addr->Prop),x = .ref a/\y = .ref c/\n<=20/\Says K ok H (n + 1) x d/\Says K ok' H (n + 1) y d/\Q (.bl b) H
theorem op_eqS (hu:X.A.units + 64 < cLine):OpR X (compareOp .Eq) (rSame X.K true):=by
 intro pins s σ H x y v u Q I rx ry h
 obtain ⟨a,c,n,d,ok,ok',rfl,rfl,hn,hx,hy,q⟩:=h
 cases rx; cases ry
 exact (rc_same (A:=X.A) I hx hy (by omega)).1 X.prog X.w X.xe _ ⟨.bl true,H,I,rfl,q⟩
theorem op_neS (hu:X.A.units + 64 < cLine):OpR X (compareOp .NotEq) (rSame X.K false):=by
 intro pins s σ H x y v u Q I rx ry h
 obtain ⟨a,c,n,d,ok,ok',rfl,rfl,hn,hx,hy,q⟩:=h
 cases rx; cases ry
 exact (rc_same (A:=X.A) I hx hy (by omega)).2 X.prog X.w X.xe _ ⟨.bl false,H,I,rfl,q⟩
end
def Ite (K:PySem.W.Frag) (a:Addr):It:=
 ⟨fun i H=>∃ xs x,SqL K H a xs/\xs[i]? = some x,fun i H x H'=>∃ (p:Addr) (y:V),x = .ref p/\H p = none/\(∀ xs,SqL K H a xs->xs[i]? = some y)/\H' = upd H p (.tup [.int i,y]),fun i H=>∃ xs,SqL K H a xs/\xs.length<=i⟩
theorem turn_enum {P:Program} {w:World} {K:PySem.W.Frag} {elts:List Expr} {x1:Nat} {tpos:Pos} (a e it:Addr) (hne:e ≠ it) :
  Turn P w K (.Tuple elts x1 tpos) (Ite K a) [e,it] e (fun i h=>(∃ old,IsEnum h e it (i:Int) old)/\h.IsListIter it a i) where
 mem:=by simp
 obj:=fun i h st b hb=>by
  rcases List.mem_cons.mp hb with rfl | hb
  ·obtain ⟨⟨old,he⟩,_⟩:=st
   exact ⟨_,he,fun v q=>by cases q⟩
  ·have e':b = it:=by simpa using hb
   subst e'
   obtain ⟨_,o,ho,_,hd⟩:=st
   exact ⟨o,ho,fun v q=>by rw [hd] at q; cases q⟩
 keep:=fun i h h' st k=>by
  obtain ⟨⟨old,he⟩,o,ho,r⟩:=st
  exact ⟨⟨old,k e (by simp) _ he⟩,o,k it (by simp) o ho,r⟩
 item:=by
  intro X hP hw hK hc i pins s σ H E I hf st hg
  subst hP hw hK
  obtain ⟨f0,f1,f2,f3,f4,f5⟩:=hf e (by simp)
  obtain ⟨g0,g1,g2,g3,g4,g5⟩:=hf it (by simp)
  obtain ⟨⟨old,he⟩,hit⟩:=st
  obtain ⟨xs,x,hS,hx⟩:=hg
  obtain ⟨its,rv,hp,hz⟩:=I.list hS
  obtain ⟨u,hu,ru⟩:=rv.get hx
  refine wpAny_pyNext_enum_item he hit hp.isList (x:=u) (by simpa using hu) hne fun h' he' hit' htup hsz hk=>?_
  have I0:Inv X pins σ H { s with heap:=h',toks:=s.toks + 1 }:=by
   refine I.step (g':=s.gens) (d':=s.drawn) (ch:=[e,it]) (fun b hb=>?_) (fun b o _ _ hc' e1 _=>hk b o (fun z=>hc' (by simp [z])) (fun z=>hc' (by simp [z])) e1) (fun b o _ _ hc' e1 _=>⟨o.slots,hk b o (fun z=>hc' (by simp [z])) (fun z=>hc' (by simp [z])) e1⟩) (fun _ _ _ _ n=>n)
    (fun b o hc' e1=>⟨o,hk b o (fun z=>hc' (by simp [z])) (fun z=>hc' (by simp [z])) e1⟩) (fun _ _ e1=>e1) (fun _ _ _ e1=>e1) (fun b ps e1=>⟨#[],by rw [e1]; simp⟩) (fun m hm=>?_) (fun b u' e1=>?_) I.bare
   ·rcases List.mem_cons.mp hb with rfl | hb
    ·exact ⟨f3,f1,f4,f5⟩
    ·have e':b = it:=by simpa using hb
     subst e'
     exact ⟨g3,g1,g4,g5⟩
   ·obtain ⟨o,es,ep,ho,r⟩:=hm
    exact ⟨o,es,ep,hk _ o (Ne.symm f1) (Ne.symm g1) ho,r⟩
   ·have nit:∀ c v',H c = some v'->c ≠ e/\c ≠ it:=fun c v' q=>⟨fun z=>(by rw [z,f0] at q; cases q),fun z=>(by rw [z,g0] at q; cases q)⟩
    refine (I.hok b u' e1).stay (fun c v' hc' q=>?_) (fun _ q=>q) fun _ _ q=>q
    rcases hc' with z | z
    ·subst z; exact hk c v' (nit c _ e1).1 (nit c _ e1).2 q
    ·exact hk c v' (nit c _ z).1 (nit c _ z).2 q
  have hfr:H s.heap.objs.size = none:=I.hok.fresh (Nat.le_refl _)
  have I1:Inv X pins σ (upd H s.heap.objs.size (.tup [.int i,x])) { s with heap:=h',toks:=s.toks + 1 }:=by
   have hok:HOk X.prog X.w (upd H s.heap.objs.size (.tup [.int i,x])) h':=fun b o q=>by
    by_cases hb:b = s.heap.objs.size
    ·subst hb
     rw [upd_same] at q; cases q
     exact ⟨by show 2<=sizeLine; decide,[.int i s.toks,u],.cons ⟨_,rfl⟩ (.cons ru .nil),⟨_,htup,rfl,_,rfl⟩⟩
    ·rw [upd_ne hb] at q
     exact (I0.hok b o q).stay (fun _ _ _ z=>z) (fun c z=>by rw [upd_ne (ne_of_none z hfr)]; exact z) fun c xs' z=>by rw [upd_ne (ne_of_none z hfr)]; exact z
   refine I0.step (s:={ s with heap:=h',toks:=s.toks + 1 }) (g':=s.gens) (d':=s.drawn) (h':=h') (t':=s.toks + 1) (ch:=[s.heap.objs.size]) (fun b hb=>?_) (fun b o _ _ _ e1 _=>e1) (fun b o _ _ _ e1 _=>⟨o.slots,e1⟩) (fun b o hb e1 n=>by rw [upd_ne (fun z=>hb (by simp [z]))]; exact n)
    (fun b o _ e1=>⟨o,e1⟩) (fun b xs' e1=>by rw [upd_ne (ne_of_none e1 hfr)]; exact e1) (fun b o' u' e1=>by rw [upd_ne (ne_of_none e1 hfr)]; exact e1) (fun b ps e1=>⟨#[],by rw [upd_ne (ne_of_none e1 hfr),e1]; simp⟩) (fun m hm=>hm) hok I0.bare
   have e':b = s.heap.objs.size:=by simpa using hb
   subst e'
   refine ⟨.inr I.sz,fun z=>?_,fun y c h z=>?_,fun p hp' z=>?_⟩
   ·have:=I.lt; rw [<- z] at this; exact absurd this (Nat.lt_irrefl _)
   ·obtain ⟨v',hv⟩:=I.cell y c h
    have:=hv.lt; rw [z] at this; exact absurd this (Nat.lt_irrefl _)
   ·have:=I.pin_lt hp'; rw [z] at this; exact absurd this (Nat.lt_irrefl _)
  refine ⟨_,rfl,wpAny_letOwnedTupleGo_enum he' fun h2 he2 hs2=>?_⟩
  have nes:s.heap.objs.size ≠ e:=fun z=>by
   have:=Heap.lt_size (show s.heap.get? e = some _ from he)
   rw [<- z] at this; exact absurd this (Nat.lt_irrefl _)
  have nis:s.heap.objs.size ≠ it:=fun z=>by
   obtain ⟨o,ho,_⟩:=hit
   have:=Heap.lt_size ho
   rw [<- z] at this; exact absurd this (Nat.lt_irrefl _)
  have I2:Inv X pins σ (upd H s.heap.objs.size (.tup [.int i,x])) { s with heap:=h2,toks:=s.toks + 1 }:=
   I1.turned (s:={ s with heap:=h',toks:=s.toks + 1 }) (t':=s.toks + 1) (it:=e) (fun b o hb q=>(hs2.2 b hb).trans q) (by rw [upd_ne nes.symm]; exact f0) f1 f3 f4 f5
  refine ⟨.ref s.heap.objs.size,_,I2,rfl,⟨_,x,rfl,hfr,fun xs' h'=>?_,rfl⟩,⟨⟨_,by simpa using he2⟩,?_⟩,fun b hb=>?_⟩
  ·rw [I.list_inj h' hS]; exact hx
  ·obtain ⟨o,ho,r⟩:=hit'
   exact ⟨o,(hs2.2 it (Ne.symm hne)).trans ho,r⟩
  ·rcases List.mem_cons.mp hb with rfl | hb
   ·rw [upd_ne nes.symm]; exact f0
   ·have e':b = it:=by simpa using hb
    subst e'
    rw [upd_ne nis.symm]; exact g0
 done:=by
  intro X hP hw hK hc i pins s σ H E I hf st hg
  subst hP hw hK
  obtain ⟨⟨old,he⟩,hit⟩:=st
  obtain ⟨g0,g1,g2,g3,g4,g5⟩:=hf it (by simp)
  obtain ⟨xs,hS,hle⟩:=hg
  obtain ⟨its,rv,hp,hz⟩:=I.list hS
  have hx:its.toArray[i]? = none:=by simp [<- rv.length,hle]
  exact wpAny_pyNext_enum_end (I.ok.hd hc) he hit hp.isList hx fun h' eb=>⟨rfl,I.turned (t':=s.toks) (fun b o hb e1=>eb b o hb e1) g0 g1 g3 g4 g5⟩
 self:=fun A i s Q E st h=>by
  obtain ⟨⟨old,he⟩,_⟩:=st
  exact wpAny_pyIter_enum he h
section
variable {X:Cx} {elts:List Expr} {x1:Nat} {tpos:Pos}
def iEnum (K:PySem.W.Frag) (ta:TA):TI:=fun σ H R=>ta σ H fun vs H1=>∃ a,vs = [.ref a]/\(∃ xs,SqL K H1 a xs)/\R (Ite K a) H1
theorem pi_enum {l:Expr} {ta:TA} {p pos:Pos} (hg:Gl X "enumerate") (hm:X.mg "enumerate" = none) (ha:PA X [l] ta) (hl:isSt l = false:=by rfl):PI X (.Tuple elts x1 tpos) (.Call (.Name "enumerate" p) [l] [] pos) (iEnum X.K ta):=by
 refine ⟨?_⟩
 intro pins s σ H R I h
 refine Call_ (ld_blt I hg hm PyProof.Rows.boot_enumerate (PyProof.Rows.callWith_type1 (thn (ha pos pins s σ H _ I h) fun us s1 ⟨vs,H1,I1,r1,q1⟩=>?_) (star_cons hl) rfl))
 obtain ⟨a,e,⟨xs,hS⟩,q⟩:=q1
 subst e
 obtain ⟨u,rfl,ru⟩:=vals1 r1
 cases ru
 obtain ⟨its,rv,hp,hz⟩:=I1.list hS
 refine call_enumerate_list hp.isList fun h' he hit hsz hk=>?_
 refine wpAny_pyIter_enum he ?_
 have hfr:∀ b,s1.heap.objs.size<=b->H1 b = none:=fun b hb=>I1.hok.fresh hb
 have I2:Inv X pins σ H1 { s1 with heap:=h' }:=I1.kept (t':=s1.toks) hk
 refine ⟨s1.heap.objs.size + 1,[s1.heap.objs.size + 1,s1.heap.objs.size],_,_,H1,rfl,I2,turn_enum a _ _ (Nat.succ_ne_self _),⟨⟨_,he⟩,hit⟩,fun b hb=>?_,q⟩
 rcases List.mem_cons.mp hb with rfl | hb
 ·exact I1.fpOk (Nat.le_succ _) (hfr _ (Nat.le_succ _))
 ·have e':b = s1.heap.objs.size:=by simpa using hb
  subst e'
  exact I1.fpOk (Nat.le_refl _) (hfr _ (Nat.le_refl _))
end
end L2
namespace Att
open PySem PySem.W PySem.Calls PyProof.Rows
theorem script_bits {ns:List Int} (h:WData.layableAll [WData.list (ns.map WData.int)] = true):∀ n ∈ ns,Builtin.Int.intBits n<=1048576:=fun n hn=>
 PySem.intBits_le_of_layable (layable0_of_all (lay0_int (layableW_item (layW_cons h).1 (.int n) (List.mem_map.mpr ⟨n,hn,rfl⟩))))
theorem attach_callB {l:OpenLaw} {n:Nat} {q:Program} {loose:List Str} {XP:(Str->Option Value)->Heap->Prop} {YP:World->Heap->Prop} {d:DefRec}
  (hn:l.most = some n) (hdf:d.params.defaults = [])
  (call:∀ (w:World) (s₀ s₁:Shared) (mg mb:Str->Option Value) (fa:Addr) (o:Obj) (pm cd doc:Value) (a:Addr) (vs:List Value) (ns:List Int),
   Ground q loose [] XP w s₀ mg mb s₁.heap->YP w s₁.heap->
   s₁.heap.get? fa = some o->o.data = .func (docDef d.name d.params d.body d.scope pm cd doc)->s₁.heap.CodeRec cd d.name->mg d.name = some (.ref fa)->
   s₁.heap.get? a = some { cls:=.type "list",data:=.seq vs.toArray }->IntsAre vs ns->ns.length<=n->(∀ m ∈ ns,Builtin.Int.intBits m<=1048576)->s₁.gens = #[]->
   codeAny (model l.prog w) callerA (.call (.ref fa) ⟨[.ref a],[]⟩) (fun r s'=>r = .ok (.ret (.bool true))/\OldK s₁.heap s'.heap/\s'.os = s₁.os/\AllBare s'.gens) s₁) :
  WalkO q loose XP YP l.row.toRowW d [] (fun f vs=>PySem.call f vs):=by
 intro w s₀ s₁ mg mb G Y fa o pm cd doc dV kV ho hd hcd hD hmg hg args vals as hpre hlay hrd hwl hlo
 obtain rfl:dV = .none:=Dflts.none hD hdf
 obtain rfl:kV = .none:=Dflts.noKw hD
 obtain ⟨a,vs,ns,rfl,rfl,hobj,hints,hlen⟩:=script_of hn hpre hwl
 refine enter_call (codeAny_mono (call w s₀ s₁ mg mb fa o pm cd doc a vs ns G Y ho (fd_plain hd) hcd hmg hobj hints hlen (script_bits hlay) hg) fun r s' hq=>?_)
 obtain ⟨rfl,h2,h3,h4⟩:=hq
 exact ⟨.inl ⟨.bool true,.bool true,[],rfl,fun _=>rfl,.bool true,post_true l _,fun _=>⟨List.Pairwise.nil,fun _ hm=>(nomatch hm)⟩⟩,h2,h3,h4⟩
end Att
namespace L2
open PySem PySem.Spec PyProof.Rows
theorem walk_ofB {l:PySem.W.OpenLaw} {n k:Nat} {q:Program} {loose:List Str} {XP:(Str->Option Value)->Heap->Prop} {YP:World->Heap->Prop} {d:DefRec} {K:Params->PySem.W.Frag} {CX:World->CXT} {sp:World->Sp} {x:Str}
  (hn:l.most = some n) (hn2:n<=sizeLine) (hdf:d.params.defaults = []) (hr:Room k callerA)
  (hY:∀ (w:World) (h:Heap),YP w h->(K w.params).In h)
  (F:∀ (w:World) (mg:Str->Option Value) (fa:Addr) (h:Heap),(K w.params).In h->h.Ns mainGlobals mg->mg d.name = some (.ref fa)->
   ∃ fd:FuncData,(∀ (s:Shared) (u:Value),BindsTo s fd ⟨[u],[]⟩ [(x,u)])/\
    ∀ base:Heap,(K w.params).In base->base.Ns mainGlobals mg->FnOk l.prog w (K w.params) mg base (CX w) k fa fd [x] (sp w))
  (hsp:∀ (w:World) (H:Hp) (a:Addr) (ns:List Int),ns.length<=n->(∀ m ∈ ns,Builtin.Int.intBits m<=1048576)->Only H->SqL (K w.params) H a (ns.map V.int)->sp w [.ref a] H (fun v _=>v = .bl true) fun _ _ _=>False)
  (hCX:∀ (w:World) (H:Hp) (s:Shared) (e:Value) (s':Shared),CX w [] H s (fun _ _ _=>False) e s'->False) :
  PySem.W.WalkO q loose XP YP l.row.toRowW d [] (fun f vs=>PySem.call f vs):=by
 refine Att.attach_callB hn hdf fun w s₀ s₁ mg mb fa o pm cd doc a vs ns G Y ho hd hcd hmg hobj hints hlen hbits hg=>?_
 have KX:=hY w _ Y
 obtain ⟨fd,hb,hF⟩:=F w mg fa _ KX G.T.g hmg
 exact law_call KX G.T.g G.T.b G.T.builtins G.T.nolimit hg hobj hints (Nat.le_trans hlen hn2) hr hF hb (fun H hO hS=>hsp w H a ns hlen hbits hO hS) fun H e s'=>hCX w H s₁ e s'
section
variable {X:Cx}
theorem op_mulB:OpR X (binaryOp .Mult) (rI IntMulOk fun i j=>.int (i * j)):=opI fun _ _ _ _ _ _ _ hc q=>mul_int q hc
end
section
variable {P:Program} {w:World} {K:PySem.W.Frag} {mg:Str->Option Value} {base:Heap}
end
section
variable {X:Cx} {CX:CXT} {k:Nat} {f C:Addr} {fd:FuncData} {ps ks:List Str} {sp:Sp} {E:XK} {x:Str} {p pos:Pos} {e:Expr} {es:List Expr} {kws:List Keyword} {t tk:TA}
 {g:List Value->List Value->List Value} {gV:List V->List V->List V}
end
theorem seq_via {t u:TS} {D:Ends} {σ : St} {H:Hp} (R:St->Hp->Prop) (h2:∀ σ H,R σ H->u D σ H) (h1:(∀ σ H,R σ H->u D σ H)->t { D with nx:=u D } σ H):tSeq t u D σ H:=h1 h2
def lcN (n i:Nat) (D:Addr) (Pv:Nat->List V->Hp->Prop) (ys:List V):VK:=fun v H4=>H4 D = some (.lst ys)/\ys.length < sizeLine/\∃ m',m' < n - i/\m' = n - (i + 1)/\i + 1<=n/\Pv (i + 1) (ys ++ [v]) (upd H4 D (.lst (ys ++ [v])))
def lcS (n i:Nat) (Pv:Nat->List V->Hp->Prop) (ys:List V):Hp->Prop:=fun H4=>∃ m',m' < n - i/\m' = n - (i + 1)/\i + 1<=n/\Pv (i + 1) ys H4
theorem lcN.mk {n i:Nat} {D:Addr} {Pv:Nat->List V->Hp->Prop} {ys:List V} {v:V} {H4:Hp} (hi:i < n) (hn:n<=sizeLine) (hD:H4 D = some (.lst ys)) (hy:ys.length<=i) (p:Pv (i + 1) (ys ++ [v]) (upd H4 D (.lst (ys ++ [v])))):lcN n i D Pv ys v H4:=
 ⟨hD,by omega,n - (i + 1),by omega,rfl,hi,p⟩
theorem lcS.mk {n i:Nat} {Pv:Nat->List V->Hp->Prop} {ys:List V} {H4:Hp} (hi:i < n) (p:Pv (i + 1) ys H4):lcS n i Pv ys H4:=⟨n - (i + 1),by omega,rfl,hi,p⟩
theorem lc_list {K:PySem.W.Frag} {a:Addr} {xs:List V} {caps:List (Option Nat)} {g:TG} {tt:TT} {te:TE} {σ : St} {H1:Hp} {Q:VK} {D:Addr} (Pv:Nat->List V->Hp->Prop) (h0:Pv 0 [] (upd H1 D (.lst [])))
  (hl:∀ i ys H,Pv i ys H->SqL K H a xs)
  (hs:∀ i x ys H,i < xs.length->xs[i]? = some x->Pv i ys H->g x (capS caps σ) H fun σ2 H2=>tt σ2 H2 fun ok H3=>(ok = true->te σ2 H3 (lcN xs.length i D Pv ys))/\(ok = false->lcS xs.length i Pv ys H3))
  (hd:∀ ys H,Pv xs.length ys H->Q (.ref D) H):LCr (Itl K a) caps g tt te σ H1 Q D:=by
 refine ⟨fun i m ys H=>m = xs.length - i/\i<=xs.length/\Pv i ys H,⟨xs.length,by simp,Nat.zero_le _,h0⟩,?_⟩
 rintro i m ys H ⟨rfl,hi,p⟩
 have q:=hl i ys H p
 by_cases hlt:i < xs.length
 ·refine .inr ⟨⟨xs,xs[i],q,by simp [hlt]⟩,fun x H' y=>?_⟩
  obtain ⟨e,y⟩:=y
  subst e
  exact hs i x ys _ hlt (y xs q) p
 ·have e:i = xs.length:=by omega
  subst e
  exact .inl ⟨⟨xs,q,Nat.le_refl _⟩,hd ys H p⟩
theorem same_new {H:Hp} {p:Addr} (h:H p = none) (o:HO):Same H (upd H p o):=fun b u q=>by rw [upd_ne (ne_of_none q h)]; exact q
theorem lc_range {lo:Int} {n:Nat} {caps:List (Option Nat)} {g:TG} {tt:TT} {te:TE} {σ : St} {H1:Hp} {Q:VK} {D:Addr} (Pv:Nat->List V->Hp->Prop) (h0:Pv 0 [] (upd H1 D (.lst [])))
  (hs:∀ i ys H,i < n->Pv i ys H->g (.int (lo + i)) (capS caps σ) H fun σ2 H2=>tt σ2 H2 fun ok H3=>(ok = true->te σ2 H3 (lcN n i D Pv ys))/\(ok = false->lcS n i Pv ys H3))
  (hd:∀ ys H,Pv n ys H->Q (.ref D) H):LCr (Itr lo n) caps g tt te σ H1 Q D:=by
 refine ⟨fun i m ys H=>m = n - i/\i<=n/\Pv i ys H,⟨n,by simp,Nat.zero_le _,h0⟩,?_⟩
 rintro i m ys H ⟨rfl,hi,p⟩
 by_cases hlt:i < n
 ·refine .inr ⟨hlt,fun x H' y=>?_⟩
  obtain ⟨e,y⟩:=y
  subst e y
  exact hs i ys _ hlt p
 ·have e:i = n:=by omega
  subst e
  exact .inl ⟨Nat.le_refl _,hd ys H p⟩
theorem lc_enum {K:PySem.W.Frag} {a:Addr} {xs:List V} {caps:List (Option Nat)} {g:TG} {tt:TT} {te:TE} {σ : St} {H1:Hp} {Q:VK} {D:Addr} (Pv:Nat->List V->Hp->Prop) (h0:Pv 0 [] (upd H1 D (.lst [])))
  (hl:∀ i ys H,Pv i ys H->SqL K H a xs)
  (hs:∀ i x p ys H,i < xs.length->xs[i]? = some x->Pv i ys H->H p = none->g (.ref p) (capS caps σ) (upd H p (.tup [.int i,x])) fun σ2 H2=>tt σ2 H2 fun ok H3=>(ok = true->te σ2 H3 (lcN xs.length i D Pv ys))/\(ok = false->lcS xs.length i Pv ys H3))
  (hd:∀ ys H,Pv xs.length ys H->Q (.ref D) H):LCr (Ite K a) caps g tt te σ H1 Q D:=by
 refine ⟨fun i m ys H=>m = xs.length - i/\i<=xs.length/\Pv i ys H,⟨xs.length,by simp,Nat.zero_le _,h0⟩,?_⟩
 rintro i m ys H ⟨rfl,hi,p⟩
 have q:=hl i ys H p
 by_cases hlt:i < xs.length
 ·refine .inr ⟨⟨xs,xs[i],q,by simp [hlt]⟩,fun x H' y=>?_⟩
  obtain ⟨pp,y,rfl,hp,y2,rfl⟩:=y
  exact hs i y pp ys H hlt (y2 xs q) p hp
 ·have e:i = xs.length:=by omega
  subst e
  exact .inl ⟨⟨xs,q,Nat.le_refl _⟩,hd ys H p⟩
theorem for_enum {K:PySem.W.Frag} {a:Addr} {xs:List V} {g:TG} {tb:TS} {D:Ends} {σ : St} {H:Hp} (Pv:Nat->St->Hp->Prop) (h0:Pv 0 σ H) (hl:∀ i σ H,i<=xs.length->Pv i σ H->SqL K H a xs)
  (hs:∀ i x p σ H,xs[i]? = some x->Pv i σ H->H p = none->g (.ref p) σ (upd H p (.tup [.int i,x])) fun σ2 H2=>tb { D with nx:=Pv (i + 1),ct:=Pv (i + 1),bk:=D.nx } σ2 H2) (hd:∀ σ H,Pv xs.length σ H->D.nx σ H) :
  ∃ W:Nat->Nat->St->Hp->Prop,(∃ m,W 0 m σ H)/\∀ i m σ H,W i m σ H->
   ((Ite K a).stop i H/\D.nx σ H)\/((Ite K a).go i H/\∃ N:St->Hp->Prop,(∀ σ' H',N σ' H'->∃ m',m' < m/\W (i + 1) m' σ' H')/\∀ x H',(Ite K a).yld i H x H'->g x σ H' fun σ2 H2=>tb { D with nx:=N,ct:=N,bk:=D.nx } σ2 H2):=by
 refine ⟨fun i m σ H=>m = xs.length - i/\i<=xs.length/\Pv i σ H,⟨xs.length,by simp,Nat.zero_le _,h0⟩,?_⟩
 rintro i m σ H ⟨rfl,hi,p⟩
 have q:=hl i σ H hi p
 by_cases hlt:i < xs.length
 ·refine .inr ⟨⟨xs,xs[i],q,by simp [hlt]⟩,Pv (i + 1),fun σ' H' p'=>⟨xs.length - (i + 1),by omega,rfl,hlt,p'⟩,fun x H' y=>?_⟩
  obtain ⟨pp,y,rfl,hp,y2,rfl⟩:=y
  exact hs i y pp σ H (y2 xs q) p hp
 ·have e:i = xs.length:=by omega
  subst e
  exact .inl ⟨⟨xs,q,Nat.le_refl _⟩,hd σ H p⟩
theorem call_isinstT {X:Cx}:CallR X (.builtin "isinstance") (fun xs H Q=>∃ a ys T b,xs = [.ref a,.ty T]/\SqT X.K H a ys/\PySem.W.kitOne X.K (.type "tuple") (.type T) = some b/\Q (.bl b) H):=by
 intro pins s σ H xs us Q I r h
 obtain ⟨a,ys,T,b,rfl,hS,e,q⟩:=h
 obtain ⟨u,w',rfl,ru,rw'⟩:=vals2 r
 cases rw'
 cases ru
 obtain ⟨its,r,⟨o,h1,h2,_⟩,_⟩:=I.tuple hS
 exact PySem.W.kia_one PySem.W.kitx_tuple I.kIn ⟨o,h1,h2⟩ e (fun z=>nomatch z) fun tk=>⟨.bl b,H,I.tok tk,rfl,q⟩
section
variable {X:Cx} {pins:List (Addr × Obj)} {σ : St} {H H':Hp} {s s':Shared} {ea:Addr} {cls:Value} {vs:List Value} {h':Heap} {M:Model} {E:Value->Shared->Prop}
theorem frs_stack (hstk:X.stack = X.env :: X.outer) (hfl:X.env.frame = some X.env.locals):frs X.stack = X.env.locals :: frs X.outer:=by
 rw [hstk]
 unfold frs
 rw [List.filterMap_cons,hfl]
theorem HOk.sameAt {P:Program} {w:World} {h h':Heap} (x:HOk P w H h) (k:∀ b u o,H b = some u->h.get? b = some o->h'.get? b = some o):HOk P w H h':=fun a o e=>
 (x a o e).stay (fun b u hb q=>by
  rcases hb with z | z
  ·exact k b o u (by rw [z]; exact e) q
  ·exact k b _ u z q) (fun _ q=>q) fun _ _ q=>q
theorem HOk.rec {P:Program} {w:World} {h:Heap} (x:HOk P w H h) {b:Addr} {u:HO} (e:H b = some u):∃ o,h.get? b = some o:=by
 have q:=x b u e
 cases u with
 | lst xs=>obtain ⟨_,_,_,_,e⟩:=q; exact ⟨_,e⟩
 | tup xs=>obtain ⟨_,_,_,o,e,_⟩:=q; exact ⟨_,e⟩
 | dK kvs=>obtain ⟨_,_,_,_,o,_,_,e,_⟩:=q; exact ⟨_,e⟩
 | dT kvs=>obtain ⟨_,_,_,_,o,_,_,e,_⟩:=q; exact ⟨_,e⟩
 | set S n=>obtain ⟨o,_,_,_,e,_⟩:=q; exact ⟨_,e⟩
 | ins C dx fs=>obtain ⟨_,_,_,e,_⟩:=q; exact ⟨_,e⟩
 | own y=>exact q
 | xd fs=>obtain ⟨_,⟨o,_,_,e,_⟩,_⟩:=q; exact ⟨_,e⟩
 | rng lo hi=>obtain ⟨_,_,_,e⟩:=q; exact ⟨_,e⟩
 | frz ob u=>obtain ⟨e,_⟩:=q; exact ⟨_,e⟩
 | tbl ps=>exact ⟨_,q⟩
 | met f y=>exact ⟨_,q⟩
 | ext φ=>exact q.2.1
end
section
variable {X:Cx} {E:XK} {x:Str} {C:Addr} {B Bn newId nid initId inN:String} {bm bmN:List Value} {np cpos pos:Pos} {e:Expr} {es:List Expr} {t:TA}
end
section
variable {P:Program} {w:World} {K:PySem.W.Frag} {mg:Str->Option Value} {base:Heap} {N:List Str} {qual:Str} {scope:Scope} {f:Addr} {cd:Value} {A:Around} {outer:List Env} {s:Shared} {H:Hp} {E E':XK}
end
section
variable {X:Cx} {k:Nat} {f:Addr} {fd:FuncData} {ps:List Str} {sp:Sp} {E:XK} {x:Str} {p pos:Pos} {e:Expr} {es:List Expr} {t:TA}
end
def ExcAt (ea:Addr) (cls:Value) (h:Heap):Prop:=∃ oe vs,h.get? ea = some oe/\oe.cls = cls/\oe.data = .fields vs
section
variable {X:Cx} {pins:List (Addr × Obj)} {σ : St} {H H':Hp} {s s':Shared} {ea a:Addr} {cls:Value} {o:HO} {h5:Heap}
theorem Inv.track (I:Inv X pins σ H s) (hn:H a = none) (new:ObjOk X.prog X.w (upd H a o) s.heap a o) (h0:∀ u,X.s₀.heap.get? a = some u->X.H₀ a = none->a ∉ X.ex->False) (hL:X.env.locals ≠ a)
  (hc:∀ x c,X.env.cells.lookup x = some c->c ≠ a) (hp:∀ p ∈ X.pn ++ pins,p.1 ≠ a):Inv X pins σ (upd H a o) s:=by
 refine ⟨I.ok,I.os,I.bare,⟨I.base.keep,I.base.slot,fun b u e n x=>?_,I.base.there,fun b xs e=>?_,fun b u v e=>?_,fun b ps e=>?_⟩,I.loc,I.cell,?_,fun x c e=>?_,fun p hp'=>?_,fun b u e=>?_,I.len⟩
 ·have hb:b ≠ a:=fun z=>by subst z; exact h0 u e n x
  rw [upd_ne hb]
  exact I.base.free b u e n x
 ·have e1:=I.base.tups b xs e
  rw [upd_ne (ne_of_none e1 hn)]; exact e1
 ·have e1:=I.base.frzs b u v e
  rw [upd_ne (ne_of_none e1 hn)]; exact e1
 ·obtain ⟨more,e1⟩:=I.base.tbls b ps e
  exact ⟨more,by rw [upd_ne (ne_of_none e1 hn)]; exact e1⟩
 ·rw [upd_ne hL]; exact I.free
 ·rw [upd_ne (hc x c e)]; exact I.freeC x c e
 ·obtain ⟨q1,q2,q3⟩:=I.pin p hp'
  exact ⟨q1,by rw [upd_ne (hp p hp')]; exact q2,q3⟩
 ·by_cases hb:b = a
  ·subst hb; rw [upd_same] at e; cases e; exact new
  ·rw [upd_ne hb] at e
   exact (I.hok b u e).stay (fun _ _ _ q=>q) (fun c q=>by rw [upd_ne (ne_of_none q hn)]; exact q) fun c xs q=>by rw [upd_ne (ne_of_none q hn)]; exact q
end
section
variable {X:Cx} {pins:List (Addr × Obj)} {σ : St} {H:Hp} {s:Shared} {M:Model} {A:Around} {E:Value->Shared->Prop} {i:Nat} {n:Str} {pos:Pos}
theorem name_goes {Q:Unit->Shared->Prop} (I:Inv X pins σ H s) (hN:X.N.Nodup) (hi:X.N[i]? = some n) (hk:X.env.scope.names.lookup n = some .local) (h:∀ s',Inv X pins (σ.set i none) H s'->Q () s') :
  wpAny M A (do bindName X.env n .none; unbindBehindTheSuite X.env n pos) Q E s:=by
 refine wpAny_bind (wpAny_bindName (store_ok (v:=.non) (u:=.none) I hN hi (.inl hk) rfl (fun s1 I1=>?_) (.inr hk)))
 unfold unbindBehindTheSuite
 refine wpAny_onRaise ?_
 have hiσ : i < σ.length:=by rw [I.len]; exact (List.getElem?_eq_some_iff.mp hi).1
 have hcls:(X.env.scope.kind == .class || (X.env.scope.kind == .module && X.env.locals != X.env.globals)) = false:=by rw [I.ok.kind]; rfl
 obtain ⟨m,hn,hl⟩:=id I1.loc
 obtain ⟨u0,_,lk⟩:=hl i n .non hi (by rw [List.getElem?_set_self hiσ]) (.inl hk)
 have hv:m n = some u0:=by
  rcases lk with ⟨_,e⟩ | ⟨z,_⟩
  ·exact e
  ·have z':X.env.scope.names.lookup n = some .cell\/X.env.scope.names.lookup n = some .free:=z
   rw [hk] at z'
   rcases z' with z' | z' <;> cases z'
 refine wpAny_unbindName_local hk hn hv hcls fun h2 u hn2 hs=>h _ ?_
 have old:∀ b o,X.s₀.heap.get? b = some o->b ≠ X.env.locals:=fun b o e=>Nat.ne_of_lt (Nat.lt_of_lt_of_le (Heap.lt_size e) I1.ok.above)
 refine ⟨I1.ok,I1.os,I1.bare,⟨fun b o e z hb hx=>(hs.2 b (old b o e)).trans (I1.base.keep b o e z hb hx),fun b o e z hb hx=>?_,I1.base.free,fun b o e hx=>?_,I1.base.tups,I1.base.frzs,I1.base.tbls⟩,⟨_,hn2,fun j y v e1 e2 e3=>?_⟩,fun y c e=>?_,I1.free,I1.freeC,fun p hp=>?_,fun b ob e=>?_,by rw [List.length_set]; exact I.len⟩
 ·obtain ⟨sl,e1⟩:=I1.base.slot b o e z hb hx
  exact ⟨sl,(hs.2 b (old b o e)).trans e1⟩
 ·obtain ⟨o',e1⟩:=I1.base.there b o e hx
  exact ⟨o',(hs.2 b (old b o e)).trans e1⟩
 ·by_cases hj:j = i
  ·subst hj
   rw [List.getElem?_set_self hiσ] at e2
   cases e2
  ·rw [List.getElem?_set_ne (Ne.symm hj)] at e2
   obtain ⟨u',r',q⟩:=hl j y v e1 (by rw [List.getElem?_set_ne (Ne.symm hj)]; exact e2) e3
   refine ⟨u',r',?_⟩
   rcases q with ⟨k,e⟩ | ⟨k,c,e,z⟩
   ·have ny:y ≠ n:=fun w=>hj (nodup_ix hN e1 (w ▸ hi))
    exact .inl ⟨k,by simp [ny,e]⟩
   ·exact .inr ⟨k,c,e,z.sameBut hs (I1.cne y c e)⟩
 ·obtain ⟨w',z⟩:=I1.cell y c e
  exact ⟨w',z.sameBut hs (I1.cne y c e)⟩
 ·obtain ⟨e,z,ne,nf,d⟩:=I1.pin p hp
  exact ⟨(hs.2 p.1 ne).trans e,z,ne,nf,d⟩
 ·refine (I1.hok b ob e).stay (fun c w' hc q=>(hs.2 c fun z=>?_).trans q) (fun _ q=>q) fun _ _ q=>q
  rcases hc with w1 | w1
  ·rw [<- w1,z,I1.free] at e; cases e
  ·rw [z,I1.free] at w1; cases w1
end
structure PE1 (X:Cx) (pins:List (Addr × Obj)) (σ : St) (e:Expr) (t:TE):Prop where
 run:∀ (s:Shared) (H:Hp) (Q:VK),Inv X pins σ H s->t σ H Q->wpAny (model X.prog X.w) X.A (eval e X.env) (EP X pins σ Q) X.xe s
structure PA1 (X:Cx) (pins:List (Addr × Obj)) (σ : St) (es:List Expr) (t:TA):Prop where
 run:∀ (pos:Pos) (s:Shared) (H:Hp) (Q:List V->Hp->Prop),Inv X pins σ H s->t σ H Q->wpAny (model X.prog X.w) X.A (spliced (backTo pos (starEach es X.env))) (AP X pins σ Q) X.xe s
structure PS1 (X:Cx) (pins:List (Addr × Obj)) (σ : St) (st:Stmt) (t:TS):Prop where
 run:∀ (s:Shared) (H:Hp) (D:Ends),Inv X pins σ H s->t D σ H->wpAny (model X.prog X.w) X.A (exec st X.env) (SP X pins D) X.xe s
section
variable {X:Cx} {pins:List (Addr × Obj)} {σ : St} {e:Expr} {es:List Expr} {te ta:TE} {t tr:TA} {E:XK} {x m:Str} {p pos apos:Pos} {k:Nat} {f C:Addr} {fd:FuncData} {ps:List Str} {sp:Sp} {o:Expr} {dvs:List V} {ds:List Value}
theorem PE.one (h:PE X e te):PE1 X pins σ e te:=⟨fun s H Q I q=>h pins s σ H Q I q⟩
theorem PA.one (h:PA X es t):PA1 X pins σ es t:=⟨fun pos s H Q I q=>h pos pins s σ H Q I q⟩
theorem a1_cons (ha:PE1 X pins σ e te) (hr:PA1 X pins σ es tr) (h:isSt e = false:=by rfl):PA1 X pins σ (e :: es) (tCons te tr):=by
 refine ⟨fun pos s H Q I q=>?_⟩
 rw [star_cons h]
 show wpAny _ _ (spliced ((false,eval e X.env) :: backTo pos (starEach es X.env))) _ _ s
 refine Calls.spliced_cons (thn (ha.run s H _ I q) fun u s1 ⟨x,H1,I1,r1,q1⟩=>?_)
 exact thn (hr.run pos s1 H1 _ I1 q1) fun us s2 ⟨xs,H2,I2,r2,q2⟩=>⟨x :: xs,H2,I2,.cons r1 r2,q2⟩
theorem p1_tup {x1:Nat} (h:PA1 X pins σ es t):PE1 X pins σ (.Tuple es x1 pos) (tTup t):=by
 refine ⟨fun s H Q I hq=>?_⟩
 refine wpAny_Tuple_spliced (thn (h.run pos s H _ I hq) fun us s1 ⟨xs,H1,I1,r,z,q⟩=>⟨by rw [<- r.length]; exact z,?_⟩)
 have hf:H1 s1.heap.objs.size = none:=I1.hok.fresh (Nat.le_refl _)
 refine ⟨.ref s1.heap.objs.size,upd H1 s1.heap.objs.size (.tup xs),I1.laid (t':=s1.toks) (fun b u e=>Heap.get?_push_of_some _ e) (Nat.le_refl _) ?_,rfl,q _ hf⟩
 exact ⟨z,us,r,⟨_,Heap.get?_push_size _ rfl,rfl,_,rfl⟩⟩
theorem s1_set {i:Nat} {pos':Pos} (hN:X.N.Nodup) (hi:X.N[i]? = some x) (hx:Loc X.env.scope x) (he:PE1 X pins σ e te) (hs:swapsWith e (some (.Name x pos')) pos.line X.env = pure false:=by rfl)
  (hf:X.fn x = true\/X.env.scope.names.lookup x = some .local:=by first | exact .inl rfl | exact .inr rfl | assumption):PS1 X pins σ (.Assign [.Name x pos'] e pos) (tAsg te (gName i)):=by
 refine ⟨fun s H D I h=>?_⟩
 refine wpAny_Assign_Name (thn (he.run s H _ I h) fun v s1 ⟨y,H1,I1,r1,q1⟩=>?_) hs
 exact store_ok I1 hN hi hx r1 (fun s2 I2=>⟨_,H1,I2,q1⟩) hf
end
abbrev Cx.suite (X:Cx) (ea:Addr):Cx:={ X with A:=X.A.mark (some (.ref ea)),calm:=false,xe:=fun _ _=>False }
section
variable {X:Cx} {pins:List (Addr × Obj)} {σ : St} {H:Hp} {s:Shared} {ea:Addr}
theorem Inv.suite (I:Inv X pins σ H s) (ea:Addr):Inv (X.suite ea) pins σ H s:=
 ⟨⟨I.ok.mod,I.ok.kind,I.ok.glob,I.ok.blt,I.ok.above,I.ok.inj,I.ok.has,I.ok.cab,(fun z=>Bool.noConfusion z),I.ok.frames,I.ok.stk,I.ok.exf,I.ok.bs,I.ok.bsz,I.ok.noex,I.ok.exfs,I.ok.funs,I.ok.frf⟩,I.os,I.bare,I.base,I.loc,I.cell,I.free,I.freeC,I.pin,I.hok,I.len⟩
theorem Inv.unsuite (hok:X.Ok) (I:Inv (X.suite ea) pins σ H s):Inv X pins σ H s:=
 ⟨hok,I.os,I.bare,I.base,I.loc,I.cell,I.free,I.freeC,I.pin,I.hok,I.len⟩
def endsN (D:Ends) (i:Nat):Ends:={ nx:=fun σ H=>D.nx (σ.set i none) H,rt:=D.rt,bk:=fun σ H=>D.bk (σ.set i none) H,ct:=fun σ H=>D.ct (σ.set i none) H }
abbrev tryXe (X:Cx) (pins:List (Addr × Obj)) (D:Ends) (hs:List ExceptHandler):Value->Shared->Prop:=fun e s₁=>
 wpAny (model X.prog X.w) X.A (noteFrame e X.env) (fun _ s₂=>wpAny (model X.prog X.w) X.A (setFlight e none) (fun _ s₃=>wpAny (model X.prog X.w) X.A (handleBy e X.env hs) (SP X pins D) X.xe s₃) X.xe s₂) X.xe s₁
variable {st b₀:Stmt} {suite:List Stmt} {c n:Str} {np hpos pos:Pos} {C:Addr} {i:Nat} {tb:XK->TS} {ts:TS} {ok:Value->Prop}
end
end L2
namespace L2
open PySem PySem.W PySem.Builtin PySem.Builtin.ObjectAttr PySem.Builtin.Getset_descriptor PySem.Spec PyProof.Rows
structure ExcCls (K:PySem.W.Frag) (D:Addr):Prop where
 cd:(clsIn K D).isSome = true
 ga:findIn K (.ref D) "__getattribute__" = some (some (.builtin "BaseException.__getattribute__"))
 no:findIn K (.ref D) "__getattr__" = some none
 cl:findIn K (.ref D) "__class__" = some (some (.builtin "object.__class__"))
 gt:specialIn K (.builtin "object.__class__") "__get__" = some (some (.builtin "getset_descriptor.__get__"))
 tk:takesIn K (.builtin "object.__class__") = some true
 be:mroIn K D (.type "BaseException") = some true
 ob:mroIn K D (.type "object") = some true
section
variable {prog:Program} {w:World} {A:Around} {E:Value->Shared->Prop} {s:Shared} {K:PySem.W.Frag} {x D:Addr}
theorem ExcAt.ty {M:Model} {h:Heap} (e:ExcAt x (.ref D) h):Looks M h (typeOf (.ref x)) (.ref D):=by
 obtain ⟨oe,vs,h1,h2,h3⟩:=e
 exact h2 ▸ (Looks.ld h1).andThen .now
theorem exc_get {R:Result->Shared->Prop} {tp:Value} (c:ExcCls K D) (X:K.In s.heap) (e:ExcAt x (.ref D) s.heap) (h:R (.ok (.ret (.ref D))) s) :
  codeAny (model prog w) A (.call (.builtin "getset_descriptor.__get__") ⟨[.builtin "object.__class__",.ref x,tp],[]⟩) R s:=by
 obtain ⟨hh,g,dr,t,os⟩:=s
 have LT:=e.ty (M:=model prog w)
 have LM:=looks_mroIn (M:=model prog w) X c.ob
 refine codeAny_call_builtin KF.slot_gs.plain KF.entry_gs ?_
 refine KF.slot_gs.check _ _ _ _ _ _ _ _ KF.type_class (KF.args_gs _ _ _) ?_
 unfold Builtin.«getset_descriptor.__get__»
 unfold descrGet
 rw [dga_obj (.builtin "object.__class__") tp x]
 refine wpAny_bind (wpAny_pure ?_)
 unfold descrGetter
 unfold descrCheckInstance descrNameAndClass
 unfold isInstance
 simp only [KF.owner_class]
 repeat lk
 refine ⟨Code.quiet_builtin _ (by decide +kernel),?_⟩
 refine codeAny_builtin KF.entry_class ?_
 unfold Builtin.«object.__class__»
 unfold shownTypeOf
 repeat lk
 exact h
theorem exc_class {Q:Option Value->Shared->Prop} (c:ExcCls K D) (X:K.In s.heap) (e:ExcAt x (.ref D) s.heap) (h:Q (some (.ref D)) { s with toks:=s.toks + 1 }):wpAny (model prog w) A (getAttr? (.ref x) "__class__") Q E s:=by
 obtain ⟨hh,g,dr,t,os⟩:=s
 have LT:=e.ty (M:=model prog w)
 have LG:=looks_findIn (M:=model prog w) X c.ga
 have LN:=looks_findIn (M:=model prog w) X c.no
 have LC:=looks_findIn (M:=model prog w) X c.cl
 have LB:=looks_mroIn (M:=model prog w) X c.be
 have L2:=looks_specialIn (M:=model prog w) X c.gt
 have L3:=looks_takesIn (M:=model prog w) X c.tk
 unfold getAttr?
 unfold getAttrBy? getAttrBy
 refine wpAny_bind (wpAny_mkText (wpAny_bind (wpAny_attempt ?_)))
 refine wpAny_holding (wpAny_bind (LT.at (wpAny_bind (LG.at ?_))))
 have hne:(onTheHeap (Value.ref D) && Value.builtin "BaseException.__getattribute__" == Value.builtin "object.__getattribute__") = false:=by
  rw [show (Value.builtin "BaseException.__getattribute__" == Value.builtin "object.__getattribute__") = false from by decide +kernel,Bool.and_false]
 dsimp only
 rw [hne]
 rw [if_neg Bool.false_ne_true]
 unfold getAttrByItsOwn hookBefore
 rw [if_pos (show onTheHeap (Value.ref D) = true from rfl)]
 refine wpAny_bind (LN.at (wpAny_bind (wpAny_attempt (wpAny_holding ?_))))
 unfold callGetattribute boundAndCalled
 rw [if_neg (by simp)]
 have fb:=PySem.F.attrBase_ValueError.ga
 rw [fb.bind (.ref x)]
 refine wpAny_bind (wpAny_pure ?_)
 refine wpAny_call (codeAny_call_builtin fb.plain F.entry_bexc_ga ?_)
 have ck:∀ (Q':Unit->Shared->Prop) (E':Value->Shared->Prop) (A':Around),Q' () ⟨hh,g,dr,t + 1,os⟩->wpAny (model prog w) A' (checkBuiltinCall "BaseException.__getattribute__" ⟨[.ref x,.str "__class__" t],[]⟩) Q' E' ⟨hh,g,dr,t + 1,os⟩:=by
  intro Q' E' A' q'
  have k1:builtinKind "BaseException.__getattribute__" = some .slot:=by decide +kernel
  have k2:splitId "BaseException.__getattribute__" = some ("BaseException","__getattribute__"):=by decide +kernel
  have k3:=F.args_bexc_ga (.ref x) (.str "__class__" t)
  simp only [checkBuiltinCall,k1,k2]
  refine wpAny_bind ?_
  unfold isInstance
  repeat (first | lk | wp_step)
  exact q'
 refine ck _ _ _ ?_
 unfold Builtin.«object.__getattribute__»
 unfold find getOf dataDescriptor?
 repeat (first | lk | wp_step)
 refine wpAny_run (exc_get (s:=⟨hh,g,dr,t + 1,os⟩) c X e ?_)
 refine wpAny_pure (wpAny_pure ?_)
 show wpAny _ _ (handedOut (Value.ref D)) _ _ _
 rw [handedOut_of (show handedIn (Value.ref D) = true from rfl)]
 exact wpAny_pure (wpAny_pure h)
theorem kitx_exc (c:ExcCls K D):KitX K (.ref x) (.ref D) (ExcAt x (.ref D)) where
 ty:=fun _ _ _ e=>e.ty
 it:=fun _ _ X _=>by
  obtain ⟨cd,hc⟩:=Option.isSome_iff_exists.mp c.cd
  unfold clsIn at hc
  split at hc
  ·rename_i c' d' cd' sl' ho
   intro A' Q' E' s' k q
   unfold isType
   unfold loadHead
   exact wpAny_bind (wpAny_loadPart (k _ _ (X _ _ ho)) (wpAny_pure q))
  ·cases hc
 ne:=fun h tp dd its n sl X htp=>by
  obtain ⟨cd,hc⟩:=Option.isSome_iff_exists.mp c.cd
  refine Bool.eq_false_iff.mpr fun q=>?_
  have z:D = tp:=Value.ref.inj (beq_iff_eq.mp q)
  subst z
  unfold clsIn at hc
  split at hc
  ·rename_i c' d' cd' sl' ho
   have w:=(X _ _ ho).symm.trans htp
   cases w
  ·cases hc
 ca:=fun X e k=>exc_class c X e k
end
end L2
namespace L2
open PySem PySem.Spec PyProof.Rows
section
variable {X:Cx}
theorem vals_refs:∀ {cs:List Addr} {us:List Value},Vals (cs.map V.ref) us->us = cs.map Value.ref
 | [],_,.nil=>rfl
 | c :: cs,_,.cons r t=>by
  cases r
  rw [vals_refs t]
  rfl
end
structure RoomM (k:Nat) (A:Around):Prop where
 dp:A.depth + 3 * k + 5 < recursionLimit
 un:A.units + 16 * k + 200 < cLine
theorem Room.m {k:Nat} {A:Around} (r:Room k A):RoomM k A:=⟨r.dp,r.un⟩
theorem RoomM.mark {k:Nat} {A:Around} (r:RoomM k A) (h:Option Value):RoomM k (A.mark h):=⟨r.dp,r.un⟩
theorem RoomM.deeper {k:Nat} {A:Around} (r:RoomM (k + 1) A) (env:Env):RoomM k (A.deeper env):=
 ⟨by have:=r.dp; show A.depth + 1 + 3 * k + 5 < _; omega,by have:=r.un; show A.units + 3 + 16 * k + 200 < _; omega⟩
theorem RoomM.depth {k:Nat} {A:Around} (r:RoomM k A):A.depth < recursionLimit:=by have:=r.dp; omega
structure FnOkM (P:Program) (w:World) (K:PySem.W.Frag) (mg:Str->Option Value) (base:Heap) (k:Nat) (f:Addr) (fd:FuncData) (ps:List Str) (sp:Sp):Prop where
 len:∀ vs H Q E,sp vs H Q E->vs.length = ps.length
 run:∀ (A:Around) (outer:List Env) (s:Shared) (H:Hp) (args:Args) (us:List Value) (vs:List V) (Q:VK),RoomM k A->Env0 P w K mg base A outer s H->BindsTo s fd args (ps.zip us)->Vals vs us->sp vs H Q E0->
  codeAny (model P w) A (.call (.ref f) args) (CR CX0 outer P w H s Q E0) s
abbrev cxOfM (P:Program) (w:World) (K:PySem.W.Frag) (mg:Str->Option Value) (base:Heap) (N:List Str) (qual:Str) (scope:Scope) (f:Addr) (cd:Value) (A:Around) (outer:List Env) (s:Shared) (H:Hp):Cx:=
 { cxOf CX0 P w K mg base N qual scope f cd A outer s H E0 with calm:=false,xe:=fun _ _=>False }
section
variable {P:Program} {w:World} {K:PySem.W.Frag} {mg:Str->Option Value} {base:Heap}
theorem inv_startM {N ps:List Str} {qual:Str} {scope:Scope} {f:Addr} {cd:Value} {A:Around} {outer:List Env} {s s1:Shared} {H:Hp} {us:List Value} {vs:List V}
  (S:FnScope N ps scope) (e0:Env0 P w K mg base A outer s H) (hl:vs.length = ps.length) (r:Vals vs us)
  (x:InCallC s s.heap.objs.size (bindL (envOfC qual scope s.heap.objs.size f cd).kindOf (ps.zip us) fun _=>none) (cellsFrom (s.heap.objs.size + 1) scope.names []) (bindC (envOfC qual scope s.heap.objs.size f cd).kindOf (ps.zip us) fun _=>none) s1) :
  Inv (cxOfM P w K mg base N qual scope f cd A outer s H) [] (start N vs) H s1:=by
 have e1:Env0 P w K mg base { A with handled:=none } outer s H:=⟨e0.frames,e0.mod,e0.bs,e0.bsz,e0.funs,e0.frf,e0.hok,e0.bare⟩
 have I:Inv (cxOf CX0 P w K mg base N qual scope f cd { A with handled:=none } outer s H E0) [] (start N vs) H s1:=inv_start S rfl e1 hl r x
 exact ⟨⟨I.ok.mod,I.ok.kind,I.ok.glob,I.ok.blt,I.ok.above,I.ok.inj,I.ok.has,I.ok.cab,(fun z=>Bool.noConfusion z),Around.frames_deeper e0.frames,I.ok.stk,I.ok.exf,I.ok.bs,I.ok.bsz,I.ok.noex,I.ok.exfs,I.ok.funs,I.ok.frf⟩,I.os,I.bare,I.base,I.loc,I.cell,I.free,I.freeC,I.pin,I.hok,I.len⟩
theorem Fun.okM {x qual:Str} {st:Stmt} {f:Addr} {fd:FuncData} {N ps:List Str} {k:Nat} {sp:Sp} (F:Fun K x qual st f fd) (S:FnScope N ps (defScope st)) (len:∀ vs H Q E,sp vs H Q E->vs.length = ps.length)
  (hbody:∀ (cdv:Value) (A:Around) (outer:List Env) (s:Shared) (H:Hp) (vs:List V) (Q:VK),RoomM k (A.deeper (envOfC qual (defScope st) s.heap.objs.size f cdv))->sp vs H Q E0->
   ∃ t,PSs (cxOfM P w K mg base N qual (defScope st) f cdv A outer s H) (defBody st) t/\t { nx:=fun _ H'=>Q .non H',rt:=Q } (start N vs) H):FnOkM P w K mg base (k + 1) f fd ps sp:=by
 obtain ⟨oc,od,kV,doc,pm,an,cdv,ct,osl,rfl,lk,hcd⟩:=F.ex
 refine ⟨len,fun A outer s H args us vs Q hr e0 hb r hsp=>?_⟩
 have hl:=len _ _ _ _ hsp
 have KX:K.In s.heap:=e0.mod.kin.keeps fun b o e=>(e0.bs b o e).1
 have lim:s.heap.NoLimit:=e0.mod.nolimit.keeps fun b o e=>(e0.bs b o e).1
 have hkind:∀ y ∈ ps.zip us,(defScope st).names.lookup y.1 = some .local\/((defScope st).names.lookup y.1 = some .cell/\((cellsFrom (s.heap.objs.size + 1) (defScope st).names []).lookup y.1).isSome = true):=fun ⟨n,v⟩ hy=>by
  rcases S.par n (List.of_mem_zip hy).1 with q | q
  ·exact .inl q
  ·exact .inr ⟨q,PySem.W.cellsFrom_some _ _ _ (.inl q)⟩
 refine codeAny_call_function hr.depth (KX _ _ lk) rfl S.co S.gen rfl (PySem.W.codeRec_of KX hcd) (hb _ _ _ _ ?_)
 refine wpAny_newFunctionEnv_cells S.kind hkind fun env he s1 x=>?_
 subst he
 refine ⟨lim.keeps x.toInCall.keep,codeAny_func ?_⟩
 obtain ⟨t,ht,hq⟩:=hbody cdv A outer s H vs Q (hr.deeper _) hsp
 have I:Inv (cxOfM P w K mg base N qual (defScope st) f cdv A outer s H) [] (start N vs) H s1:=inv_startM S e0 hl r x
 refine wpAny_mono (ht [] s1 (start N vs) H _ I hq) (fun fl s' hs=>?_) fun e s' hs=>hs.elim
 have fin:∀ {σ':St} {H':Hp} {v:V} {u:Value},Inv (cxOfM P w K mg base N qual (defScope st) f cdv A outer s H) [] σ' H' s'->RelV v u->Q v H'->CE outer P w H s Q u s':=
  fun {σ' H' v u} J rv q=>⟨v,H',J.os,J.bare,J.base,J.hok,rv,q⟩
 cases fl with
 | ret u=>
  obtain ⟨v,σ',H',J,rv,q⟩:=hs
  exact fin J rv q
 | next=>
  obtain ⟨σ',H',J,q⟩:=hs
  exact fin (v:=V.non) (u:=Value.none) J rfl q
 | brk=>
  obtain ⟨_,_,_,q⟩:=hs
  exact False.elim q
 | cont=>
  obtain ⟨_,_,_,q⟩:=hs
  exact False.elim q
end
structure CalleeM (P:Program) (w:World) (K:PySem.W.Frag) (mg:Str->Option Value) (base:Heap) (k:Nat) (x:Str) (f:Addr) (fd:FuncData) (ps:List Str) (sp:Sp):Prop where
 ok:FnOkM P w K mg base k f fd ps sp
 mg:mg x = some (.ref f)
 kp:PySem.W.keepIn K (.ref f) = true
 bd:Binds K fd ps []
section
variable {X:Cx} {k:Nat} {f:Addr} {fd:FuncData} {ps:List Str} {sp:Sp} {x:Str} {p pos:Pos} {e:Expr} {es:List Expr} {t:TA}
theorem cM (c:CalleeM X.prog X.w X.K X.mg X.base k x f fd ps sp) (hr:RoomM k X.A) (ha:PA X (e :: es) t) (hg:Gl X x:=by rfl) (hdb:(x == ("__debug__" : Str)) = false:=by decide)
  (h1:isSt e = false:=by rfl) (h2:es.any isSt = false:=by rfl):PE X (.Call (.Name x p) (e :: es) [] pos) (tCall sp [] E0 t):=by
 refine ⟨?_⟩
 intro pins s σ H Q I h
 refine wpAny_Call_Name_kw (ld_glob I hg c.mg ?_ hdb)
 refine PySem.W.callWith_K (h₀:=X.base) I.ok.mod.kin c.kp (thn (ha pos pins s σ H _ I h) fun us s1 ⟨vs,H1,I1,r,q⟩=>⟨I1.kIn,?_⟩) (star_cons h1) (star_any h2)
 have r2:Vals (vs ++ []) (us ++ []):=r.append .nil
 have hl:(us ++ []).length = ps.length:=by rw [<- r2.length]; exact c.ok.len _ _ _ _ q
 refine wpAny_call (codeAny_mono (c.ok.run X.A X.stack s1 H1 ⟨us,[]⟩ (us ++ []) (vs ++ []) Q hr I1.env0 (c.bd s1 us I1.kIn hl) r2 q) fun r s' hq=>?_)
 cases r with
 | error e=>exact False.elim hq
 | ok fl=>
  cases fl with
  | ret u=>exact I1.after hq
  | next=>exact False.elim hq
  | brk=>exact False.elim hq
  | cont=>exact False.elim hq
end
section
variable {prog:Program} {w:World} {A:Around} {E:Value->Shared->Prop} {s:Shared} {r:Addr} {n:Int} {t u v:Tok}
end
theorem boot_rev:bootBuiltins "reversed" = some (.type "reversed"):=by decide +kernel
section
variable {X:Cx} {tg:Expr}
end
section
variable {X:Cx} {o i:Expr} {to ti:TE} {pos tpos:Pos}
end
section
variable {X:Cx} {pins:List (Addr × Obj)} {σ : St} {e:Expr} {te:TE} {pos p:Pos} {C:Addr} {x:Str}
end
section
variable {X:Cx} {CX:CXT} {k:Nat} {C i f:Addr} {fd:FuncData} {ps ks:List Str} {sp:Sp} {E:XK} {x m:Str} {p pos apos:Pos} {e:Expr} {es:List Expr} {t tk:TA} {ds:List Value} {dvs:List V} {kws:List Keyword}
 {g:List Value->List Value->List Value} {gV:List V->List V->List V}
end
theorem ps_dead {X:Cx} {st:Stmt}:PS X st (fun _ _ _=>False):=⟨fun _ _ _ _ _ _ h=>h.elim⟩
section
variable {X:Cx}
structure KTab (w:World) (K:PySem.W.Frag) (a:Addr) (f:Str->Option V):Prop where
 obj:∃ es n,K.lookup a = some ⟨.type "dict",none,.dict es n,#[]⟩/\PySem.W.KeysLit w.params es.toList
 vals:∀ x v,f x = some v->∃ u,PySem.W.nsIn K a x = some (some u)/\RelV v u
theorem pe_kget {e:Expr} {d:Str} {p pos:Pos} {a:Addr} {f:Str->Option V} {te:TE} (T:KTab X.w X.K a f) (hm:X.mg d = some (.ref a)) (he:PE X e te) (hg:Gl X d:=by rfl) (hs:NoSl e:=by first | exact fun _ _=>rfl | decide | rfl) (hdb:(d == ("__debug__" : Str)) = false:=by decide) :
  PE X (.Subscript (.Name d p) e pos) (fun σ H Q=>te σ H fun y H1=>∃ x v,y = .str x/\f x = some v/\Q v H1):=by
 refine ⟨?_⟩
 intro pins s σ H Q I h
 obtain ⟨es,n,hl,hk⟩:=T.obj
 refine subD_of PySem.F.slot_dict_getitem.lookup hs (ld_glob I hg hm (thn (he pins s σ H _ I h) fun iv s2 ⟨y,H2,I2,ry,x,v,ey,ef,q2⟩=>?_) hdb)
 subst ey
 obtain ⟨t,rfl⟩:=ry
 obtain ⟨u,eu,ru⟩:=T.vals x v ef
 have hmap:=PySem.W.mapOf_K (prog:=X.prog) (w:=X.w) I2.kIn hl hk
 exact ⟨hmap.typeIs,wpAny_getItem_of (strKind_is X.prog X.w x t) hmap (PySem.W.find_K hl eu) ⟨v,H2,I2.tok _,ru,q2⟩⟩
end
section
variable {X:Cx} {pins:List (Addr × Obj)} {σ : St} {H:Hp} {s:Shared} {sc:Scope} {fr Nc:List Str} {fp:List Addr} {C:Addr}
end
section
variable {prog:Program} {w:World} {A:Around} {R:Result->Shared->Prop} {s:Shared}
end
section
variable {X:Cx} {pins:List (Addr × Obj)} {σ : St} {s:Shared} {sc:Scope} {fr Nc:List Str} {caps:List (Option Nat)} {kx vx tg iter:Expr} {ifs:List Expr} {g:TG} {tt:TT} {tk tv:TE} {ow:List Nat} {pos pos2:Pos} {E:Value->Shared->Prop}
end
theorem Vals.rev {xs:List V} {us:List Value} (r:Vals xs us):Vals xs.reverse us.reverse:=by
 induction r with
 | nil=>exact .nil
 | cons h t ih=>
  rw [List.reverse_cons,List.reverse_cons]
  exact ih.append (.cons h .nil)
def eqT (xs ys:List V):Bool:=((List.range (min xs.length ys.length)).all fun j=>eqV (xs[j]?.getD .non) (ys[j]?.getD .non)) && xs.length == ys.length
section
variable {X:Cx} {pins:List (Addr × Obj)} {σ : St} {H:Hp} {s:Shared}
end
section
variable {X:Cx} {elts:List Expr} {x1:Nat} {tpos:Pos}
end
def seen (val:Nat->Str) (T:Str->Bool):Nat->Nat->Str->Bool
 | _,0,z=>T z
 | i,k + 1,z=>seen val (fun y=>T y || decide (y = val i)) (i + 1) k z
section
variable {P:Program} {w:World} {A:Around} {R:Result->Shared->Prop} {I:Addr} {fp wr:List Addr} {G:Array GenState->Array GenState->Prop} {n:Nat} {Pr:Nat->Value->Prop} {Sg:Nat->Shared->Prop}
end
section
variable {X:Cx}
end
def intsTo (n:Nat):List Int:=(List.range n).map fun (i:Nat)=>(i:Int)
theorem Vals.of_at {ts:List Int}:∀ {us:List Value},us.length = ts.length->(∀ (i:Nat) (v:Value),us[i]? = some v->∃ t,v = Value.int (ts.getD i 0) t)->Vals (ts.map V.int) us:=by
 induction ts with
 | nil=>
  intro us hl _
  have:us = []:=List.length_eq_zero_iff.mp hl
  subst this
  exact .nil
 | cons t ts ih=>
  intro us hl h
  cases us with
  | nil=>cases hl
  | cons u us=>
   obtain ⟨k,e⟩:=h 0 u rfl
   exact .cons ⟨k,e⟩ (ih (by simpa using hl) fun i v e=>h (i + 1) v e)
section
variable {X:Cx}
theorem call_rng:CallR X (.type "range") (fun xs H Q=>∃ n:Nat,xs = [.int (n:Nat)]/\∀ p,H p = none->Q (.ref p) (upd H p (.rng 0 (n:Nat)))):=by
 intro pins s σ H xs us Q I r h
 obtain ⟨n,rfl,q⟩:=h
 obtain ⟨u,rfl,ru⟩:=vals1 r
 obtain ⟨t,rfl⟩:=ru
 refine call_range_1 ?_
 refine ⟨.ref s.heap.objs.size,_,I.laid (o:=.rng 0 (n:Nat)) (fun b u e=>Heap.get?_push_of_some _ e) (Nat.le_refl _) ?_,rfl,q _ (I.hok.fresh (Nat.le_refl _))⟩
 exact ⟨_,_,_,Heap.get?_push_size _ rfl⟩
theorem call_listR (hc:X.calm = true):CallR X (.type "list") (fun xs H Q=>∃ (p:Addr) (n:Nat),xs = [.ref p]/\H p = some (.rng 0 (n:Nat))/\n<=900/\∀ l,H l = none->Q (.ref l) (upd H l (.lst ((intsTo n).map V.int)))):=by
 intro pins s σ H xs us Q I r h
 obtain ⟨p,n,rfl,hp,hn,q⟩:=h
 obtain ⟨u,rfl,ru⟩:=vals1 r
 cases ru
 obtain ⟨t,u',v',e⟩:=I.hok p _ hp
 refine call_list_range (n:=n) (I.ok.hd hc) e ?_ ?_ (by omega) fun h' tk acc c' hk he hacc=>?_
 ·exact small_one (by omega) (by omega) (by omega) (by omega)
 ·unfold Builtin.Range.rangeSize
  rw [if_pos (by decide)]
  split <;> omega
 ·have hl:acc.toList.length = (intsTo n).length:=by
   unfold intsTo
   rw [List.length_map,List.length_range]
   simpa using hacc.1
  have hv:Vals ((intsTo n).map V.int) acc.toList:=Vals.of_at hl fun i v e=>by
   obtain ⟨t,rfl⟩:=hacc.2 i v (by simpa using e)
   refine ⟨t,?_⟩
   have hi:i < n:=by
    have:=(List.getElem?_eq_some_iff.mp e).1
    rw [hl] at this
    unfold intsTo at this
    simpa using this
   have eg:(intsTo n).getD i 0 = (i:Int):=by
    unfold intsTo
    rw [List.getD_eq_getElem?_getD,List.getElem?_map,List.getElem?_range hi]
    rfl
   rw [eg]
   simp
  refine ⟨.ref s.heap.objs.size,_,I.laid (t':=tk) (o:=.lst ((intsTo n).map V.int)) hk (Nat.le_refl _) ⟨?_,acc.toList,c',hv,by simpa using he⟩,rfl,q _ (I.hok.fresh (Nat.le_refl _))⟩
  unfold intsTo
  rw [List.length_map,List.length_map,List.length_range]
  have : 1000<=sizeLine:=by decide
  omega
end
end L2
namespace L2
open PySem PySem.W PySem.Builtin PySem.Builtin.ObjectAttr PySem.Spec PyProof.Rows
def xmIn (K:PySem.W.Frag) (C:Addr):Bool:=
 match K.lookup C with
 | some ⟨.type "type",_,.cls cd,sl⟩=>
  match cd.mro,sl.toList with
  | .ref C' :: bm,[_,_,_,_,some (.builtin n),_]=>C' == C && n == "ValueError.__new__" && !cd.hasDel && cd.hasDict && bm.contains (.type "ValueError") && bm.contains (.type "BaseException") && !bm.contains (.type "AttributeError") && !bm.contains (.type "NameError")
  | _,_=>false
 | _=>false
structure XObj (h:Heap) (C:Addr):Prop where
 ob:∃ nm q N bs bm sn sub ab col dd k0 k1 k2 k3 k5,h.get? C = some (excClassObj nm q C N bs bm true sn sub ab col dd k0 k1 k2 k3 k5 "ValueError.__new__")/\bm.contains (.type "ValueError") = true/\bm.contains (.type "BaseException") = true/\bm.contains (.type "AttributeError") = false/\bm.contains (.type "NameError") = false
theorem xobj_of {K:PySem.W.Frag} {h:Heap} {C:Addr} (X:K.In h) (q:xmIn K C = true):XObj h C:=by
 simp only [xmIn] at q
 split at q
 case h_2=>cases q
 rename_i dd cd sl ho
 obtain ⟨nm,bs,mro,ns,qn,hd,sn,sub,ab,col,del⟩:=cd
 obtain ⟨l⟩:=sl
 dsimp only at q
 split at q
 case h_2=>cases q
 rename_i C' m k0 k1 k2 k3 n k5
 simp only [Bool.and_eq_true,beq_iff_eq,Bool.not_eq_true'] at q
 obtain ⟨⟨⟨⟨⟨⟨⟨rfl,rfl⟩,rfl⟩,rfl⟩,h1⟩,h2⟩,h3⟩,h4⟩:=q
 exact ⟨_,_,_,_,_,_,_,_,_,_,_,_,_,_,_,X _ _ ho,h1,h2,h3,h4⟩
abbrev excNew (C t:Addr):Obj:={ cls:=.ref C,data:=.fields #[.ref t,.none,.none,.none,.bool false,.none] }
abbrev tupNew (us:List Value):Obj:={ cls:=.type "tuple",data:=.seq us.toArray }
section
variable {prog:Program} {w:World} {A:Around} {E:Value->Shared->Prop} {s:Shared} {K:PySem.W.Frag} {C f:Addr} {us:List Value}
theorem exc_new {R:Result->Shared->Prop} (m:XObj s.heap C) (hl:us.length<=sizeLine)
  (h:R (.ok (.ret (.ref (s.heap.objs.size + 1)))) { s with heap:=(s.heap.push (tupNew us)).push (excNew C s.heap.objs.size) }) :
  codeAny (model prog w) A (.call (.builtin "ValueError.__new__") ⟨.ref C :: us,[]⟩) R s:=by
 obtain ⟨hh,g,d,t,os⟩:=s
 obtain ⟨nm,q,N,bs,bm,sn,sub,ab,col,dd,k0,k1,k2,k3,k5,hC,b1,b2,b3,b4⟩:=m.ob
 have F:=PySem.F.excBase_ValueError
 refine codeAny_call_builtin_code (Code.quiet_builtin _ F.toExcCallFacts.quiet) ?_
 have k1':=F.newKind
 have k2':=F.newSplit
 have k3':=F.newRow
 simp only [checkBuiltinCall,k1',k2',k3']
 rw [if_pos (by decide +kernel)]
 refine wpAny_bind (ks_wpAny_isType_cls hC rfl ?_)
 rw [if_neg (by decide)]
 refine wpAny_bind (wpAny_isSubtype_exc hC ?_)
 rw [show (Value.ref C :: bm).contains (.type "ValueError") = true by rw [List.contains_cons,b1,Bool.or_true],if_neg (by decide)]
 refine wpAny_bind (wpAny_staticBase_exc hC (wpAny_bind (wpAny_madeBy_exc hC ?_)))
 dsimp only
 rw [if_neg (by decide +kernel)]
 rw [show Bind.checkArgs "ValueError.__new__" { machinery:=Manifest.Machinery.any,full:="ValueError",short:="ValueError",receiver:=Manifest.Receiver.cls,params:=[{ name:="args",kind:=Manifest.ParamKind.varPos,required:=false },{ name:="kwargs",kind:=Manifest.ParamKind.varKw,required:=false }] } { pos:=Value.ref C :: us } = pure () from rfl]
 refine wpAny_pure (PyProof.Rows.codeAny_builtin_at F.toExcCallFacts.toExcNewFacts.entry ?_)
 unfold Builtin.«BaseException.__new__»
 refine PyProof.Rows.wpAt_bind (PyProof.Rows.wpAt_owner rfl F.toExcCallFacts.toExcNewFacts.ends (PyProof.Rows.wpAt_of_any ?_))
 rw [F.toExcCallFacts.toExcNewFacts.owner]
 dsimp only
 refine wpAny_bind (ks_wpAny_isType_cls hC rfl ?_)
 rw [if_neg (by decide)]
 refine wpAny_bind (wpAny_isSubtype_exc hC ?_)
 rw [show (Value.ref C :: bm).contains (.type "ValueError") = true by rw [List.contains_cons,b1,Bool.or_true],if_neg (by decide)]
 refine wpAny_bind (wpAny_madeHere_exc F.canon hC ?_)
 have c3:(Value.ref C :: bm).contains (.type "AttributeError") = false:=by rw [List.contains_cons,b3]; rfl
 have c4:(Value.ref C :: bm).contains (.type "NameError") = false:=by rw [List.contains_cons,b4]; rfl
 refine wpAny_bind (?_:wpAny _ _ (do
   let x <- isSubtype (.ref C) (.type "AttributeError")
   if x = true then pure 2
   else do
    let y <- isSubtype (.ref C) (.type "NameError")
    if y = true then pure 1 else pure 0:Sem Nat) _ _ _)
 refine wpAny_bind (wpAny_isSubtype_exc hC ?_)
 rw [c3,if_neg Bool.false_ne_true]
 refine wpAny_bind (wpAny_isSubtype_exc hC ?_)
 rw [c4,if_neg Bool.false_ne_true]
 refine wpAny_pure (wpAny_bind (wpAny_newTuple ?_ hl))
 have hC2:=Heap.get?_push_of_some (tupNew us) hC
 unfold newObj
 dsimp only
 rw [if_neg (by show ¬ 6 > sizeLine + 2; decide)]
 unfold newObjAsIs
 refine wpAny_bind (wpAny_bind (wpAny_alloc ?_))
 dsimp only
 refine wpAny_bind ?_
 unfold classHasDel
 refine wpAny_bind (wpAny_load (Heap.get?_push_of_some _ hC2) ?_)
 dsimp only
 refine wpAny_pure ?_
 rw [if_neg Bool.false_ne_true]
 refine wpAny_pure (wpAny_pure ?_)
 have e1:(hh.push (tupNew us)).objs.size = hh.objs.size + 1:=Heap.size_push _ _
 show R (.ok (.ret (.ref (hh.push (tupNew us)).objs.size))) _
 rw [e1]
 exact h
structure XCall (K:PySem.W.Frag) (C f:Addr):Prop where
 ob:xmIn K C = true
 init:findIn K (.ref C) "__init__" = some (some (.ref f))
 fn:isFn K (.ref f) = true
 call:specialIn K (.ref C) "__call__" = some (some (.builtin "type.__call__"))
 typ:instIn K (.ref C) (.type "type") = some true
 kp:keepIn K (.ref C) = true
theorem exc_call {R:Result->Shared->Prop} (X:K.In s.heap) (m:XCall K C f) (hl:us.length<=sizeLine)
  (h:codeAny (model prog w) (A.under (.builtin "type.__call__" ⟨.ref C :: us,[]⟩)) (.call (.ref f) ⟨.ref (s.heap.objs.size + 1) :: us,[]⟩) (InitBack (s.heap.objs.size + 1) R)
   { s with heap:=(s.heap.push (tupNew us)).push (excNew C s.heap.objs.size) }):codeAny (model prog w) A (.call (.ref C) ⟨us,[]⟩) R s:=by
 have mo:=xobj_of X m.ob
 have LC:=looks_specialIn (M:=model prog w) X m.call
 have LT:=looks_instIn (M:=model prog w) X m.typ
 obtain ⟨hh,g,d,t,os⟩:=s
 obtain ⟨nm,q,N,bs,bm,sn,sub,ab,col,dd,k0,k1,k2,k3,k5,hC,b1,b2,b3,b4⟩:=mo.ob
 refine codeAny_of_own ?_
 show wpOwn _ _ _ (callAny (.ref C) ⟨us,[]⟩) _ _ _
 unfold callAny
 refine wpOwn_of_wpAny ?_
 dsimp only
 refine wpAny_bind (wpAny_load hC ?_)
 dsimp only
 unfold callAny.viaDunder
 refine wpAny_bind (LC.at ?_)
 dsimp only
 rw [show bindSpecial (.builtin "type.__call__") (.ref C) = pure (.builtin "type.__call__",[.ref C]) from by with_unfolding_all rfl]
 refine wpAny_bind (wpAny_pure ?_)
 dsimp only
 rw [show callAny.plainCallee (.builtin "type.__call__") = pure true from by with_unfolding_all rfl]
 refine wpAny_bind (wpAny_pure ?_)
 rw [if_pos rfl]
 refine wpAny_pure ⟨rfl,?_⟩
 refine codeAny_call_builtin_code (Code.quiet_builtin _ (by decide +kernel)) ?_
 have k1':builtinKind "type.__call__" = some .slot:=by decide +kernel
 have k2':splitId "type.__call__" = some ("type","__call__"):=by decide +kernel
 simp only [checkBuiltinCall,k1',k2',List.cons_append,List.nil_append]
 refine wpAny_bind (LT.at ?_)
 rw [if_neg (by decide)]
 have k3':Manifest.signature? "type.__call__" = some { machinery:=.hand,full:="wrapper __call__",short:="",receiver:=.self,params:=[] }:=by with_unfolding_all rfl
 rw [k3']
 dsimp only
 rw [show Bind.checkArgs "type.__call__" { machinery:=.hand,full:="wrapper __call__",short:="",receiver:=.self,params:=[] } { pos:=Value.ref C :: us } = pure () from rfl]
 refine wpAny_pure (codeAny_builtin (b:=Builtin.«type.__call__») rfl ?_)
 unfold Builtin.«type.__call__»
 dsimp only
 rw [if_neg (show ¬ (Value.ref C == Value.type "type") = true from fun z=>by cases z)]
 refine wpAny_bind (wpAny_mroOf_exc hC ?_)
 rw [if_neg (show ¬ (Value.ref C :: bm).isEmpty = true from Bool.false_ne_true)]
 refine wpAny_bind (wpAny_madeBy_exc hC ?_)
 dsimp only
 refine wpAny_bind (wpAny_pure (wpAny_bind (wpAny_holding (wpAny_call (exc_new mo hl ?_)))))
 dsimp only at h |-
 have kp:∀ b o,hh.get? b = some o->((hh.push (tupNew us)).push (excNew C hh.objs.size)).get? b = some o:=fun b o e=>Heap.get?_push_of_some _ (Heap.get?_push_of_some _ e)
 have X2:K.In ((hh.push (tupNew us)).push (excNew C hh.objs.size)):=X.keeps kp
 have eo:((hh.push (tupNew us)).push (excNew C hh.objs.size)).get? (hh.objs.size + 1) = some (excNew C hh.objs.size):=by
  have:=Heap.get?_push_size (hh.push (tupNew us)) (o:=excNew C hh.objs.size) rfl
  rwa [Heap.size_push] at this
 have LI:=looks_findIn (M:=model prog w) X2 m.init
 have LB:=bind_fn (M:=model prog w) X2 (.ref (hh.objs.size + 1)) (beq_iff_eq.mp m.fn)
 generalize (hh.push (tupNew us)).push (excNew C hh.objs.size) = h2 at h kp X2 eo LI LB |-
 unfold isInstance
 have LTy:Looks (model prog w) h2 (typeOf (.ref (hh.objs.size + 1))) (.ref C):=(Looks.ld eo).andThen .now
 refine wpAny_bind (wpAny_bind (LTy.at (wpAny_isSubtype_exc (kp _ _ hC) ?_)))
 rw [show (Value.ref C :: bm).contains (.ref C) = true by rw [List.contains_cons,beq_self_eq_true,Bool.true_or],if_neg (by decide)]
 refine wpAny_bind (wpAny_holding ?_)
 unfold callSpecial? specialOf
 refine wpAny_bind (wpAny_bind (LTy.at (LI.at ?_)))
 dsimp only
 refine wpAny_holding (wpAny_bind (LB.at ?_))
 dsimp only
 refine wpAny_bind (wpAny_call (codeAny_mono h fun r s' hq=>?_))
 cases r with
 | error e=>exact hq
 | ok fl=>
  cases fl with
  | ret u=>
   obtain ⟨rfl,hq⟩:=hq
   refine wpAny_pure ?_
   dsimp only
   rw [if_neg (by decide)]
   exact wpAny_pure hq
  | next=>exact False.elim hq
  | brk=>exact False.elim hq
  | cont=>exact False.elim hq
end
def veMro:List Value:=[.type "ValueError",.type "Exception",.type "BaseException",.type "object"]
def refsThen:List Value->Bool
 | .ref _ :: l=>refsThen l
 | l=>l == veMro
def xtIn (K:PySem.W.Frag) (C:Addr):Bool:=(clsIn K C).any fun cd=>cd.hasDict && refsThen cd.mro
section
variable {prog:Program} {w:World} {A:Around} {E:Value->Shared->Prop} {s:Shared} {K:PySem.W.Frag} {C x:Addr} {us:List Value}
theorem over_loop {M:Model} {Q:Option Unit × Unit->Shared->Prop} {self:Value}:∀ (l:List Value),refsThen l = true->(Q (some (),()) s)->
  wpAny M A (forIn l ((none,()):Option Unit × Unit) fun c __s=>
    match c with
    | Value.type n=>
     if (n == "_thread._local") = true then do
      rule "setattr.thread-local-passed-by"
      pure (ForInStep.yield (none,()))
     else
      if (n == "_pickle.Pickler" || n == "_pickle.Unpickler") = true then do
       rule "setattr.pickle-types-passed-by"
       pure (ForInStep.yield (none,()))
      else do
       let own <- classOwn c (Str.ofString "__setattr__")
       if own.isSome = true then
         have __do_jp:=fun (__r:Unit)=>pure (ForInStep.done (some (),()));
         if (!isObjects n (Str.ofString "__setattr__").toString) = true then do
          rule "setattr.built-in-override"
          let tn <- PySem.typeNameOf self
          let __r <-
           raiseErrorMade "TypeError"
             (toString "can't apply this " ++ toString (Str.ofString "__setattr__").toString ++ toString " to " ++
               toString tn ++
              toString " object")
          __do_jp __r
         else __do_jp ()
        else pure (ForInStep.yield (none,()))
    | x=>pure (ForInStep.yield (none,()))) Q E s:=by
 intro l
 have o1:classOwn (.type "ValueError") (Str.ofString "__setattr__") = pure none:=by with_unfolding_all rfl
 have o2:classOwn (.type "Exception") (Str.ofString "__setattr__") = pure none:=by with_unfolding_all rfl
 have o3:classOwn (.type "BaseException") (Str.ofString "__setattr__") = pure none:=by with_unfolding_all rfl
 have o4:=F.own_object_setattr
 induction l with
 | nil=>intro h; exact absurd h (by decide)
 | cons c l ih=>
  intro h q
  rw [List.forIn_cons]
  cases c with
  | ref a=>exact wpAny_bind (wpAny_pure (ih h q))
  | type n=>
   have e:Value.type n :: l = veMro:=by
    have:(Value.type n :: l == veMro) = true:=h
    exact eq_of_beq this
   unfold veMro at e
   injection e with e1 e2
   injection e1 with e1
   subst e1 e2
   have n1:∀ n:String,n ∈ ["ValueError","Exception","BaseException","object"]->(n == "_thread._local") = false/\(n == "_pickle.Pickler" || n == "_pickle.Unpickler") = false:=by decide +kernel
   simp only [List.forIn_cons,n1 "ValueError" (by decide),n1 "Exception" (by decide),n1 "BaseException" (by decide),n1 "object" (by decide),o1,o2,o3,o4,Bool.false_eq_true,if_false]
   refine wpAny_bind (wpAny_bind (wpAny_pure ?_))
   refine wpAny_pure ?_
   refine wpAny_bind (wpAny_bind (wpAny_pure ?_))
   refine wpAny_pure ?_
   refine wpAny_bind (wpAny_bind (wpAny_pure ?_))
   refine wpAny_pure ?_
   refine wpAny_bind (wpAny_bind (wpAny_pure ?_))
   rw [if_pos (show (some (Value.builtin "object.__setattr__")).isSome = true from rfl),if_neg (show ¬ (!isObjects "object" (Str.ofString "__setattr__").toString) = true by unfold isObjects; simp)]
   exact wpAny_pure (wpAny_pure q)
  | _=>exact absurd h (by simp [refsThen,veMro])
theorem wp_eq {α : Type} {M:Model} {A:Around} {t t':Sem α} {Q : α->Shared->Prop} {E:Value->Shared->Prop} {s:Shared} (e:t = t') (h:wpAny M A t' Q E s):wpAny M A t Q E s:=e ▸ h
structure XSet (K:PySem.W.Frag) (C:Addr):Prop where
 t:xtIn K C = true
 sa:findIn K (.ref C) "__setattr__" = some (some (.builtin "object.__setattr__"))
 ob:mroIn K C (.type "object") = some true
theorem XSet.cd (m:XSet K C):∃ cd,clsIn K C = some cd/\cd.hasDict = true/\refsThen cd.mro = true:=by
 have:=m.t
 unfold xtIn at this
 cases e:clsIn K C with
 | none=>rw [e] at this; cases this
 | some cd=>
  rw [e] at this
  have h2:(cd.hasDict && refsThen cd.mro) = true:=this
  exact ⟨cd,rfl,(Bool.and_eq_true _ _ ▸ h2).1,(Bool.and_eq_true _ _ ▸ h2).2⟩
theorem set_exc {oe:Obj} {vs:Array Value} {name:Str} {v:Value} {Q:Unit->Shared->Prop} (X:K.In s.heap) (m:XSet K C) (ha:findIn K (.ref C) name = some none) (he:s.heap.get? x = some oe) (hc:oe.cls = .ref C) (hd:oe.data = .fields vs) (hn:oe.dict = none)
  (h:∀ h':Heap,(∀ b o,b ≠ x->s.heap.get? b = some o->h'.get? b = some o)->h'.get? x = some { oe with dict:=some s.heap.objs.size }->h'.Ns1 s.heap.objs.size (fun y=>if y = name then some v else none)->Q () { s with heap:=h',toks:=s.toks + 2 }) :
  wpAny (model prog w) A (setAttr (.ref x) name v) Q E s:=by
 obtain ⟨cd,hcd,hdict,hmro⟩:=m.cd
 have IA:InstAt s.heap x oe C none:=⟨he,hc,by unfold notCls; rw [hd],by rw [hn]; trivial⟩
 refine set_plain X IA m.sa ?_
 have LO:=looks_mroIn (M:=model prog w) X m.ob
 have LF:=looks_findIn (M:=model prog w) X ha
 have LCd:=looks_clsIn (M:=model prog w) X hcd
 have LTy:Looks (model prog w) s.heap (typeOf (.ref x)) (.ref C):=hc ▸ (Looks.ld he).andThen .now
 obtain ⟨hh,g,d,t,os⟩:=s
 dsimp only at *
 refine codeAny_call_builtin F.slot_object_setattr.plain F.entry_object_setattr ?_
 have k1:=F.bk_object_setattr
 have k2:=F.sp_object_setattr
 simp only [checkBuiltinCall,k1,k2]
 refine wpAny_bind ?_
 unfold isInstance
 refine wpAny_bind (LTy.at ?_)
 refine LO.at ?_
 rw [if_neg (by decide)]
 have k3:=F.args_object_setattr_3 (.ref x) (.str name t) v
 refine wp_eq k3 (wpAny_pure ?_)
 unfold Builtin.«object.__setattr__»
 rw [if_neg (show ¬ (!(⟨[Value.ref x,Value.str name t,v],[]⟩:Args).kw.isEmpty) = true from Bool.false_ne_true)]
 dsimp only
 unfold refuseIfOverridden
 refine wpAny_bind (wpAny_bind (LTy.at (wpAny_bind ?_)))
 unfold mroOf
 refine wpAny_bind (LCd.at (wpAny_pure (wpAny_bind (over_loop _ hmro ?_))))
 dsimp only
 refine wpAny_pure (wpAny_bind ?_)
 unfold attrName
 refine wpAny_pure (wpAny_bind (LTy.at (wpAny_bind (LF.at (wpAny_bind ?_)))))
 unfold storeTaker?
 refine wpAny_pure ?_
 dsimp only
 unfold storeInOwnDict ownStreamTells
 refine wpAny_bind (wpAny_pure ?_)
 rw [if_neg (show ¬ (Value.ref C == Value.type "module") = true from fun z=>by cases z)]
 unfold ownDictForStores instanceDict
 refine wpAny_bind (wpAny_bind (wpAny_loadPart he ?_))
 rw [hc]
 dsimp only
 refine wpAny_bind (LCd.at ?_)
 rw [hdict,hn,hd]
 dsimp only
 rw [if_neg (by decide),if_neg (show ¬ (!true || !typeHasDict (Value.ref C)) = true from Bool.false_ne_true)]
 refine wpAny_bind (wpAny_alloc (wpAny_bind (wpAny_update (Heap.get?_push_of_some _ he) ?_)))
 unfold dictMade
 refine wpAny_pure ?_
 dsimp only
 unfold storeInDict newKeyGuard
 refine wpAny_bind (wpAny_pure (wpAny_bind ?_))
 have xlt:x ≠ hh.objs.size:=Nat.ne_of_lt (Heap.lt_size he)
 have u1:((hh.push { cls:=.type "dict",data:=.dict #[] }).update x fun o=>{ cls:=o.cls,dict:=some hh.objs.size,data:=o.data,slots:=o.slots }).get? hh.objs.size = some { cls:=.type "dict",data:=.dict #[] }:=by
  rw [Heap.get?_update_ne _ _ _ _ (Ne.symm xlt)]
  exact Heap.get?_push_size hh rfl
 have n1:((hh.push { cls:=.type "dict",data:=.dict #[] }).update x fun o=>{ cls:=o.cls,dict:=some hh.objs.size,data:=o.data,slots:=o.slots }).Ns1 hh.objs.size (fun _=>none):=Heap.Ns1.of_empty ⟨_,#[],_,u1,rfl,(fun e he=>absurd he (by simp)),fun _=>rfl⟩
 refine wpAny_nsSet1 n1 fun h' hn2 hs2=>?_
 have wi:PySem.Within (fun y=>if y = name then some v else none) [name]:=fun y hy=>by
  by_cases e:y = name
  ·rw [e]; exact List.mem_singleton.mpr rfl
  ·exact absurd (if_neg e) hy
 obtain ⟨oD,esD,epD,hoD,hdD,hcD⟩:=hn2.count wi
 refine wpAny_bind (wpAny_lookBehind hoD (by rw [hdD]; exact pastItsLine_dict (Nat.le_trans hcD (by show 1<=sizeLine + 1; decide))) ?_)
 refine wpAny_pure ?_
 have ux:((hh.push { cls:=.type "dict",data:=.dict #[] }).update x fun o=>{ cls:=o.cls,dict:=some hh.objs.size,data:=o.data,slots:=o.slots }).get? x = some { oe with dict:=some hh.objs.size }:=
  Heap.get?_update_self _ (Heap.get?_push_of_some _ he) (by unfold Obj.isFreed; rw [hd])
 refine h h' (fun b o hb e=>?_) ?_ hn2
 ·have hb2:b ≠ hh.objs.size:=Nat.ne_of_lt (Heap.lt_size e)
  rw [hs2.2 b hb2,Heap.get?_update_ne _ _ _ _ hb]
  exact Heap.get?_push_of_some _ e
 ·rw [hs2.2 x xlt]
  exact ux
end
end L2
namespace L2
open PySem PySem.W PySem.Builtin PySem.Builtin.ObjectAttr PySem.Builtin.Getset_descriptor PySem.Spec PyProof.Rows
section
variable {prog:Program} {w:World} {A:Around} {E:Value->Shared->Prop} {s:Shared} {K:PySem.W.Frag} {C D x dx:Addr} {us:List Value}
theorem get_exc {oe:Obj} {vs:Array Value} {name:Str} {v:Value} {mA:Str->Option Value} {b:Bool} {Q:Value->Shared->Prop} (c:ExcCls K D) (m:XSet K D) (X:K.In s.heap) (ha:findIn K (.ref D) name = some none) (he:s.heap.get? x = some oe) (hc:oe.cls = .ref D) (hd:oe.data = .fields vs) (hx:oe.dict = some dx)
  (hn:s.heap.Ns1 dx mA) (hv:mA name = some v) (hv':handedIn v = true) (h:Q v { s with toks:=s.toks + 1 }):wpAny (model prog w) A (getAttr (.ref x) name b) Q E s:=by
 obtain ⟨cd,hcd,hdict,hmro⟩:=m.cd
 obtain ⟨hh,g,dr,t,os⟩:=s
 have LT:Looks (model prog w) hh (typeOf (.ref x)) (.ref D):=hc ▸ (Looks.ld he).andThen .now
 have LG:=looks_findIn (M:=model prog w) X c.ga
 have LN:=looks_findIn (M:=model prog w) X c.no
 have LC:=looks_findIn (M:=model prog w) X ha
 have LB:=looks_mroIn (M:=model prog w) X c.be
 have LCd:=looks_clsIn (M:=model prog w) X hcd
 unfold getAttr
 refine wpAny_bind (wpAny_mkText ?_)
 unfold getAttrBy
 dsimp only
 refine wpAny_holding (wpAny_bind (LT.at (wpAny_bind (LG.at ?_))))
 have hne:(onTheHeap (Value.ref D) && Value.builtin "BaseException.__getattribute__" == Value.builtin "object.__getattribute__") = false:=by
  rw [show (Value.builtin "BaseException.__getattribute__" == Value.builtin "object.__getattribute__") = false from by decide +kernel,Bool.and_false]
 dsimp only
 rw [hne]
 rw [if_neg Bool.false_ne_true]
 unfold getAttrByItsOwn hookBefore
 rw [if_pos (show onTheHeap (Value.ref D) = true from rfl)]
 refine wpAny_bind (LN.at (wpAny_bind (wpAny_attempt (wpAny_holding ?_))))
 unfold callGetattribute boundAndCalled
 rw [if_neg (show ¬ (b && onTheHeap (Value.builtin "BaseException.__getattribute__")) = true from by rw [show onTheHeap (Value.builtin "BaseException.__getattribute__") = false from rfl,Bool.and_false]; exact Bool.false_ne_true)]
 have fb:=PySem.F.attrBase_ValueError.ga
 rw [fb.bind (.ref x)]
 refine wpAny_bind (wpAny_pure ?_)
 refine wpAny_call (codeAny_call_builtin fb.plain F.entry_bexc_ga ?_)
 have k1:builtinKind "BaseException.__getattribute__" = some .slot:=by decide +kernel
 have k2:splitId "BaseException.__getattribute__" = some ("BaseException","__getattribute__"):=by decide +kernel
 have k3:=F.args_bexc_ga (.ref x) (.str name t)
 simp only [checkBuiltinCall,k1,k2,List.cons_append,List.nil_append]
 refine wpAny_bind ?_
 unfold isInstance
 refine wpAny_bind (LT.at (LB.at ?_))
 rw [if_neg (by decide)]
 refine wp_eq k3 (wpAny_pure ?_)
 unfold Builtin.«object.__getattribute__»
 obtain ⟨od,hod,hlk⟩:=lookIn_ns hn
 have IA:InstAt hh x oe D (some od):=⟨he,hc,by unfold notCls; rw [hd],by rw [hx]; exact hod⟩
 have hD:hasDictIn K D = true:=by unfold hasDictIn; rw [hcd]; exact hdict
 have LFi:=looks_find (M:=model prog w) X IA (findObj_own hD ha rfl (by rw [hlk,hv]))
 rw [show slotArgs "__getattribute__" 1 { pos:=[Value.ref x,Value.str name t] } = pure (.ref x,[.str name t]) from rfl]
 refine wpAny_bind (wpAny_pure (wpAny_bind ?_))
 unfold attrName
 refine wpAny_pure (wpAny_bind (LT.at (wpAny_bind (LFi.at ?_))))
 refine wpAny_pure ?_
 show wpAny _ _ (handedOut v) _ _ _
 rw [handedOut_of hv']
 exact wpAny_pure h
end
end L2
namespace L2
open PySem PySem.Spec PyProof.Rows
abbrev excX (ea C:Addr) (od:Option Addr) (t:Addr):HO:=.ext fun h=>h.get? ea = some { cls:=.ref C,dict:=od,data:=.fields #[.ref t,.none,.none,.none,.bool false,.none] }
theorem excX_ok {P:Program} {w:World} {H:Hp} {h:Heap} {ea C t:Addr} {od:Option Addr} (e:h.get? ea = some { cls:=.ref C,dict:=od,data:=.fields #[.ref t,.none,.none,.none,.bool false,.none] }):ObjOk P w H h ea (excX ea C od t):=
 ⟨e,⟨_,e⟩,fun g1 g2 q k=>k _ q⟩
section
variable {X:Cx} {pins:List (Addr × Obj)} {σ : St} {H:Hp} {s:Shared} {x C t:Addr} {f:Str} {y:V} {u:Value} {A:Around} {E:Value->Shared->Prop}
theorem excX_at {od:Option Addr} (I:Inv X pins σ H s) (e:H x = some (excX x C od t)):s.heap.get? x = some { cls:=.ref C,dict:=od,data:=.fields #[.ref t,.none,.none,.none,.bool false,.none] }:=(I.hok x _ e).1
theorem setX_ok {Q:Unit->Shared->Prop} (I:Inv X pins σ H s) (e:H x = some (excX x C none t)) (m:XSet X.K C) (n:NoAttr X.K C f) (ry:RelV y u)
  (h:∀ dx s',H dx = none->Inv X pins σ (upd (upd H x (excX x C (some dx) t)) dx (.xd [(f,y)])) s'->Q () s'):wpAny (model X.prog X.w) A (setAttr (.ref x) f u) Q E s:=by
 have hx:=excX_at I e
 have hsz:H s.heap.objs.size = none:=I.hok.fresh (Nat.le_refl _)
 refine set_exc I.kIn m n hx rfl rfl rfl fun h' k e1 ns=>h s.heap.objs.size _ hsz ?_
 have I1:Inv X pins σ (upd H x (excX x C (some s.heap.objs.size) t)) { s with heap:=h',toks:=s.toks + 2 }:=
  I.write (by rw [e]; exact True.intro) (.inl rfl) k ⟨_,e1⟩ (excX_ok e1)
 have nx:s.heap.objs.size ≠ x:=Ne.symm (Nat.ne_of_lt (Heap.lt_size hx))
 refine I1.track (by rw [upd_ne nx]; exact hsz) ⟨_,ns,fun g=>?_⟩ (fun v e2 _ _=>?_) (fun z=>?_) (fun z c e2 z2=>?_) fun p hp z=>?_
 ·show RelO (List.lookup g [(f,y)]) (if g = f then some u else none)
  by_cases q:g = f
  ·subst q; rw [List.lookup_cons_self,if_pos rfl]; exact ry
  ·rw [List.lookup_cons,beq_eq_false_iff_ne.mpr q,if_neg q]; trivial
 ·exact absurd (Heap.lt_size e2) (Nat.not_lt.mpr I.sz)
 ·have:=I.lt
  rw [z] at this
  exact absurd this (Nat.lt_irrefl _)
 ·obtain ⟨v,oc,hoc,_⟩:=I.cell z c e2
  rw [z2] at hoc
  exact absurd (Heap.lt_size hoc) (Nat.lt_irrefl _)
 ·have:=(I.pin p hp).1
  rw [z] at this
  exact absurd (Heap.lt_size this) (Nat.lt_irrefl _)
end
def sFldX (K:PySem.W.Frag) (ta tv:TE) (f:Str):TS:=fun D σ H=>tv σ H fun y H1=>ta σ H1 fun x H2=>∃ (a C t:Addr),x = .ref a/\H2 a = some (excX a C none t)/\XSet K C/\NoAttr K C f/\∀ dx,H2 dx = none->D.nx σ (upd (upd H2 a (excX a C (some dx) t)) dx (.xd [(f,y)]))
section
variable {X:Cx} {o e value:Expr} {f:Str} {pos pos' tpos:Pos} {ta tv:TE}
theorem ps_fldX (ha:PE X o ta) (hv:PE X value tv) (hs:swapsWith value (some (.Attribute o f pos')) pos.line X.env = pure false):PS X (.Assign [.Attribute o f pos'] value pos) (sFldX X.K ta tv f):=by
 refine ⟨?_⟩
 intro pins s σ H D I h
 refine plainObj_wpAny_Assign_Attribute (thn (hv pins s σ H _ I h) fun u s1 ⟨y,H1,I1,ry,q⟩=>thn (ha pins s1 σ H1 _ I1 q) fun ov s2 ⟨x,H2,I2,rx,a,C,t,ex,ea,c,n,q2⟩=>?_) hs
 subst ex
 obtain rfl:ov = Value.ref a:=rx
 exact setX_ok I2 ea c n ry fun dx s3 hdx I3=>⟨σ,_,I3,q2 dx hdx⟩
end
def tMakeX (C:Addr) (sp:Sp) (E:XK) (t:TA):TE:=fun σ H Q=>t σ H fun vs H1=>vs.length<=sizeLine/\∀ x tu,H1 x = none->H1 tu = none->tu ≠ x->sp (.ref x :: vs) (upd H1 x (excX x C none tu)) (fun v H2=>v = .non/\Q (.ref x) H2) E
section
variable {X:Cx} {CX:CXT} {k:Nat} {f C:Addr} {fd:FuncData} {ps:List Str} {sp:Sp} {E:XK} {x:Str} {p pos:Pos} {e:Expr} {es:List Expr} {t:TA}
theorem Inv.madeX {pins:List (Addr × Obj)} {σ : St} {H:Hp} {s:Shared} {us:List Value} (I:Inv X pins σ H s):Inv X pins σ (upd H (s.heap.objs.size + 1) (excX (s.heap.objs.size + 1) C none s.heap.objs.size)) { s with heap:=(s.heap.push (tupNew us)).push (excNew C s.heap.objs.size) }:=by
 refine I.laid (fun b u e=>Heap.get?_push_of_some _ (Heap.get?_push_of_some _ e)) (Nat.le_succ _) (excX_ok ?_)
 have:=Heap.get?_push_size (s.heap.push (tupNew us)) (o:=excNew C s.heap.objs.size) rfl
 rwa [Heap.size_push] at this
theorem run_makeX {pins:List (Addr × Obj)} {σ : St} {H:Hp} {s:Shared} {Q:VK} {us:List Value} {vs:List V} (M:XCall X.K C f) (F:FnOk X.prog X.w X.K X.mg X.base CX k f fd ps sp) (hr:Room (k + 1) X.A) (hb:Binds X.K fd ps [])
  (hx:Passes CX X E) (I:Inv X pins σ H s) (r:Vals vs us) (hl:vs.length<=sizeLine)
  (h:∀ x tu,H x = none->H tu = none->tu ≠ x->sp (.ref x :: vs) (upd H x (excX x C none tu)) (fun v H2=>v = .non/\Q (.ref x) H2) E) :
  wpAny (model X.prog X.w) X.A (call (.ref C) us) (EP X pins σ Q) X.xe s:=by
 have hq:=h (s.heap.objs.size + 1) s.heap.objs.size (I.hok.fresh (Nat.le_succ _)) (I.hok.fresh (Nat.le_refl _)) (Nat.ne_of_lt (Nat.lt_succ_self _))
 have I2:=Inv.madeX (C:=C) (us:=us) I
 have r2:Vals (V.ref (s.heap.objs.size + 1) :: vs) (Value.ref (s.heap.objs.size + 1) :: us):=.cons rfl r
 have hl2:(Value.ref (s.heap.objs.size + 1) :: us ++ []).length = ps.length:=by
  have e:=r2.length
  rw [F.len _ _ _ _ hq] at e
  rw [List.append_nil]
  exact e.symm
 have hb2:=hb _ (Value.ref (s.heap.objs.size + 1) :: us) I2.kIn hl2
 rw [List.append_nil] at hb2
 refine wpAny_call (exc_call I.kIn M (by rw [<- r.length]; exact hl) (codeAny_mono (F.run _ X.stack _ _ ⟨Value.ref (s.heap.objs.size + 1) :: us,[]⟩ (Value.ref (s.heap.objs.size + 1) :: us) _ _ E (hr.make C us [])
  (I2.env0.make C us []) hb2 r2 hq) fun r s' hq'=>?_))
 cases r with
 | error e=>exact hx pins σ _ _ e s' I2 hq'
 | ok fl=>
  cases fl with
  | ret u=>
   obtain ⟨v,H',I3,rv,ev,q3⟩:=I2.after hq'
   subst ev
   exact ⟨rv,⟨V.ref (s.heap.objs.size + 1),H',I3,rfl,q3⟩⟩
  | next=>exact False.elim hq'
  | brk=>exact False.elim hq'
  | cont=>exact False.elim hq'
theorem pe_makeX (M:XCall X.K C f) (F:FnOk X.prog X.w X.K X.mg X.base CX k f fd ps sp) (hr:Room (k + 1) X.A) (hg:Gl X x) (hm:X.mg x = some (.ref C)) (hb:Binds X.K fd ps []) (hx:Passes CX X E)
  (ha:PA X (e :: es) t) (hdb:(x == ("__debug__" : Str)) = false:=by decide) (he:starEach (e :: es) X.env = (false,eval e X.env) :: starEach es X.env:=by rfl) (hpl:(backTo pos (starEach es X.env)).any (·.1) = false:=by rfl) :
  PE X (.Call (.Name x p) (e :: es) [] pos) (tMakeX C sp E t):=by
 refine ⟨?_⟩
 intro pins s σ H Q I h
 refine wpAny_Call_Name_kw (ld_glob I hg hm ?_ hdb)
 refine PySem.W.callWith_K (h₀:=X.base) I.ok.mod.kin M.kp (thn (ha pos pins s σ H _ I h) fun us s1 ⟨vs,H1,I1,r,hl,q⟩=>⟨I1.kIn,?_⟩) he hpl
 exact run_makeX M F hr hb hx I1 r hl q
end
def drop (H:Hp) (a:Addr):Hp:=fun b=>if b = a then none else H b
theorem drop_same {H:Hp} {a:Addr}:drop H a a = none:=by unfold drop; rw [if_pos rfl]
theorem drop_ne {H:Hp} {a b:Addr} (h:b ≠ a):drop H a b = H b:=by unfold drop; rw [if_neg h]
theorem drop_some {H:Hp} {a b:Addr} {u:HO} (h:drop H a b = some u):b ≠ a/\H b = some u:=by
 unfold drop at h
 split at h
 ·cases h
 ·exact ⟨‹_›,h⟩
theorem HOk.drop {P:Program} {w:World} {H:Hp} {h:Heap} {a:Addr} {φ : Heap->Prop} (x:HOk P w H h) (ha:H a = some (.ext φ)):HOk P w (drop H a) h:=fun b u e=>by
 obtain ⟨hb,e⟩:=drop_some e
 exact (x b u e).stay (fun _ _ _ q=>q) (fun c q=>by rw [drop_ne (fun z=>by rw [z,ha] at q; cases q)]; exact q) fun c xs q=>by rw [drop_ne (fun z=>by rw [z,ha] at q; cases q)]; exact q
section
variable {X:Cx} {pins:List (Addr × Obj)} {σ : St} {H:Hp} {s:Shared} {ea C t:Addr} {od:Option Addr} {M:Model} {E:Value->Shared->Prop}
end
section
variable {X:Cx} {E:XK} {pos:Pos} {e:Expr} {te:TE}
end
section
variable {P:Program} {w:World} {K:PySem.W.Frag} {mg:Str->Option Value} {base:Heap} {N:List Str} {qual:Str} {scope:Scope} {f:Addr} {cd:Value} {A:Around} {outer:List Env} {s:Shared} {H:Hp} {E E':XK}
end
section
variable {X:Cx} {x:Str} {C:Addr} {B Bn newId nid initId inN:String} {bm bmN:List Value} {np pos:Pos} {e:Expr} {es:List Expr} {t:TA}
end
section
variable {X:Cx} {pins:List (Addr × Obj)} {σ : St} {H:Hp} {s:Shared} {M:Model} {A:Around} {E:Value->Shared->Prop} {i:Nat} {n:Str} {pos:Pos}
end
section
variable {X:Cx} {pins:List (Addr × Obj)} {σ : St} {H:Hp} {s:Shared} {ea:Addr}
variable {st b₀:Stmt} {suite:List Stmt} {c n:Str} {np hpos pos:Pos} {C:Addr} {i:Nat} {tb:XK->TS} {ts:TS} {ok:Value->Prop}
end
section
variable {X:Cx} {pins:List (Addr × Obj)} {σ : St} {e:Expr} {es:List Expr} {t:TA} {E:XK} {x:Str} {p pos:Pos} {k:Nat} {f C:Addr} {fd:FuncData} {ps:List Str} {sp:Sp} {dvs:List V} {ds:List Value}
end
abbrev excF (C:Addr) (od:Option Addr) (t:Addr) (tb:Value):Obj:={ cls:=.ref C,dict:=od,data:=.fields #[.ref t,tb,.none,.none,.bool false,.none] }
def TrS (h base:Heap) (e C:Addr) (od:Option Addr) (t:Addr):Prop:=∃ (tb:Addr) (oT:Obj) (ts:Array Value),h.get? e = some (excF C od t (.ref tb))/\base.get? tb = none/\tb ≠ e/\h.get? tb = some oT/\oT.data = .fields ts/\ts[3]? = some .none
section
variable {M:Model} {A:Around} {E:Value->Shared->Prop} {s:Shared} {base:Heap} {env:Env} {outer:List Env} {L e C t:Addr} {od:Option Addr} {tb0 head:Value} {hn:Bool} {Q:Unit->Shared->Prop}
theorem entryS (fr:A.frames = some (env :: outer)) (fl:s.heap.FunFrames base (env :: outer)) (hfl:env.frame = some L) (he:s.heap.get? e = some (excF C od t tb0)) (hst:base.StaysIn s.heap) (hb:base.get? e = none)
  (q:∀ h':Heap,base.StaysIn h'->h'.FunFrames base (env :: outer)->TrS h' base e C od t->s.heap.UpToSlots h'->Q () { s with heap:=h' }) :
  wpAny M A (do
   let a <- frameOf env
   let pl <- entryPlaceOf L hn
   let b <- EntryCells.newEntry head a Value.none (rawInt L) Value.none pl
   setField (Value.ref e) 1 b) (fun _ s'=>wpAny M A (setFlight (Value.ref e) none) Q E s') E s:=by
 refine wpAny_bind (wpAny_frameOf_fun fr fl hfl fun h1 so=>?_)
 obtain ⟨sz,oth,sl⟩:=so
 refine wpAny_bind (wpAny_entryPlaceOf fun pl hpl=>?_)
 unfold EntryCells.newEntry newFields
 have eS:e ∉ List.filterMap (fun x:Env=>x.frame) (env :: outer):=fun z=>by
  obtain ⟨_,o,ho,hd⟩:=fl.mem z
  rw [he] at ho
  cases ho
  exact hd _ rfl
 have e1:h1.get? e = some (excF C od t tb0):=(oth e eS).trans he
 have lp:(if pl.isEmpty = true then List.replicate 6 Value.none else pl).length = 6:=by
  rcases hpl with rfl | ⟨a,b,c,d,c9,b10,_,rfl⟩ <;> rfl
 have sz11:([head,Value.ref L,Value.none,rawInt L,Value.none] ++ if pl.isEmpty = true then List.replicate 6 Value.none else pl).length = 11:=by
  rw [List.length_append,lp]
  rfl
 have hL:A.frames = some (env :: outer):=fr
 generalize hcells:([head,Value.ref L,Value.none,rawInt L,Value.none] ++ if pl.isEmpty = true then List.replicate 6 Value.none else pl) = cells at sz11 |-
 have c3:cells[3]? = some (rawInt L):=by rw [<- hcells]; rfl
 refine wpAny_bind (wpAny_newObj_type ?_ (by show sizeOk (Data.fields cells.toArray); unfold sizeOk; simp only [List.size_toArray,sz11]; decide))
 dsimp only
 have hlt:e < h1.objs.size:=Heap.lt_size e1
 have ne:h1.objs.size ≠ e:=Nat.ne_of_gt hlt
 refine wpAny_setField (Heap.get?_push_of_some _ e1) rfl (by show 1 < 6; decide) ?_
 have x2:((h1.push { cls:=.type "traceback",data:=.fields cells.toArray }).update e (Obj.mapFields fun x=>x.setIfInBounds 1 (.ref h1.objs.size))).get? e = some (excF C od t (.ref h1.objs.size)):=
  Heap.get?_update_self _ (Heap.get?_push_of_some _ e1) rfl
 have x3:((h1.push { cls:=.type "traceback",data:=.fields cells.toArray }).update e (Obj.mapFields fun x=>x.setIfInBounds 1 (.ref h1.objs.size))).get? h1.objs.size = some { cls:=.type "traceback",data:=.fields cells.toArray }:=by
  rw [Heap.get?_update_ne _ _ _ _ ne]
  exact Heap.get?_push_size h1 rfl
 have x4:∀ b o,b ≠ e->h1.get? b = some o->((h1.push { cls:=.type "traceback",data:=.fields cells.toArray }).update e (Obj.mapFields fun x=>x.setIfInBounds 1 (.ref h1.objs.size))).get? b = some o:=fun b o hbe hbo=>by
  rw [Heap.get?_update_ne _ _ _ _ hbe]
  exact Heap.get?_push_of_some _ hbo
 generalize (h1.push { cls:=.type "traceback",data:=.fields cells.toArray }).update e (Obj.mapFields fun x=>x.setIfInBounds 1 (.ref h1.objs.size)) = h2 at x2 x3 x4 |-
 unfold setFlight
 refine wpAny_bind (wpAny_field (x:=.ref h1.objs.size) x2 rfl rfl ?_)
 rw [if_pos (show (Value.ref h1.objs.size != Value.none) = true from rfl)]
 refine wpAny_setField x3 rfl (by rw [List.size_toArray,sz11]; decide) ?_
 show Q () { s with heap:=h2.update h1.objs.size (Obj.mapFields fun x=>x.setIfInBounds 3 Value.none) }
 have y1:∀ b,b ≠ h1.objs.size->(h2.update h1.objs.size (Obj.mapFields fun x=>x.setIfInBounds 3 Value.none)).get? b = h2.get? b:=fun b hb'=>Heap.get?_update_ne _ _ _ _ hb'
 have y2:(h2.update h1.objs.size (Obj.mapFields fun x=>x.setIfInBounds 3 Value.none)).get? h1.objs.size = some { cls:=.type "traceback",data:=.fields (cells.toArray.setIfInBounds 3 .none) }:=Heap.get?_update_self _ x3 rfl
 have kp:∀ b o,s.heap.get? b = some o->(∀ vs,o.data ≠ .fields vs)->∃ sl,(h2.update h1.objs.size (Obj.mapFields fun x=>x.setIfInBounds 3 Value.none)).get? b = some { o with slots:=sl }:=fun b o hbo hd=>by
  obtain ⟨sl',hs'⟩:=sl b o hbo
  have n1:b ≠ h1.objs.size:=Nat.ne_of_lt (Heap.lt_size hs')
  have n2:b ≠ e:=fun z=>by rw [z,he] at hbo; cases hbo; exact hd _ rfl
  exact ⟨sl',by rw [y1 b n1]; exact x4 b _ n2 hs'⟩
 refine q _ (fun b o hbo=>?_) (fl.of_keeps fun b o hbo hd=>?_) ?_ kp
 ·have n0:b ∉ List.filterMap (fun x:Env=>x.frame) (env :: outer):=fun z=>by
   rw [(fl.mem z).1] at hbo; cases hbo
  have hs':=(oth b n0).trans (hst b o hbo)
  have n1:b ≠ h1.objs.size:=Nat.ne_of_lt (Heap.lt_size hs')
  have n2:b ≠ e:=fun z=>by rw [z,hb] at hbo; cases hbo
  rw [y1 b n1]
  exact x4 b o n2 hs'
 ·obtain ⟨sl',hs'⟩:=kp b o hbo hd
  exact ⟨_,hs',rfl⟩
 ·refine ⟨h1.objs.size,_,_,(by rw [y1 e (Ne.symm ne)]; exact x2),?_,ne,y2,rfl,?_⟩
  ·cases z:base.get? h1.objs.size with
   | none=>rfl
   | some o=>
    have:=Heap.lt_size (hst _ o z)
    rw [<- sz] at this
    exact absurd this (Nat.lt_irrefl _)
  ·rw [Array.getElem?_setIfInBounds_self_of_lt (by rw [List.size_toArray,sz11]; decide)]
theorem noteS (fr:A.frames = some (env :: outer)) (fl:s.heap.FunFrames base (env :: outer)) (hfl:env.frame = some L) (hst:base.StaysIn s.heap) (hb:base.get? e = none)
  (he:s.heap.get? e = some (excF C od t .none)\/TrS s.heap base e C od t)
  (q:∀ h':Heap,base.StaysIn h'->h'.FunFrames base (env :: outer)->TrS h' base e C od t->s.heap.UpToSlots h'->Q () { s with heap:=h' }) :
  wpAny M A (noteFrame (.ref e) env) (fun _ s'=>wpAny M A (setFlight (.ref e) none) Q E s') E s:=by
 unfold noteFrame
 rw [hfl]
 dsimp only
 rcases he with he | ⟨tb,oT,ts,h1,h2,h3,h4,h5,h6⟩
 ·refine wpAny_bind (wpAny_field (x:=Value.none) he rfl rfl ?_)
  rw [if_neg (show ¬ (Value.none != Value.none) = true by decide)]
  exact entryS fr fl hfl he hst hb q
 ·refine wpAny_bind (wpAny_field (x:=.ref tb) h1 rfl rfl ?_)
  rw [if_pos (show (Value.ref tb != Value.none) = true from rfl)]
  refine wpAny_bind (wpAny_field (x:=Value.none) h4 h5 h6 ?_)
  rw [if_neg (show ¬ (Value.none == rawInt (L:Nat)) = true from fun z=>by cases z)]
  have l3 : 3 < ts.size:=by
   have:=(Array.getElem?_eq_some_iff.mp h6).1
   exact this
  refine wpAny_bind (wpAny_setField h4 h5 l3 ?_)
  have z1:∀ b,b ≠ tb->(s.heap.update tb (Obj.mapFields fun x=>x.setIfInBounds 3 Value.none)).get? b = s.heap.get? b:=fun b hb'=>Heap.get?_update_ne _ _ _ _ hb'
  have up:s.heap.UpToSlots (s.heap.update tb (Obj.mapFields fun x=>x.setIfInBounds 3 Value.none)):=fun b o hbo hd=>by
   have n:b ≠ tb:=fun z=>by rw [z,h4] at hbo; cases hbo; exact hd _ h5
   exact ⟨o.slots,by rw [z1 b n]; exact hbo⟩
  refine entryS (s:={ s with heap:=s.heap.update tb (Obj.mapFields fun x=>x.setIfInBounds 3 Value.none) }) fr (fl.of_keeps fun b o hbo hd=>?_) hfl (tb0:=.ref tb) (by rw [z1 e (Ne.symm h3)]; exact h1) (fun b o hbo=>?_) hb fun h' a1 a2 a3 a4=>q h' a1 a2 a3 (up.trans a4)
  ·obtain ⟨sl,hs⟩:=up b o hbo hd
   exact ⟨_,hs,rfl⟩
  ·have n:b ≠ tb:=fun z=>by rw [z,h2] at hbo; cases hbo
   show (s.heap.update tb (Obj.mapFields fun x=>x.setIfInBounds 3 Value.none)).get? b = some o
   rw [z1 b n]
   exact hst b o hbo
end
def FlS (B:Heap) (l:List Env) (e C:Addr) (od:Option Addr) (t:Addr) (h:Heap):Prop:=B.StaysIn h/\B.get? e = none/\h.FunFrames B l/\TrS h B e C od t
structure FlyS (P:Program) (w:World) (outer:List Env) (H:Hp) (s:Shared) (C:Addr) (od:Option Addr) (t:Addr) (H':Hp) (ea:Addr) (s':Shared):Prop where
 os:s'.os = s.os
 bare:AllBare s'.gens
 un:Un (frs outer) [] H H' s.heap s'.heap
 hok:HOk P w H' s'.heap
 nt:H' ea = none
 fly:∃ B,FlS B outer ea C od t s'.heap/\(∀ b u,H' b = some u->∃ o,B.get? b = some o)/\(∀ b o,s.heap.get? b = some o->H b = none->b ∉ frs outer->B.get? b = some o)/\
  ∀ b o,s.heap.get? b = some o->b ∉ frs outer->∃ o',B.get? b = some o'
abbrev CXs (P:Program) (w:World):CXT:=fun outer H s E e s'=>∃ ea C od t H',e = .ref ea/\FlyS P w outer H s C od t H' ea s'/\E (.ref C) od H'
section
variable {X:Cx} {pins:List (Addr × Obj)} {σ : St} {H H':Hp} {s s':Shared} {ea C t:Addr} {od:Option Addr} {M:Model} {E:Value->Shared->Prop}
theorem fly_madeS (I:Inv X pins σ H s) (hstk:X.stack = X.env :: X.outer) (hfl:X.env.frame = some X.env.locals) (hex:X.ex = []) (hx:H ea = some (excX ea C od t)) (hnew:X.H₀ ea = none) :
  wpAny M X.A (leaving X.env (.ref ea)) (fun _ s''=>FlyS X.prog X.w X.outer X.H₀ X.s₀ C od t (drop H ea) ea s'') E s:=by
 have fr:=frs_stack hstk hfl
 have he:=excX_at I hx
 have fl:s.heap.FunFrames (PySem.W.hideAll s.heap (ea :: frs X.stack)) (X.env :: X.outer):=by
  have:=I.stack
  rw [hstk] at this
  refine PySem.W.funFrames_hide this fun env he b hb=>?_
  rw [hstk]
  exact List.mem_cons_of_mem _ (List.mem_filterMap.mpr ⟨env,he,hb⟩)
 have fr0:=I.ok.frames
 rw [hstk] at fr0
 have neL:∀ b o,X.s₀.heap.get? b = some o->b ≠ X.env.locals:=fun b o e=>Nat.ne_of_lt (Nat.lt_of_lt_of_le (Heap.lt_size e) I.ok.above)
 have noEx:∀ b:Addr,b ∉ X.ex:=fun b=>by rw [hex]; simp
 have inB:∀ b o,s.heap.get? b = some o->b ≠ ea->b ∉ frs X.stack->(PySem.W.hideAll s.heap (ea :: frs X.stack)).get? b = some o:=fun b o e n1 n=>PySem.W.hideAll_get _ e (fun z=>(List.mem_cons.mp z).elim n1 n)
 have trB:∀ b u,H b = some u->b ∉ frs X.stack:=fun b u e n=>by rw [I.stkFree b n] at e; cases e
 have eaS:∀ u,X.s₀.heap.get? ea = some u->False:=fun u e=>by
  have:=I.base.free ea u e hnew (noEx ea)
  rw [hx] at this; cases this
 unfold leaving
 refine wpAny_bind (noteS fr0 fl hfl (fun b o q=>PySem.W.of_hideAll _ q) (PySem.W.hideAll_none _ List.mem_cons_self) (.inl he) fun h2 x1 x2 x3 x4=>?_)
 have stay:∀ b o,s.heap.get? b = some o->b ≠ ea->b ∉ frs X.stack->h2.get? b = some o:=fun b o e n1 n=>x1 b o (inB b o e n1 n)
 have x2':h2.FunFrames (PySem.W.hideAll s.heap (ea :: frs X.stack)) X.outer:=by
  unfold Heap.FunFrames at x2
  exact x2.2.2
 have nEa:∀ b o,X.s₀.heap.get? b = some o->b ≠ ea:=fun b o e z=>by subst z; exact eaS o e
 refine ⟨I.os,I.bare,⟨fun b o e n hb _=>?_,fun b o e n hb _=>?_,fun b o e n _=>?_,fun b o e _=>?_,fun b xs e=>?_,fun b u v e=>?_,fun b ps e=>?_⟩,?_,drop_same,?_⟩
 ·refine stay b o (I.base.keep b o e n hb (noEx b)) (nEa b o e) ?_
  rw [fr]
  exact fun z=>(List.mem_cons.mp z).elim (neL b o e) hb
 ·obtain ⟨sl,e1⟩:=I.base.slot b o e n hb (noEx b)
  obtain ⟨_,o',ho',hd⟩:=I.funs.mem hb
  rw [e1] at ho'
  cases ho'
  obtain ⟨sl2,e2⟩:=x4 b _ e1 hd
  exact ⟨sl2,e2⟩
 ·rw [drop_ne (nEa b o e)]
  exact I.base.free b o e n (noEx b)
 ·obtain ⟨o1,e1⟩:=I.base.there b o e (noEx b)
  by_cases hb:b ∈ frs X.stack
  ·obtain ⟨_,o',ho',hd⟩:=I.stack.mem hb
   obtain ⟨sl2,e2⟩:=x4 b o' ho' hd
   exact ⟨_,e2⟩
  ·exact ⟨o1,stay b o1 e1 (nEa b o e) hb⟩
 ·have e1:=I.base.tups b xs e
  rw [drop_ne (fun z=>by rw [z,hx] at e1; cases e1)]; exact e1
 ·have e1:=I.base.frzs b u v e
  rw [drop_ne (fun z=>by rw [z,hx] at e1; cases e1)]; exact e1
 ·obtain ⟨more,e1⟩:=I.base.tbls b ps e
  exact ⟨more,by rw [drop_ne (fun z=>by rw [z,hx] at e1; cases e1)]; exact e1⟩
 ·exact (I.hok.drop hx).sameAt fun b u o e q=>stay b o q (drop_some e).1 (trB b u (drop_some e).2)
 ·refine ⟨_,⟨x1,PySem.W.hideAll_none _ List.mem_cons_self,x2',x3⟩,fun b u e=>?_,fun b o e n hb=>?_,fun b o e hb=>?_⟩
  ·obtain ⟨n1,e⟩:=drop_some e
   obtain ⟨o,q⟩:=I.hok.rec e
   exact ⟨o,inB b o q n1 (trB b u e)⟩
  ·refine inB b o (I.base.keep b o e n hb (noEx b)) (nEa b o e) ?_
   rw [fr]
   exact fun z=>(List.mem_cons.mp z).elim (neL b o e) hb
  ·obtain ⟨o1,e1⟩:=I.base.there b o e (noEx b)
   refine ⟨o1,inB b o1 e1 (nEa b o e) ?_⟩
   rw [fr]
   exact fun z=>(List.mem_cons.mp z).elim (neL b o e) hb
theorem fly_onS (I:Inv X pins σ H s) (hstk:X.stack = X.env :: X.outer) (hfl:X.env.frame = some X.env.locals) (hex:X.ex = []) (F:FlyS X.prog X.w X.stack H s C od t H' ea s') :
  wpAny M X.A (leaving X.env (.ref ea)) (fun _ s''=>FlyS X.prog X.w X.outer X.H₀ X.s₀ C od t H' ea s'') E s':=by
 have fr:=frs_stack hstk hfl
 have fr0:=I.ok.frames
 rw [hstk] at fr0
 obtain ⟨B,fl,tr,old,olds⟩:=F.fly
 have neL:∀ b o,X.s₀.heap.get? b = some o->b ≠ X.env.locals:=fun b o e=>Nat.ne_of_lt (Nat.lt_of_lt_of_le (Heap.lt_size e) I.ok.above)
 have noEx:∀ b:Addr,b ∉ X.ex:=fun b=>by rw [hex]; simp
 have nst:∀ b o,X.s₀.heap.get? b = some o->b ∉ frs X.outer->b ∉ frs X.stack:=fun b o e hb=>by
  rw [fr]
  exact fun z=>(List.mem_cons.mp z).elim (neL b o e) hb
 have fl':=fl
 rw [hstk] at fl'
 unfold leaving
 refine wpAny_bind (noteS fr0 fl'.2.2.1 hfl fl'.1 fl'.2.1 (.inr fl'.2.2.2) fun h2 y1 y2 y3 x2=>?_)
 have x1:FlS B X.outer ea C od t h2:=⟨y1,fl'.2.1,(by unfold Heap.FunFrames at y2; exact y2.2.2),y3⟩
 have oldB:∀ b o,X.s₀.heap.get? b = some o->X.H₀ b = none->b ∉ frs X.outer->B.get? b = some o:=fun b o e n hb=>
  old b o (I.base.keep b o e n hb (noEx b)) (I.base.free b o e n (noEx b)) (nst b o e hb)
 refine ⟨F.os.trans I.os,F.bare,⟨fun b o e n hb _=>x1.1 b o (oldB b o e n hb),fun b o e n hb _=>?_,fun b o e n _=>?_,fun b o e _=>?_,fun b xs e=>F.un.tups b xs (I.base.tups b xs e),fun b o u e=>F.un.frzs b o u (I.base.frzs b o u e),fun b ps e=>?_⟩,F.hok.sameAt fun b u o e q=>?_,F.nt,⟨B,x1,tr,oldB,fun b o e hb=>?_⟩⟩
 ·obtain ⟨sl,e1⟩:=I.base.slot b o e n hb (noEx b)
  obtain ⟨sl1,e2⟩:=F.un.any e1 (I.base.free b o e n (noEx b)) (by simp)
  have hd:∀ vs,o.data ≠ .fields vs:=by
   obtain ⟨_,o',ho',hd⟩:=I.funs.mem hb
   rw [e1] at ho'
   cases ho'
   exact hd
  obtain ⟨sl2,e3⟩:=x2 b _ e2 hd
  exact ⟨sl2,e3⟩
 ·obtain ⟨o',e1⟩:=I.base.there b o e (noEx b)
  exact F.un.free b o' e1 (I.base.free b o e n (noEx b)) (by simp)
 ·obtain ⟨o1,e1⟩:=I.base.there b o e (noEx b)
  obtain ⟨o2,e2⟩:=F.un.there b o1 e1 (by simp)
  by_cases hb:b ∈ frs X.stack
  ·obtain ⟨_,o',ho',hd⟩:=fl.2.2.1.mem hb
   obtain ⟨sl2,e3⟩:=x2 b o' ho' hd
   exact ⟨_,e3⟩
  ·obtain ⟨o3,e3⟩:=olds b o1 e1 hb
   exact ⟨o3,x1.1 b o3 e3⟩
 ·obtain ⟨m1,e1⟩:=I.base.tbls b ps e
  obtain ⟨m2,e2⟩:=F.un.tbls b _ e1
  exact ⟨m1 ++ m2,by rw [e2,Array.append_assoc]⟩
 ·obtain ⟨o3,e3⟩:=tr b u e
  have e4:=fl.1 b o3 e3
  rw [q] at e4
  cases e4
  exact x1.1 b o e3
 ·obtain ⟨o1,e1⟩:=I.base.there b o e (noEx b)
  exact olds b o1 e1 (nst b o e hb)
end
abbrev excC (ea C:Addr) (od:Option Addr) (t:Addr):HO:=.ext fun h=>∃ tb,h.get? ea = some (excF C od t tb)
theorem excC_ok {P:Program} {w:World} {H:Hp} {h:Heap} {ea C t:Addr} {od:Option Addr} {tb:Value} (e:h.get? ea = some (excF C od t tb)):ObjOk P w H h ea (excC ea C od t):=
 ⟨⟨tb,e⟩,⟨_,e⟩,fun g1 g2 ⟨tb',q⟩ k=>⟨tb',k _ q⟩⟩
section
variable {X:Cx} {pins:List (Addr × Obj)} {σ : St} {H H':Hp} {s s':Shared} {ea C t:Addr} {od:Option Addr} {M:Model} {A:Around} {E:Value->Shared->Prop} {h5:Heap}
theorem FlyS.move {P:Program} {w:World} {l:List Env} {B:Heap} (F:FlyS P w l H s C od t H' ea s') (fl:FlS B l ea C od t s'.heap) (tr:∀ b u,H' b = some u->∃ o,B.get? b = some o)
  (old:∀ b o,s.heap.get? b = some o->H b = none->b ∉ frs l->B.get? b = some o) (olds:∀ b o,s.heap.get? b = some o->b ∉ frs l->∃ o',B.get? b = some o')
  (fl5:FlS B l ea C od t h5) (up:s'.heap.UpToSlots h5):FlyS P w l H s C od t H' ea { s' with heap:=h5 }:=by
 refine ⟨F.os,F.bare,⟨fun b o e n hb _=>fl5.1 b o (old b o e n hb),fun b o e n hb _=>?_,F.un.free,fun b o e _=>?_,F.un.tups,F.un.frzs,F.un.tbls⟩,F.hok.sameAt fun b u o e q=>?_,F.nt,⟨B,fl5,tr,old,olds⟩⟩
 ·obtain ⟨sl,e1⟩:=F.un.slot b o e n hb (by simp)
  obtain ⟨_,o',ho',hd⟩:=fl.2.2.1.mem hb
  rw [e1] at ho'
  cases ho'
  obtain ⟨sl2,e2⟩:=up b _ e1 hd
  exact ⟨sl2,e2⟩
 ·by_cases hb:b ∈ frs l
  ·obtain ⟨_,o',ho',hd⟩:=fl5.2.2.1.mem hb
   exact ⟨o',ho'⟩
  ·obtain ⟨o3,e3⟩:=olds b o e hb
   exact ⟨o3,fl5.1 b o3 e3⟩
 ·obtain ⟨o3,e3⟩:=tr b u e
  have e4:=fl.1 b o3 e3
  rw [q] at e4
  cases e4
  exact fl5.1 b o e3
theorem landS {B:Heap} {l:List Env} {Q:Unit->Shared->Prop} (fl:FlS B l ea C od t s.heap) (q:∀ h':Heap,FlS B l ea C od t h'->s.heap.UpToSlots h'->Q () { s with heap:=h' }):wpAny M A (setFlight (.ref ea) none) Q E s:=by
 obtain ⟨f1,f2,f3,tb,oT,ts,h1,h2,h3,h4,h5,h6⟩:=fl
 unfold setFlight
 refine wpAny_bind (wpAny_field (x:=.ref tb) h1 rfl rfl ?_)
 rw [if_pos (show (Value.ref tb != Value.none) = true from rfl)]
 have l3 : 3 < ts.size:=(Array.getElem?_eq_some_iff.mp h6).1
 refine wpAny_setField h4 h5 l3 ?_
 show Q () { s with heap:=s.heap.update tb (Obj.mapFields fun x=>x.setIfInBounds 3 Value.none) }
 have z1:∀ b,b ≠ tb->(s.heap.update tb (Obj.mapFields fun x=>x.setIfInBounds 3 Value.none)).get? b = s.heap.get? b:=fun b hb'=>Heap.get?_update_ne _ _ _ _ hb'
 have up:s.heap.UpToSlots (s.heap.update tb (Obj.mapFields fun x=>x.setIfInBounds 3 Value.none)):=fun b o hbo hd=>by
  have n:b ≠ tb:=fun z=>by rw [z,h4] at hbo; cases hbo; exact hd _ h5
  exact ⟨o.slots,by rw [z1 b n]; exact hbo⟩
 obtain ⟨oc,odd,da,osl⟩:=oT
 have h5':da = .fields ts:=h5
 subst h5'
 have z2:(s.heap.update tb (Obj.mapFields fun x=>x.setIfInBounds 3 Value.none)).get? tb = some ⟨oc,odd,.fields (ts.setIfInBounds 3 .none),osl⟩:=Heap.get?_update_self _ h4 rfl
 refine q _ ⟨fun b o hbo=>?_,f2,f3.of_keeps fun b o hbo hd=>?_,tb,_,_,(by rw [z1 ea (Ne.symm h3)]; exact h1),h2,h3,z2,rfl,?_⟩ up
 ·have n:b ≠ tb:=fun z=>by rw [z,h2] at hbo; cases hbo
  rw [z1 b n]
  exact f1 b o hbo
 ·obtain ⟨sl,hs⟩:=up b o hbo hd
  exact ⟨_,hs,rfl⟩
 ·rw [Array.getElem?_setIfInBounds_self_of_lt l3]
theorem FlyS.track {B:Heap} (I:Inv X pins σ H s) (F:FlyS X.prog X.w X.stack H s C od t H' ea s') (fl:FlS B X.stack ea C od t s'.heap) (old:∀ b o,s.heap.get? b = some o->H b = none->b ∉ frs X.stack->B.get? b = some o) :
  Inv X pins σ (upd H' ea (excC ea C od t)) s':=by
 have I1:Inv X pins σ H' s':=I.call' F.os F.un F.hok F.bare fun b z=>nomatch z
 obtain ⟨tb,oT,ts,he,_⟩:=fl.2.2.2
 have nfr:ea ∉ frs X.stack:=fun z=>by
  obtain ⟨_,o',ho',hd'⟩:=fl.2.2.1.mem z
  rw [he] at ho'
  cases ho'
  exact hd' _ rfl
 have nold:∀ b o,s.heap.get? b = some o->H b = none->b ≠ ea:=fun b o e n z=>by
  subst z
  have:=old b o e n nfr
  rw [fl.2.1] at this
  cases this
 refine I1.track F.nt (excC_ok he) (fun u e n hx=>?_) (fun z=>?_) (fun x c e z=>?_) fun p hp=>?_
 ·by_cases hb:ea ∈ X.fs
  ·obtain ⟨_,o',ho',hd'⟩:=I1.funs.mem hb
   rw [he] at ho'
   cases ho'
   exact hd' _ rfl
  ·exact nold ea u (I.base.keep ea u e n hb hx) (I.base.free ea u e n hx) rfl
 ·obtain ⟨m,⟨oL,es,ep,hoL,hdL,_⟩,_⟩:=I1.loc
  rw [z,he] at hoL
  cases hoL
  cases hdL
 ·obtain ⟨v,oc,hoc,hdc⟩:=I1.cell x c e
  rw [z,he] at hoc
  cases hoc
  cases hdc
 ·obtain ⟨q1,q2,_⟩:=I.pin p hp
  exact nold p.1 p.2 q1 q2
end
def RaisesS (X:Cx) (E:XK):Prop:=∀ (pins:List (Addr × Obj)) (σ : St) (H:Hp) (s:Shared) (ea C:Addr) (od:Option Addr) (t:Addr),Inv X pins σ H s->H ea = some (excX ea C od t)->X.H₀ ea = none->E (.ref C) od (drop H ea)->X.xe (.ref ea) s
def tRaiseS (K:PySem.W.Frag) (H0:Hp) (E:XK) (te:TE):TS:=fun _ σ H=>te σ H fun x H1=>∃ (ea C:Addr) (od:Option Addr) (t:Addr),x = .ref ea/\H1 ea = some (excX ea C od t)/\ExcCls K C/\xmIn K C = true/\H0 ea = none/\E (.ref C) od (drop H1 ea)
section
variable {X:Cx} {E:XK} {pos:Pos} {e:Expr} {te:TE}
theorem ps_raiseS (hX:RaisesS X E) (hc:X.calm = true) (he:PE X e te):PS X (.Raise (some e) none pos) (tRaiseS X.K X.H₀ E te):=by
 refine ⟨?_⟩
 intro pins s σ H D I h
 rw [arm_exec_Raise]
 refine wpAny_bind (wpAny_standAt ?_)
 unfold raiseStmt
 show wpAny _ _ (do
  let xv <- (do
   let v <- eval e X.env
   standAt pos
   pure v)
  _) _ _ _
 refine wpAny_bind (wpAny_bind (thn (he pins s σ H _ I h) fun u s1 ⟨x,H1,I1,rx,ea,C,od,t,ex,hx,c,m,hn,q⟩=>?_))
 subst ex
 obtain rfl:u = Value.ref ea:=rx
 refine wpAny_bind (wpAny_standAt (wpAny_pure ?_))
 have ho:=excX_at I1 hx
 have XO:=xobj_of I1.kIn m
 obtain ⟨nm,q',N,bs,bm,sn,sub,ab,col,dd,k0,k1,k2,k3,k5,hC,b1,b2,b3,b4⟩:=XO.ob
 have hq:X.xe (.ref ea) s1:=hX pins σ H1 s1 ea C od t I1 hx hn q
 have LT:PySem.W.Looks (model X.prog X.w) s1.heap (typeOf (.ref ea)) (.ref C):=(PySem.W.Looks.ld ho).andThen .now
 have LTC:PySem.W.Looks (model X.prog X.w) s1.heap (typeOf (.ref C)) (.type "type"):=(PySem.W.Looks.ld hC).andThen .now
 have LB:=PySem.W.looks_mroIn (M:=model X.prog X.w) I1.kIn c.be
 have LIs:PySem.W.Looks (model X.prog X.w) s1.heap (isType (.ref ea)) false:=(PySem.W.Looks.ld ho).andThen .now
 have hcalm:=I1.ok.hd hc
 obtain ⟨hh,g,d,tk,os⟩:=s1
 dsimp only
 refine wpAny_bind (wpAny_pure (wpAny_bind (wpAny_holding ?_)))
 unfold excFromValue isExcClass
 refine wpAny_bind (wpAny_bind (LIs.at ?_))
 rw [if_neg Bool.false_ne_true]
 refine wpAny_pure ?_
 rw [if_neg Bool.false_ne_true]
 unfold isInstance
 refine wpAny_bind (wpAny_bind (LT.at (LB.at ?_)))
 rw [if_pos rfl]
 refine wpAny_pure ?_
 dsimp only
 refine wpAny_bind (LIs.at ?_)
 rw [if_neg Bool.false_ne_true]
 unfold raisedInstance
 refine wpAny_bind (wpAny_bind (LT.at (wpAny_bind (LTC.at ?_))))
 rw [if_pos (by decide)]
 refine wpAny_pure (wpAny_bind ?_)
 unfold setFlight
 refine wpAny_bind (wpAny_field (x:=Value.none) ho rfl rfl ?_)
 rw [if_neg (show ¬ (Value.none != Value.none) = true by decide)]
 refine wpAny_pure ?_
 unfold raiseNew
 refine wpAny_bind (wpAny_handled_none hcalm ?_)
 exact wpAny_throw hq
end
section
variable {P:Program} {w:World} {K:PySem.W.Frag} {mg:Str->Option Value} {base:Heap} {N:List Str} {qual:Str} {scope:Scope} {f:Addr} {cd:Value} {A:Around} {outer:List Env} {s:Shared} {H:Hp} {E E':XK}
theorem raisesS_cx:RaisesS (cxOf (CXs P w) P w K mg base N qual scope f cd A outer s H E) E:=fun pins σ H1 s1 ea C od t I hx hn q=>by
 refine wpAny_mono (fly_madeS I rfl rfl rfl hx hn) (fun _ s2 F=>?_) fun _ _ z=>z
 exact ⟨ea,_,_,_,_,rfl,F,q⟩
theorem passS (hE:∀ c d H,E' c d H->E c d H):Passes (CXs P w) (cxOf (CXs P w) P w K mg base N qual scope f cd A outer s H E) E':=fun pins σ H1 s1 e s' I q=>by
 obtain ⟨ea,C,od,t,H',rfl,F,q⟩:=q
 refine wpAny_mono (fly_onS I rfl rfl rfl F) (fun _ s2 F2=>?_) fun _ _ z=>z
 exact ⟨ea,C,od,t,H',rfl,F2,hE _ _ _ q⟩
theorem Fun.okS {x:Str} {st:Stmt} {fd:FuncData} {ps:List Str} {k:Nat} {sp:Sp} (F:Fun K x qual st f fd) (S:FnScope N ps (defScope st)) (len:∀ vs H Q E,sp vs H Q E->vs.length = ps.length)
  (hbody:∀ (cdv:Value) (A:Around) (outer:List Env) (s:Shared) (H:Hp) (vs:List V) (Q:VK) (E:XK),Room k (A.deeper (envOfC qual (defScope st) s.heap.objs.size f cdv))->sp vs H Q E->
   ∃ t,PSs (cxOf (CXs P w) P w K mg base N qual (defScope st) f cdv A outer s H E) (defBody st) t/\t { nx:=fun _ H'=>Q .non H',rt:=Q } (start N vs) H):FnOk P w K mg base (CXs P w) (k + 1) f fd ps sp:=by
 obtain ⟨oc,od,kV,doc,pm,an,cdv,ct,osl,rfl,lk,hcd⟩:=F.ex
 exact fn_of lk hcd S len fun A outer s H vs Q E hr hsp=>hbody cdv A outer s H vs Q E hr hsp
end
structure CalleeS (P:Program) (w:World) (K:PySem.W.Frag) (mg:Str->Option Value) (base:Heap) (k:Nat) (x:Str) (f:Addr) (fd:FuncData) (ps:List Str) (sp:Sp):Prop where
 ok:FnOk P w K mg base (CXs P w) k f fd ps sp
 mg:mg x = some (.ref f)
 kp:PySem.W.keepIn K (.ref f) = true
 bd:Binds K fd ps []
section
variable {X:Cx} {k:Nat} {f:Addr} {fd:FuncData} {ps:List Str} {sp:Sp} {E:XK} {x:Str} {p pos:Pos} {e:Expr} {es:List Expr} {t:TA}
theorem cS (c:CalleeS X.prog X.w X.K X.mg X.base k x f fd ps sp) (hp:Passes (CXs X.prog X.w) X E) (hr:Room k X.A) (ha:PA X (e :: es) t) (hg:Gl X x:=by rfl) (hdb:(x == ("__debug__" : Str)) = false:=by decide)
  (h1:isSt e = false:=by rfl) (h2:es.any isSt = false:=by rfl):PE X (.Call (.Name x p) (e :: es) [] pos) (tCall sp [] E t):=
 pe_call c.ok hr hg c.mg c.kp c.bd .nil hp ha hdb (star_cons h1) (star_any h2)
end
abbrev HK:=Addr->Option Addr->Addr->Addr->Ends->St->Hp->Prop
structure PH (X:Cx) (hs:List ExceptHandler) (th:HK):Prop where
 run:∀ (pins:List (Addr × Obj)) (σ : St) (H1:Hp) (s1:Shared) (H':Hp) (ea C:Addr) (od:Option Addr) (t:Addr) (s5:Shared) (D:Ends),Inv X pins σ H1 s1->FlyS X.prog X.w X.stack H1 s1 C od t H' ea s5->th C od t ea D σ H'->wpAny (model X.prog X.w) X.A (handleBy (.ref ea) X.env hs) (SP X pins D) X.xe s5
section
variable {X:Cx} {hs:List ExceptHandler} {th:HK} {c n:Str} {C':Addr} {i:Nat} {ts:TS} {b₀:Stmt} {suite:List Stmt} {np hpos:Pos}
theorem ph_nil:PH X [] (fun _ _ _ _ _ _ _=>False):=⟨fun _ _ _ _ _ _ _ _ _ _ _ _ _ h=>h.elim⟩
end
def Passes2 (X:Cx) (pins:List (Addr × Obj)) (σ : St) (E:XK):Prop:=∀ (H:Hp) (s:Shared) (e:Value) (s':Shared),Inv X pins σ H s->CXs X.prog X.w X.stack H s E e s'->X.xe e s'
def tTryS (tb:XK->TS) (th:HK):TS:=fun D σ H=>tb (fun cls od H'=>∃ C,cls = .ref C/\∀ t ea,H' ea = none->th C od t ea D σ H') D σ H
section
variable {X:Cx} {st:Stmt} {h₀:ExceptHandler} {hs:List ExceptHandler} {pos:Pos} {tb:XK->TS} {th:HK}
theorem ps_tryS (hstk:X.stack = X.env :: X.outer) (hfl:X.env.frame = some X.env.locals) (hh:PH X (h₀ :: hs) th)
  (hb:∀ (pins:List (Addr × Obj)) (σ : St) (xe:Value->Shared->Prop) (E:XK),Passes2 (X.wish xe) pins σ E->PS1 (X.wish xe) pins σ st (tb E)):PS X (.Try [st] (h₀ :: hs) [] [] pos) (tTryS tb th):=by
 refine ⟨?_⟩
 intro pins s σ H D I h
 have fr0:=I.ok.frames
 rw [hstk] at fr0
 refine wpAny_Try_except ?_
 have key:Passes2 (X.wish (tryXe X pins D (h₀ :: hs))) pins σ (fun cls od H'=>∃ C,cls = .ref C/\∀ t ea,H' ea = none->th C od t ea D σ H'):=by
  intro H1 s1 e s2 I1 q
  obtain ⟨ea,C,od,t,H',rfl,F,C0,e0,q⟩:=q
  cases e0
  have I1:=I1.unwish
  have F:FlyS X.prog X.w X.stack H1 s1 C od t H' ea s2:=F
  obtain ⟨B,fl,tr,old,olds⟩:=F.fly
  have fl':=fl
  rw [hstk] at fl'
  refine noteS fr0 fl'.2.2.1 hfl fl'.1 fl'.2.1 (.inr fl'.2.2.2) fun h5 y1 y2 y3 y4=>?_
  have fl5:FlS B X.stack ea C od t h5:=by rw [hstk]; exact ⟨y1,fl'.2.1,y2,y3⟩
  have F5:=F.move fl tr old olds fl5 y4
  exact hh.run pins σ H1 s1 H' ea C od t _ D I1 F5 (q t ea F.nt)
 have run:=(hb pins σ _ _ key).run s H D (I.wish _) h
 refine wpAny_execs_cons (thn run fun f s1 q=>?_)
 ·cases f with
  | next=>exact wpAny_execs_nil (wpAny_execs_nil (SP.unwish (f:=.next) q))
  | ret v=>exact SP.unwish (f:=.ret v) q
  | brk=>exact SP.unwish (f:=.brk) q
  | cont=>exact SP.unwish (f:=.cont) q
end
section
variable {X:Cx} {pins:List (Addr × Obj)} {σ : St} {e:Expr} {es:List Expr} {te:TE} {t:TA} {E:XK} {x m:Str} {p pos apos:Pos} {k:Nat} {f C:Addr} {fd:FuncData} {ps:List Str} {sp:Sp} {dvs:List V} {ds:List Value}
theorem p2_call (c:CalleeS X.prog X.w X.K X.mg X.base k x f fd ps sp) (hp:Passes2 X pins σ E) (hr:Room k X.A) (ha:PA X (e :: es) t) (hg:Gl X x:=by rfl) (hdb:(x == ("__debug__" : Str)) = false:=by decide)
  (h1:isSt e = false:=by rfl) (h2:es.any isSt = false:=by rfl):PE1 X pins σ (.Call (.Name x p) (e :: es) [] pos) (tCall sp [] E t):=by
 refine ⟨fun s H Q I h=>?_⟩
 refine wpAny_Call_Name_kw (ld_glob I hg c.mg ?_ hdb)
 refine PySem.W.callWith_K (h₀:=X.base) I.ok.mod.kin c.kp (thn (ha pos pins s σ H _ I h) fun us s1 ⟨vs,H1,I1,r,q⟩=>⟨I1.kIn,?_⟩) (star_cons h1) (star_any h2)
 have r2:Vals (vs ++ []) (us ++ []):=r.append .nil
 have hl:(us ++ []).length = ps.length:=by rw [<- r2.length]; exact c.ok.len _ _ _ _ q
 refine wpAny_call (codeAny_mono (c.ok.run X.A X.stack s1 H1 ⟨us,[]⟩ (us ++ []) (vs ++ []) Q E hr I1.env0 (c.bd s1 us I1.kIn hl) r2 q) fun r s' hq=>?_)
 cases r with
 | error e=>exact hp H1 s1 e s' I1 hq
 | ok fl=>
  cases fl with
  | ret u=>exact I1.after hq
  | next=>exact False.elim hq
  | brk=>exact False.elim hq
  | cont=>exact False.elim hq
end
section
variable {X:Cx} {pins:List (Addr × Obj)} {σ : St} {H:Hp} {s:Shared} {x C t:Addr} {f:Str} {A:Around} {E:Value->Shared->Prop}
theorem getC_ok {b:Bool} {dx:Addr} {fs:List (Str × V)} {v:V} {Q:Value->Shared->Prop} (I:Inv X pins σ H s) (e:H x = some (excC x C (some dx) t)) (ed:H dx = some (.xd fs)) (c:ExcCls X.K C) (m:XSet X.K C) (n:NoAttr X.K C f) (l:fs.lookup f = some v)
  (h:∀ u s',Inv X pins σ H s'->RelV v u->Q u s'):wpAny (model X.prog X.w) A (getAttr (.ref x) f b) Q E s:=by
 obtain ⟨tb,hx⟩:=(I.hok x _ e).1
 obtain ⟨mA,ns,r⟩:=I.hok dx _ ed
 obtain ⟨u,hu,ru⟩:=RelO.some_of (v:=v) (o:=mA f) (by rw [<- l]; exact r f)
 exact get_exc c m I.kIn n hx rfl rfl rfl ns hu (handed_of ru) (h u _ (I.tok _) ru)
end
def tFldC (K:PySem.W.Frag) (ta:TE) (f:Str):TE:=fun σ H Q=>ta σ H fun x H1=>∃ (a C t dx:Addr) (fs:List (Str × V)) (v:V),x = .ref a/\H1 a = some (excC a C (some dx) t)/\H1 dx = some (.xd fs)/\ExcCls K C/\XSet K C/\NoAttr K C f/\fs.lookup f = some v/\Q v H1
section
variable {X:Cx} {e:Expr} {f:Str} {pos:Pos} {ta:TE}
theorem pe_fldC (he:PE X e ta) (hb:attributeBase e f X.env (eval e X.env) = eval e X.env):PE X (.Attribute e f pos) (tFldC X.K ta f):=by
 refine ⟨?_⟩
 intro pins s σ H Q I h
 refine attr_of hb (thn (he pins s σ H _ I h) fun u s1 ⟨x,H1,I1,rx,a,C,t,dx,fs,v,ex,ea,ed,c,m,n,l,q⟩=>?_)
 subst ex
 obtain rfl:u = Value.ref a:=rx
 exact getC_ok I1 ea ed c m n l fun u' s2 I2 ru=>⟨v,H1,I2,ru,q⟩
end
end L2
namespace L2
open PySem PySem.Spec PyProof.Rows PySem.Builtin
section
variable {prog:Program} {w:World} {A:Around} {E:Value->Shared->Prop} {s:Shared} {it ea C t:Addr} {od:Option Addr} {tb:Value} {x left step:Int} {Q:Option Value->Shared->Prop}
end
end L2
namespace L2
open PySem PySem.Spec PyProof.Rows
structure TurnH (ea:Addr) (P:Program) (w:World) (K:PySem.W.Frag) (tg:Expr) (J:It) (fp:List Addr) (it:Addr) (tn:Nat->Heap->Prop):Prop where
 mem:it ∈ fp
 obj:∀ i h,tn i h->∀ b ∈ fp,∃ o,h.get? b = some o/\∀ v,o.data ≠ .cell v
 keep:∀ i h h',tn i h->(∀ b ∈ fp,∀ o,h.get? b = some o->h'.get? b = some o)->tn i h'
 item:∀ (X:Cx),X.prog = P->X.w = w->X.K = K->X.A.handled = some (.ref ea)->∀ (i:Nat) (pins:List (Addr × Obj)) (s:Shared) (σ : St) (H:Hp) (E:Value->Shared->Prop),Inv X pins σ H s->(∀ b ∈ fp,FpOk X pins H b)->tn i s.heap->J.go i H->
  wpAny (model P w) X.A (pyNext (.ref it)) (fun r s1=>∃ u,r = some u/\
   wpAny (model P w) X.A (letOwnedTupleGo tg (.ref it) u) (fun _ s2=>∃ x H',Inv X pins σ H' s2/\RelV x u/\J.yld i H x H'/\tn (i + 1) s2.heap/\∀ b ∈ fp,H' b = none) E s1) E s
 done:∀ (X:Cx),X.prog = P->X.w = w->X.K = K->X.A.handled = some (.ref ea)->∀ (i:Nat) (pins:List (Addr × Obj)) (s:Shared) (σ : St) (H:Hp) (E:Value->Shared->Prop),Inv X pins σ H s->(∀ b ∈ fp,FpOk X pins H b)->tn i s.heap->J.stop i H->
  wpAny (model P w) X.A (pyNext (.ref it)) (fun r s1=>r = none/\Inv X pins σ H s1) E s
 self:∀ (A:Around) (i:Nat) (s:Shared) (Q:Value->Shared->Prop) (E:Value->Shared->Prop),tn i s.heap->Q (.ref it) s->wpAny (model P w) A (pyIter (.ref it)) Q E s
def PIEH (X:Cx) (ea:Addr) (pins:List (Addr × Obj)) (σ : St) (tg:Expr) (R:It->Hp->Prop) (itv:Value) (s2:Shared):Prop:=
 ∃ (it:Addr) (fp:List Addr) (tn:Nat->Heap->Prop) (J:It) (H':Hp),itv = .ref it/\Inv X pins σ H' s2/\TurnH ea X.prog X.w X.K tg J fp it tn/\tn 0 s2.heap/\(∀ b ∈ fp,FpOk X pins H' b)/\R J H'
structure PIH (X:Cx) (ea:Addr) (tg iter:Expr) (wi:TI):Prop where
 run:∀ (pins:List (Addr × Obj)) (s:Shared) (σ : St) (H:Hp) (R:It->Hp->Prop),Inv X pins σ H s->wi σ H R->
  wpAny (model X.prog X.w) X.A (eval iter X.env) (fun v s1=>wpAny (model X.prog X.w) X.A (pyIter v) (PIEH X ea pins σ tg R) X.xe s1) X.xe s
instance {X:Cx} {ea:Addr} {tg iter:Expr} {wi:TI}:CoeFun (PIH X ea tg iter wi) (fun _=>∀ (pins:List (Addr × Obj)) (s:Shared) (σ : St) (H:Hp) (R:It->Hp->Prop),Inv X pins σ H s->wi σ H R->
  wpAny (model X.prog X.w) X.A (eval iter X.env) (fun v s1=>wpAny (model X.prog X.w) X.A (pyIter v) (PIEH X ea pins σ tg R) X.xe s1) X.xe s):=⟨PIH.run⟩
section
variable {X:Cx} {tg:Expr}
end
section
variable {X:Cx} {pins:List (Addr × Obj)} {σ : St} {s:Shared} {sc:Scope} {fr Nc:List Str} {caps:List (Option Nat)} {elt tg iter:Expr} {ifs:List Expr} {g:TG} {tt:TT} {te:TE} {ow:List Nat} {pos pos2:Pos} {E:Value->Shared->Prop}
theorem comp_runH {ea:Addr} {H2:Hp} {it:Addr} {fp:List Addr} {tn:Nat->Heap->Prop} {J:It} {Q:VK} {RR:Value->Addr->Result->Shared->Prop}
  (hc:X.A.handled = some (.ref ea)) (B:BlockOk X.env sc fr) (go:GOwn g ow) (how:(ow.all fun i=>caps[i]? == some none) = true) (hcap:capChk X.N Nc caps X.env sc fr = true) (hlen:caps.length = Nc.length)
  (hb:∀ (pins:List (Addr × Obj)) (fp:List Addr) (s:Shared) (H:Hp) (C:Addr),PG (compCx X pins sc fr Nc fp s H C) tg g/\PIf (compCx X pins sc fr Nc fp s H C) ifs tt/\PE (compCx X pins sc fr Nc fp s H C) elt te)
  (I2:Inv X pins σ H2 s) (T:TurnH ea X.prog X.w X.K tg J fp it tn) (st2:tn 0 s.heap) (f2:∀ b ∈ fp,FpOk X pins H2 b) (h:∀ D,H2 D = none->LCr J caps g tt te σ H2 Q D)
  (fin:∀ (D C:Addr) (σ':St) (H':Hp) (s':Shared),Inv (compCx X pins sc fr Nc fp s H2 C) [] σ' H' s'->Q (.ref D) H'->RR (.ref D) C (.ok .next) s') :
  wpAny (model X.prog X.w) X.A (newList []) (fun acc s₃=>wpAny (model X.prog X.w) X.A (newFunctionEnv sc X.env.globals (clB X.env fr) [] X.env.qual none .none (some X.env)) (fun cenv s₄=>
   codeAny (model X.prog X.w) X.A (.compStart (.ListComp elt [⟨tg,iter,ifs,0⟩] sc pos) 0 (.ref it) acc { cenv with scope:=relabel sc X.env }) (RR acc cenv.locals) s₄) E s₃) E s:=by
 have hcell:∀ y ∈ sc.names,y.2 ≠ .cell:=fun y hy=>by
  have h3:=List.all_eq_true.mp B.names _ hy
  simp only [Bool.and_eq_true,bne_iff_ne,ne_eq] at h3
  exact h3.1.1
 refine wpAny_newObj_type (wpAny_newFunctionEnv hcell (by intro y hy; simp at hy) (fun h₁ hns₁ hsb₁=>?_) B.kind)
 dsimp only at hns₁ hsb₁ |-
 generalize hH2:s.heap.push { cls:=.type "list",dict:=none,data:=.seq ([]:List Value).toArray } = H3 at hns₁ hsb₁ |-
 have hCs:H3.objs.size = s.heap.objs.size + 1:=by rw [<- hH2,Heap.size_push]
 have hDC:s.heap.objs.size ≠ H3.objs.size:=by rw [hCs]; exact Nat.ne_of_lt (Nat.lt_succ_self _)
 have hC:s.heap.objs.size<=H3.objs.size:=by rw [hCs]; exact Nat.le_succ _
 have old:∀ b o,s.heap.get? b = some o->h₁.get? b = some o:=fun b o e=>
  hsb₁.extBut b o (Nat.ne_of_lt (Nat.lt_of_lt_of_le (Heap.lt_size e) hC)) (Heap.get?_push_of_some _ (hH2 ▸ Heap.get?_push_of_some _ e))
 have hD:h₁.get? s.heap.objs.size = some { cls:=.type "list",data:=.seq ([]:List Value).toArray }:=hsb₁.extBut _ _ hDC (Heap.get?_push_of_some _ (hH2 ▸ Heap.get?_push_size _ rfl))
 have ho:∀ b ∈ fp,∃ o,s.heap.get? b = some o:=fun b hb'=>let ⟨o,e,_⟩:=T.obj 0 _ st2 b hb'; ⟨o,e⟩
 have I4:∀ t',Inv (compCx X pins sc fr Nc fp s H2 H3.objs.size) [] (capS caps σ) (upd H2 s.heap.objs.size (.lst [])) { s with heap:=h₁,toks:=t' }:=fun t'=>
  comp_start I2 B f2 ho hC (Nat.le_refl _) hDC old hD hns₁ hcap hlen
 have ok:=(I4 0).ok
 obtain ⟨hbg,hbt,hbe⟩:=hb pins fp s H2 H3.objs.size
 obtain ⟨W,⟨m0,w0⟩,turn⟩:=h s.heap.objs.size (I2.hok.fresh (Nat.le_refl _))
 have stat:∀ {H':Hp},(∀ b ∈ fp,H' b = none)->∀ b ∈ fp,FpOk (compCx X pins sc fr Nc fp s H2 H3.objs.size) [] H' b:=fun hn b hb'=>
  ⟨hn b hb',(ok.exf b hb').1,ok.exfs b hb',.inl hb',(ok.exf b hb').2,fun p hp=>(f2 b hb').2.2.2.2.2 p (by simpa using hp)⟩
 have hfp0:∀ b ∈ fp,upd H2 s.heap.objs.size (.lst []) b = none:=fun b hb'=>by
  obtain ⟨o,e⟩:=ho b hb'
  rw [upd_ne (Nat.ne_of_lt (Heap.lt_size e))]
  exact (f2 b hb').1
 have loop:∀ s₃:Shared,s₃ = { s with heap:=h₁,toks:=s.toks + ([]:List (Str × Value)).length }->
   codeAny (model X.prog X.w) X.A (.compLoop (.ListComp elt [⟨tg,iter,ifs,0⟩] sc pos) 0 (.ref it) (.ref s.heap.objs.size) (compEnvC sc (clB X.env fr) H3.objs.size X.env)) (RR (.ref s.heap.objs.size) H3.objs.size) s₃:=by
  rintro s₃ rfl
  refine compLoop_any (fun n s'=>∃ i σ' H' ys,Inv (compCx X pins sc fr Nc fp s H2 H3.objs.size) [] σ' H' s'/\tn i s'.heap/\(∀ b ∈ fp,H' b = none)/\W i n ys H'/\
   (∀ (k:Nat) (v:V),(capS caps σ)[k]? = some (some v)->σ'[k]? = some (some v))) ?_ m0
   ⟨0,_,_,[],I4 _,T.keep _ _ _ st2 (fun b _ o e=>old b o e),hfp0,w0,fun _ _ e=>e⟩
  rintro n s3 ⟨i,σ3,H4,ys,I3,st3,fr3,w3,wk3⟩
  have I3':Inv (compCx X pins sc fr Nc fp s H2 H3.objs.size) [] (capS caps σ) H4 s3:=I3.weak (by rw [I3.len]; exact (I4 0).len) wk3
  rcases turn i n ys H4 w3 with ⟨stop,qn⟩ | ⟨gg,step⟩
  ·refine thn (T.done (compCx X pins sc fr Nc fp s H2 H3.objs.size) rfl rfl rfl hc i [] s3 _ H4 (fun _ _=>False) I3' (stat fr3) st3 stop) fun r s4 ⟨hr,I4'⟩=>?_
   subst hr
   exact fin _ _ _ _ _ I4' qn
  ·refine thn (T.item (compCx X pins sc fr Nc fp s H2 H3.objs.size) rfl rfl rfl hc i [] s3 _ H4 (fun _ _=>False) I3' (stat fr3) st3 gg) fun r s4 ⟨u,hr,h4⟩=>?_
   subst hr
   refine thn h4 fun _ s5 ⟨x,H5,I5,r5,y5,st5,fr5⟩=>?_
   have I5':=I5.pinned (stat fr5) (T.obj _ _ st5)
   refine thn (hbg _ s5 _ H5 x u _ I5' r5 (go _ _ _ _ (step x H5 y5))) fun _ s6 ⟨σ6,H6,I6,q6,l6,k6⟩=>?_
   have wk6:∀ (k:Nat) (v:V),(capS caps σ)[k]? = some (some v)->σ6[k]? = some (some v):=fun k v e=>by
    rw [k6 k fun hk=>?_]
    ·exact e
    ·have h1:=List.all_eq_true.mp how k hk
     have h2:caps[k]? = some none:=by simpa using h1
     unfold capS at e
     rw [List.getElem?_map,h2] at e
     cases e
   refine thn (hbt _ s6 σ6 H6 _ I6 q6) fun ok s7 ⟨H7,I7,q7⟩=>?_
   have again:∀ {H8:Hp} {s8:Shared} {ys':List V},Inv (compCx X pins sc fr Nc fp s H2 H3.objs.size) ([] ++ pinsAt fp s5.heap) σ6 H8 s8->(∃ m',m' < n/\W (i + 1) m' ys' H8)->
     ∃ m,m < n/\∃ i σ' H' ys,Inv (compCx X pins sc fr Nc fp s H2 H3.objs.size) [] σ' H' s8/\tn i s8.heap/\(∀ b ∈ fp,H' b = none)/\W i m ys H'/\(∀ (k:Nat) (v:V),(capS caps σ)[k]? = some (some v)->σ'[k]? = some (some v)):=fun {H8 s8 ys'} I8 ⟨m',hm,w8⟩=>by
    refine ⟨m',hm,i + 1,σ6,H8,ys',I8.unpinned,T.keep _ _ _ st5 fun b hb' o e=>(I8.pin (b,o) (List.mem_append_right _ (List.mem_append_right _ (mem_pinsAt hb' e)))).1,fun b hb'=>?_,w8,wk6⟩
    obtain ⟨o,e,d⟩:=T.obj _ _ st5 b hb'
    exact (I8.pin (b,o) (List.mem_append_right _ (List.mem_append_right _ (mem_pinsAt hb' e)))).2.1
   cases ok with
   | false=>
    rw [if_neg Bool.false_ne_true]
    exact again I7 (q7.2 rfl)
   | true=>
    rw [if_pos rfl]
    refine thn (hbe _ s7 σ6 H7 _ I7 (q7.1 rfl)) fun uv s8 ⟨v,H8,I8,r8,hD8,hz,q8⟩=>?_
    refine thn (mt_append (X:=compCx X pins sc fr Nc fp s H2 H3.objs.size) _ s8 σ6 H8 (.ref s.heap.objs.size) [v] _ [uv] (fun _ H'=>H' = upd H8 s.heap.objs.size (.lst (ys ++ [v]))) I8 rfl (.cons r8 .nil) ⟨_,ys,v,rfl,rfl,hD8,hz,rfl⟩) fun _ s9 ⟨_,H9,I9,_,e9⟩=>?_
    subst e9
    exact again I9 q8
 exact codeAny_compStart_list (loop _ rfl) (T.self _ 0 _ _ _ (T.keep _ _ _ st2 (fun b _ o e=>old b o e)) (loop _ rfl))
end
section
variable {X:Cx} {hs:List ExceptHandler} {th:HK} {c n:Str} {C':Addr} {i:Nat} {ts:TS} {b₀:Stmt} {suite:List Stmt} {np hpos:Pos}
def hAsC (K:PySem.W.Frag) (C':Addr) (i:Nat) (ts:Addr->TS) (rest:HK):HK:=fun C od t ea D σ H'=>
 (PySem.W.exmOne K (.ref C) (.ref C') = some true/\ts ea (endsN D i) (σ.set i (some (.ref ea))) (upd H' ea (excC ea C od t)))\/(PySem.W.exmOne K (.ref C) (.ref C') = some false/\rest C od t ea D σ H')
end
section
variable {X:Cx}
end
end L2
namespace L2
open PySem PySem.Spec PyProof.Rows PySem.Builtin
section
variable {prog:Program} {w:World} {A:Around} {E:Value->Shared->Prop} {s:Shared} {it l ea C t:Addr} {od:Option Addr} {tb:Value} {i:Nat} {items:Array Value} {Q:Option Value->Shared->Prop}
theorem next_listEndH (hA:A.handled = some (.ref ea)) (he:s.heap.get? ea = some (excF C od t tb)) (hit:s.heap.IsListIter it l i) (hl:s.heap.IsList l items) (hx:items[i]? = none)
  (q:∀ h':Heap,Heap.ExtBut it s.heap h'->Q none { s with heap:=h' }):wpAny (model prog w) A (pyNext (.ref it)) Q E s:=by
 obtain ⟨hh,gg,dd,tk,os⟩:=s
 obtain ⟨o,ho,hc,hd⟩:=id hit
 obtain ⟨ol,hol,_,nl,hdl⟩:=hl
 have hne:ea ≠ it:=fun z=>by
  rw [z] at he
  have ho':hh.get? it = some o:=ho
  have he':hh.get? it = some (excF C od t tb):=he
  rw [ho'] at he'
  cases Option.some.inj he'
  cases hc
 unfold pyNext
 refine wpAny_bind (wpAny_attempt (wpAny_callSpecial?_slot (name:=Str.ofString "__next__") hit.typeIs slot_listiter_next
  (wpAny_call_entry slot_listiter_next hit.typeIs entry_listiter_next ?_ (args_listiter_next _))))
 show wpAny _ _ (field (.ref it) 0 >>= _) _ _ _
 refine wpAny_bind (wpAny_field ho hd (x:=.ref l) rfl ?_)
 show wpAny _ _ (if (Value.ref l == Value.none) = true then _ else _) _ _ _
 rw [if_neg (show ¬ ((Value.ref l == Value.none) = true) from Bool.false_ne_true)]
 show wpAny _ _ (field (.ref it) 1 >>= _) _ _ _
 refine wpAny_bind (wpAny_field ho hd (x:=.int i 0) rfl ?_)
 show wpAny _ _ (seqItems? (.ref l) >>= _) _ _ _
 refine wpAny_bind (wpAny_seqItems hol hdl ?_)
 simp only [Int.toNat_natCast,hx]
 refine wpAny_bind (wpAny_rule (wpAny_bind (wpAny_setField ho hd (by simp) ?_)))
 have sb:=Heap.SameBut.update hh it (Obj.mapFields fun x=>x.setIfInBounds 0 Value.none)
 have he1:=(sb.2 ea hne).trans he
 have xb:=sb.extBut
 dsimp only
 generalize hh.update it (Obj.mapFields fun x=>x.setIfInBounds 0 Value.none) = h1 at he1 xb |-
 unfold SmallTypes.stopIteration newExc
 refine wpAny_bind (wpAny_bind (wpAny_newTuple ?_ (by show 0<=sizeLine; decide)))
 dsimp only
 unfold firstArgMember
 dsimp only
 refine wpAny_bind (wpAny_bind (wpAny_pure (wpAny_pure ?_)))
 have fm:(if (Manifest.find? "StopIteration").elim false (fun t=>t.mro.contains "StopIteration" || t.mro.contains "SystemExit") = true then ([]:List Value).headD Value.none else Value.none) = Value.none:=by split <;> rfl
 rw [fm]
 show wpAny _ _ (newObj (Value.type "StopIteration") (Data.fields #[.ref h1.objs.size,.none,.none,.none,.bool false,.none])) _ _ _
 refine wpAny_newObj_type ?_ (by show 6<=sizeLine + 2; decide)
 dsimp only
 have k1:∀ b o,h1.get? b = some o->((h1.push (tupNew [])).push { cls:=.type "StopIteration",data:=.fields #[.ref h1.objs.size,.none,.none,.none,.bool false,.none] }).get? b = some o:=fun b o e=>Heap.get?_push_of_some _ (Heap.get?_push_of_some _ e)
 have k2:((h1.push (tupNew [])).push { cls:=.type "StopIteration",data:=.fields #[.ref h1.objs.size,.none,.none,.none,.bool false,.none] }).get? (h1.push (tupNew [])).objs.size = some { cls:=.type "StopIteration",data:=.fields #[.ref h1.objs.size,.none,.none,.none,.bool false,.none] }:=Heap.get?_push_size _ rfl
 have k3:(h1.push (tupNew [])).objs.size ≠ ea:=by
  have:=Heap.lt_size he1
  rw [Heap.size_push]
  exact Nat.ne_of_gt (Nat.lt_succ_of_lt this)
 have k4:∀ b o,h1.get? b = some o->b ≠ (h1.push (tupNew [])).objs.size:=fun b o e=>by
  have:=Heap.lt_size e
  rw [Heap.size_push]
  exact Nat.ne_of_lt (Nat.lt_succ_of_lt this)
 generalize (h1.push (tupNew [])).objs.size = e1 at k2 k3 k4 |-
 generalize (h1.push (tupNew [])).push { cls:=.type "StopIteration",data:=.fields #[.ref h1.objs.size,.none,.none,.none,.bool false,.none] } = h2 at k1 k2 |-
 unfold raiseNew
 refine wpAny_bind (wpAny_handled ?_)
 have hA':A.in1.handled = some (.ref ea):=hA
 rw [hA']
 dsimp only
 rw [if_pos (show (Value.ref ea != Value.ref e1) = true by rw [bne_iff_ne]; intro z; exact k3 (Value.ref.inj z).symm)]
 have he2:=k1 _ _ he1
 refine wpAny_bind (wpAny_holding (wpAny_runValue (codeAny_builtin (b:=Builtin.«proto.unchain») rfl ?_)))
 unfold Builtin.«proto.unchain»
 dsimp only
 refine wpAny_bind (wpAny_field (x:=Value.none) he2 rfl rfl ?_)
 rw [if_pos (show (Value.none == Value.none) = true by decide)]
 refine wpAny_pure ?_
 dsimp only
 unfold updateField
 refine wpAny_bind (wpAny_bind (wpAny_load k2 ?_))
 dsimp only
 rw [if_pos (show 2 < (#[Value.ref h1.objs.size,Value.none,Value.none,Value.none,Value.bool false,Value.none]:Array Value).size from Nat.le_of_ble_eq_true rfl)]
 refine wpAny_update k2 ?_
 refine wpAny_throw ?_
 have z1:∀ b,b ≠ e1->(h2.update e1 (Obj.mapFields fun x=>x.setIfInBounds 2 (.ref ea))).get? b = h2.get? b:=fun b hb'=>Heap.get?_update_ne _ _ _ _ hb'
 have z2:(h2.update e1 (Obj.mapFields fun x=>x.setIfInBounds 2 (.ref ea))).get? e1 = some { cls:=.type "StopIteration",data:=.fields #[.ref h1.objs.size,.none,.ref ea,.none,.bool false,.none] }:=Heap.get?_update_self _ k2 rfl
 refine wpAny_bind (wpAny_isInstance (T:="StopIteration") (b:=true) ⟨_,z2,rfl⟩ (by with_unfolding_all rfl) ?_)
 rw [if_pos rfl]
 refine wpAny_pure (q _ fun b o hb e=>?_)
 have e:=xb b o hb e
 rw [z1 b (k4 b o e)]
 exact k1 b o e
end
def ItlH (K:PySem.W.Frag) (ea C:Addr) (od:Option Addr) (t a:Addr):It:=
 ⟨fun i H=>∃ xs x,SqL K H a xs/\xs[i]? = some x,fun i H x H'=>H' = H/\∀ xs,SqL K H a xs->xs[i]? = some x,fun i H=>(∃ xs,SqL K H a xs/\xs.length<=i)/\H ea = some (excC ea C od t)⟩
theorem turn_listH {P:Program} {w:World} {K:PySem.W.Frag} {tg:Expr} {ea C t:Addr} {od:Option Addr} (a it:Addr):TurnH ea P w K tg (ItlH K ea C od t a) [it] it (fun i h=>h.IsListIter it a i) where
 mem:=by simp
 obj:=fun i h st b hb=>by
  have e:b = it:=by simpa using hb
  subst e
  obtain ⟨o,e,c,d⟩:=st
  exact ⟨o,e,fun v z=>by rw [d] at z; cases z⟩
 keep:=fun i h h' st k=>st.at fun o e=>k it (by simp) o e
 item:=by
  intro X hP hw hK hc i pins s σ H E I hf st hg
  subst hP hw hK
  obtain ⟨xs,x,hq,hx⟩:=hg
  obtain ⟨its,rv,p,hz⟩:=I.list hq
  obtain ⟨u,hu,ru⟩:=rv.get hx
  obtain ⟨f0,f1,f2,f3,f4,f5⟩:=hf it (by simp)
  refine wpAny_pyNext_list_item st p.isList (x:=u) (by simpa using hu) fun h' st' sb=>?_
  have I1:Inv X pins σ H { s with heap:=h' }:=I.turned (t':=s.toks) (fun b o hb e=>(sb.2 b hb).trans e) f0 f1 f3 f4 f5
  obtain ⟨o,e,c,d⟩:=id st'
  exact ⟨u,rfl,go_of (s:={ s with heap:=h' }) e c d (by decide) ⟨x,H,I1,ru,⟨rfl,fun ys hy=>by rw [I.list_inj hy hq]; exact hx⟩,st',fun b hb=>(hf b hb).1⟩⟩
 done:=by
  intro X hP hw hK hc i pins s σ H E I hf st hg
  subst hP hw hK
  obtain ⟨⟨xs,hq,hx⟩,hea⟩:=hg
  obtain ⟨its,rv,p,hz⟩:=I.list hq
  obtain ⟨tb,he⟩:=(I.hok ea _ hea).1
  obtain ⟨f0,f1,f2,f3,f4,f5⟩:=hf it (by simp)
  have hl:=rv.length
  exact next_listEndH hc he st p.isList (by simp; omega) fun h' eb=>⟨rfl,I.turned (t':=s.toks) (fun b o hb e=>eb b o hb e) f0 f1 f3 f4 f5⟩
 self:=fun _ _ _ _ _ st h=>wpAny_pyIter_listiter st h
section
variable {X:Cx} {tg:Expr}
def iListH (K:PySem.W.Frag) (ea:Addr) (tl:TE):TI:=fun σ H R=>tl σ H fun x H1=>∃ (a C:Addr) (od:Option Addr) (t:Addr),x = .ref a/\(∃ xs,SqL K H1 a xs)/\R (ItlH K ea C od t a) H1
theorem pi_listH {ea:Addr} {l:Expr} {tl:TE} (hl:PE X l tl):PIH X ea tg l (iListH X.K ea tl):=by
 refine ⟨?_⟩
 intro pins s σ H R I h
 refine thn (hl pins s σ H _ I h) fun v s1 ⟨x,H1,I1,r1,q1⟩=>?_
 obtain ⟨a,C,od,t,e,⟨xs,hq⟩,q⟩:=q1
 subst e
 cases r1
 obtain ⟨its,rv,p,hz⟩:=I1.list hq
 refine wpAny_pyIter_list p.isList ?_
 refine ⟨s1.heap.objs.size,[s1.heap.objs.size],_,_,H1,rfl,I1.kept (t':=s1.toks) fun b o e=>Heap.get?_push_of_some _ e,turn_listH a _,⟨_,Heap.get?_push_size _ rfl,rfl,rfl⟩,fun b hb=>?_,q⟩
 have e:b = s1.heap.objs.size:=by simpa using hb
 subst e
 exact I1.fpOk (Nat.le_refl _) (I1.hok.fresh (Nat.le_refl _))
end
section
variable {X:Cx} {sc:Scope} {elt tg iter:Expr} {ifs:List Expr} {g:TG} {tt:TT} {te:TE} {ow:List Nat} {pos:Pos}
theorem pe_lcH {ea:Addr} {wi:TI} (fr Nc:List Str) (caps:List (Option Nat)) (hc:X.A.handled = some (.ref ea)) (B:BlockOk X.env sc fr) (hi:PIH X ea tg iter wi) (go:GOwn g ow) (how:(ow.all fun i=>caps[i]? == some none) = true)
  (hcap:capChk X.N Nc caps X.env sc fr = true) (hlen:caps.length = Nc.length)
  (hb:∀ (pins:List (Addr × Obj)) (fp:List Addr) (s:Shared) (H:Hp) (C:Addr),PG (compCx X pins sc fr Nc fp s H C) tg g/\PIf (compCx X pins sc fr Nc fp s H C) ifs tt/\PE (compCx X pins sc fr Nc fp s H C) elt te)
  (hs:∀ x,foldedSetIterable iter X.env x = pure x:=by intro _; rfl):PE X (.ListComp elt [⟨tg,iter,ifs,0⟩] sc pos) (tLC wi caps g tt te):=by
 refine ⟨?_⟩
 intro pins s σ H Q I h
 rw [eval_ListComp]
 refine wpAny_comprehension_free (use:=none) rfl hs B.clos B.kind B.loc (thn (hi pins s σ H _ I h) fun v s1 h1=>thn h1 fun itv s2 h2=>?_)
 obtain ⟨it,fp,tn,J,H2,e,I2,T,st2,f2,q⟩:=h2
 subst e
 refine comp_runH (RR:=fun acc C=>compPost (model X.prog X.w) X.A X.xe none (EP X pins σ Q) acc C) hc B go how hcap hlen hb I2 T st2 f2 q ?_
 intro D C σ' H' s' J' qq
 obtain ⟨m,hn,_⟩:=J'.loc
 exact ⟨m,hn,fun h' hs'=>⟨.ref D,H',comp_gone I2 J' (comp_back I2 f2 J') hs',rfl,qq⟩⟩
end
theorem lc_listH {K:PySem.W.Frag} {ea C t a:Addr} {od:Option Addr} {xs:List V} {caps:List (Option Nat)} {g:TG} {tt:TT} {te:TE} {σ : St} {H1:Hp} {Q:VK} {D:Addr} (Pv:Nat->List V->Hp->Prop) (h0:Pv 0 [] (upd H1 D (.lst [])))
  (hl:∀ i ys H,Pv i ys H->SqL K H a xs) (he:∀ i ys H,Pv i ys H->H ea = some (excC ea C od t))
  (hs:∀ i x ys H,i < xs.length->xs[i]? = some x->Pv i ys H->g x (capS caps σ) H fun σ2 H2=>tt σ2 H2 fun ok H3=>(ok = true->te σ2 H3 (lcN xs.length i D Pv ys))/\(ok = false->lcS xs.length i Pv ys H3))
  (hd:∀ ys H,Pv xs.length ys H->Q (.ref D) H):LCr (ItlH K ea C od t a) caps g tt te σ H1 Q D:=by
 refine ⟨fun i m ys H=>m = xs.length - i/\i<=xs.length/\Pv i ys H,⟨xs.length,by simp,Nat.zero_le _,h0⟩,?_⟩
 rintro i m ys H ⟨rfl,hi,p⟩
 have q:=hl i ys H p
 by_cases hlt:i < xs.length
 ·refine .inr ⟨⟨xs,xs[i],q,by simp [hlt]⟩,fun x H' y=>?_⟩
  obtain ⟨e,y⟩:=y
  subst e
  exact hs i x ys _ hlt (y xs q) p
 ·have e:i = xs.length:=by omega
  subst e
  exact .inl ⟨⟨⟨xs,q,Nat.le_refl _⟩,he _ _ _ p⟩,hd ys H p⟩
section
variable {X:Cx}
end
end L2
namespace L2
open PySem PySem.Spec PyProof.Rows
def ExcH (H:Hp) (ea D:Addr):Prop:=(∃ od t,H ea = some (excC ea D od t))\/∃ od t,H ea = some (excX ea D od t)
theorem ExcH.same {H H':Hp} {ea D:Addr} (h:ExcH H ea D) (s:Same H H'):ExcH H' ea D:=by
 rcases h with ⟨od,t,h⟩ | ⟨od,t,h⟩
 ·exact .inl ⟨od,t,s _ _ h⟩
 ·exact .inr ⟨od,t,s _ _ h⟩
section
variable {X:Cx}
theorem exc_hereG {pins:List (Addr × Obj)} {σ : St} {H:Hp} {s:Shared} {ea D:Addr} (I:Inv X pins σ H s) (e:ExcH H ea D):ExcAt ea (.ref D) s.heap:=by
 rcases e with ⟨od,t,e⟩ | ⟨od,t,e⟩
 ·obtain ⟨tb,h⟩:=(I.hok ea _ e).1
  exact ⟨_,_,h,rfl,rfl⟩
 ·exact ⟨_,_,excX_at I e,rfl,rfl⟩
theorem call_isinstG:CallR X (.builtin "isinstance") (fun xs H Q=>∃ ea D C b,xs = [.ref ea,.ref C]/\ExcH H ea D/\ExcCls X.K D/\PySem.W.kitOne X.K (.ref D) (.ref C) = some b/\Q (.bl b) H):=by
 intro pins s σ H xs us Q I r h
 obtain ⟨ea,D,C,b,rfl,he,c,e,q⟩:=h
 obtain ⟨u,w',rfl,ru,rw'⟩:=vals2 r
 cases rw'
 cases ru
 exact PySem.W.kia_one (kitx_exc c) I.kIn (exc_hereG I he) e (fun z=>nomatch z) fun tk=>⟨.bl b,H,I.tok tk,rfl,q⟩
theorem call_isinstGT:CallR X (.builtin "isinstance") (fun xs H Q=>∃ ea D T b,xs = [.ref ea,.ty T]/\ExcH H ea D/\ExcCls X.K D/\PySem.W.kitOne X.K (.ref D) (.type T) = some b/\Q (.bl b) H):=by
 intro pins s σ H xs us Q I r h
 obtain ⟨ea,D,T,b,rfl,he,c,e,q⟩:=h
 obtain ⟨u,w',rfl,ru,rw'⟩:=vals2 r
 cases rw'
 cases ru
 exact PySem.W.kia_one (kitx_exc c) I.kIn (exc_hereG I he) e (fun z=>nomatch z) fun tk=>⟨.bl b,H,I.tok tk,rfl,q⟩
theorem call_isinstGs:CallR X (.builtin "isinstance") (fun xs H Q=>∃ (ea D tp:Addr) (cs:List Addr) (b:Bool),xs = [.ref ea,.ref tp]/\ExcH H ea D/\ExcCls X.K D/\H tp = some (.tup (cs.map V.ref))/\PySem.W.kitAny X.K (.ref D) (cs.map Value.ref) = some b/\Q (.bl b) H):=by
 intro pins s σ H xs us Q I r h
 obtain ⟨ea,D,tp,cs,b,rfl,he,c,ht,e,q⟩:=h
 obtain ⟨u,w',rfl,ru,rw'⟩:=vals2 r
 cases rw'
 cases ru
 obtain ⟨_,its,rv,⟨oc,od,oda,osl⟩,h1,h2,n,h3⟩:=I.hok tp _ ht
 have h2:oc = .type "tuple":=h2
 have h3:oda = .seq its.toArray n:=h3
 subst h2 h3
 rw [vals_refs rv] at h1
 exact PySem.W.kia_tup (kitx_exc c) I.kIn (exc_hereG I he) h1 e (fun z=>nomatch z) fun tk=>⟨.bl b,H,I.tok tk,rfl,q⟩
end
theorem pe_fldCK {X:Cx} {K:PySem.W.Frag} {e:Expr} {f:Str} {pos:Pos} {ta:TE} (hK:X.K = K) (he:PE X e ta) (hb:attributeBase e f X.env (eval e X.env) = eval e X.env):PE X (.Attribute e f pos) (tFldC K ta f):=hK ▸ pe_fldC he hb
section
variable {X:Cx} {hs:List ExceptHandler} {th:HK} {c n:Str} {C':Addr} {i:Nat} {ts:TS} {b₀:Stmt} {suite:List Stmt} {np hpos:Pos}
theorem ph_asA {tsA:Addr->TS} (hN:X.N.Nodup) (hi:X.N[i]? = some n) (hk:X.env.scope.names.lookup n = some .local) (hg:Gl X c) (hm:X.mg c = some (.ref C')) (hs':∀ ea,PSs (X.suite ea) (b₀ :: suite) (tsA ea)) (hr:PH X hs th)
  (hd:(c == ("__debug__" : Str)) = false:=by decide):PH X (.ExceptHandler (some (.Name c np)) (some n) (b₀ :: suite) hpos :: hs) (hAsC X.K C' i tsA th):=by
 refine ⟨fun pins σ H1 s1 H' ea C od t s5 D I1 F5 h=>?_⟩
 obtain ⟨B,fl,tr,old,olds⟩:=F5.fly
 have I5:Inv X pins σ H' s5:=I1.call' F5.os F5.un F5.hok F5.bare fun b z=>nomatch z
 have LT:PySem.W.Looks (model X.prog X.w) s5.heap (typeOf (.ref ea)) (.ref C):=by
  obtain ⟨tb,oT,ts',he,_⟩:=fl.2.2.2
  exact (PySem.W.Looks.ld he).andThen .now
 refine wpAny_handleBy_cons (codeAny_handlers_test (ld_glob (I5.suite ea) hg hm ?_ hd)) (by intro z; cases z)
 rcases h with ⟨hx,h⟩ | ⟨hx,h⟩
 ·refine (PySem.W.exm_one (M:=model X.prog X.w) (h:=s5.heap) I5.kIn LT hx) _ _ _ _ (fun _ _ z=>z) ?_
  refine codeAny_handlers_suite_as (landS fl fun h6 fl6 up6=>?_)
  have F6:=F5.move fl tr old olds fl6 up6
  have I6:=F6.track I1 fl6 old
  refine store_ok (v:=.ref ea) I6 hN hi (.inl hk) rfl (fun s7 I7=>?_) (.inr hk)
  refine wpAny_mono ((hs' ea) pins s7 _ _ (endsN D i) (I7.suite ea) h) (fun f s8 h8=>?_) fun _ _ z=>z.elim
  show wpAny (model X.prog X.w) X.A (do bindName X.env n .none; unbindBehindTheSuite X.env n hpos) (fun _ s9=>SP X pins D f s9) X.xe s8
  cases f with
  | next=>
   obtain ⟨σ',H2,I8,q8⟩:=h8
   exact name_goes (Inv.unsuite I1.ok I8) hN hi hk fun s9 I9=>⟨_,H2,I9,q8⟩
  | brk=>
   obtain ⟨σ',H2,I8,q8⟩:=h8
   exact name_goes (Inv.unsuite I1.ok I8) hN hi hk fun s9 I9=>⟨_,H2,I9,q8⟩
  | cont=>
   obtain ⟨σ',H2,I8,q8⟩:=h8
   exact name_goes (Inv.unsuite I1.ok I8) hN hi hk fun s9 I9=>⟨_,H2,I9,q8⟩
  | ret u=>
   obtain ⟨v,σ',H2,I8,rv,q8⟩:=h8
   exact name_goes (Inv.unsuite I1.ok I8) hN hi hk fun s9 I9=>⟨v,_,H2,I9,rv,q8⟩
 ·refine (PySem.W.exm_one (M:=model X.prog X.w) (h:=s5.heap) I5.kIn LT hx) _ _ _ _ (fun _ _ z=>z) ?_
  exact hr.run pins σ H1 s1 H' ea C od t s5 D I1 F5 h
end
structure FnOkH (P:Program) (w:World) (K:PySem.W.Frag) (mg:Str->Option Value) (base:Heap) (ea:Addr) (k:Nat) (f:Addr) (fd:FuncData) (ps:List Str) (sp:Sp):Prop where
 len:∀ vs H Q E,sp vs H Q E->vs.length = ps.length
 run:∀ (A:Around) (outer:List Env) (s:Shared) (H:Hp) (args:Args) (us:List Value) (vs:List V) (Q:VK),A.handled = some (.ref ea)->RoomM k A->Env0 P w K mg base A outer s H->BindsTo s fd args (ps.zip us)->Vals vs us->sp vs H Q E0->
  codeAny (model P w) A (.call (.ref f) args) (CR CX0 outer P w H s Q E0) s
section
variable {P:Program} {w:World} {K:PySem.W.Frag} {mg:Str->Option Value} {base:Heap}
theorem Fun.okH {ea:Addr} {x qual:Str} {st:Stmt} {f:Addr} {fd:FuncData} {N ps:List Str} {k:Nat} {sp:Sp} (F:Fun K x qual st f fd) (S:FnScope N ps (defScope st)) (len:∀ vs H Q E,sp vs H Q E->vs.length = ps.length)
  (hbody:∀ (cdv:Value) (A:Around) (outer:List Env) (s:Shared) (H:Hp) (vs:List V) (Q:VK),A.handled = some (.ref ea)->RoomM k (A.deeper (envOfC qual (defScope st) s.heap.objs.size f cdv))->sp vs H Q E0->
   ∃ t,PSs (cxOfM P w K mg base N qual (defScope st) f cdv A outer s H) (defBody st) t/\t { nx:=fun _ H'=>Q .non H',rt:=Q } (start N vs) H):FnOkH P w K mg base ea (k + 1) f fd ps sp:=by
 obtain ⟨oc,od,kV,doc,pm,an,cdv,ct,osl,rfl,lk,hcd⟩:=F.ex
 refine ⟨len,fun A outer s H args us vs Q hA hr e0 hb r hsp=>?_⟩
 have hl:=len _ _ _ _ hsp
 have KX:K.In s.heap:=e0.mod.kin.keeps fun b o e=>(e0.bs b o e).1
 have lim:s.heap.NoLimit:=e0.mod.nolimit.keeps fun b o e=>(e0.bs b o e).1
 have hkind:∀ y ∈ ps.zip us,(defScope st).names.lookup y.1 = some .local\/((defScope st).names.lookup y.1 = some .cell/\((cellsFrom (s.heap.objs.size + 1) (defScope st).names []).lookup y.1).isSome = true):=fun ⟨n,v⟩ hy=>by
  rcases S.par n (List.of_mem_zip hy).1 with q | q
  ·exact .inl q
  ·exact .inr ⟨q,PySem.W.cellsFrom_some _ _ _ (.inl q)⟩
 refine codeAny_call_function hr.depth (KX _ _ lk) rfl S.co S.gen rfl (PySem.W.codeRec_of KX hcd) (hb _ _ _ _ ?_)
 refine wpAny_newFunctionEnv_cells S.kind hkind fun env he s1 x=>?_
 subst he
 refine ⟨lim.keeps x.toInCall.keep,codeAny_func ?_⟩
 obtain ⟨t,ht,hq⟩:=hbody cdv A outer s H vs Q hA (hr.deeper _) hsp
 have I:Inv (cxOfM P w K mg base N qual (defScope st) f cdv A outer s H) [] (start N vs) H s1:=inv_startM S e0 hl r x
 refine wpAny_mono (ht [] s1 (start N vs) H _ I hq) (fun fl s' hs=>?_) fun e s' hs=>hs.elim
 have fin:∀ {σ':St} {H':Hp} {v:V} {u:Value},Inv (cxOfM P w K mg base N qual (defScope st) f cdv A outer s H) [] σ' H' s'->RelV v u->Q v H'->CE outer P w H s Q u s':=
  fun {σ' H' v u} J rv q=>⟨v,H',J.os,J.bare,J.base,J.hok,rv,q⟩
 cases fl with
 | ret u=>
  obtain ⟨v,σ',H',J,rv,q⟩:=hs
  exact fin J rv q
 | next=>
  obtain ⟨σ',H',J,q⟩:=hs
  exact fin (v:=V.non) (u:=Value.none) J rfl q
 | brk=>
  obtain ⟨_,_,_,q⟩:=hs
  exact False.elim q
 | cont=>
  obtain ⟨_,_,_,q⟩:=hs
  exact False.elim q
end
structure CalleeH (P:Program) (w:World) (K:PySem.W.Frag) (mg:Str->Option Value) (base:Heap) (k:Nat) (x:Str) (f:Addr) (fd:FuncData) (ps:List Str) (sp:Addr->Sp):Prop where
 ok:∀ ea,FnOkH P w K mg base ea k f fd ps (sp ea)
 mg:mg x = some (.ref f)
 kp:PySem.W.keepIn K (.ref f) = true
 bd:Binds K fd ps []
section
variable {X:Cx} {k:Nat} {f ea:Addr} {fd:FuncData} {ps:List Str} {sp:Addr->Sp} {x:Str} {p pos:Pos} {e:Expr} {es:List Expr} {t:TA}
theorem cH (c:CalleeH X.prog X.w X.K X.mg X.base k x f fd ps sp) (hA:X.A.handled = some (.ref ea)) (hr:RoomM k X.A) (ha:PA X (e :: es) t) (hg:Gl X x:=by rfl) (hdb:(x == ("__debug__" : Str)) = false:=by decide)
  (h1:isSt e = false:=by rfl) (h2:es.any isSt = false:=by rfl):PE X (.Call (.Name x p) (e :: es) [] pos) (tCall (sp ea) [] E0 t):=by
 refine ⟨?_⟩
 intro pins s σ H Q I h
 refine wpAny_Call_Name_kw (ld_glob I hg c.mg ?_ hdb)
 refine PySem.W.callWith_K (h₀:=X.base) I.ok.mod.kin c.kp (thn (ha pos pins s σ H _ I h) fun us s1 ⟨vs,H1,I1,r,q⟩=>⟨I1.kIn,?_⟩) (star_cons h1) (star_any h2)
 have r2:Vals (vs ++ []) (us ++ []):=r.append .nil
 have hl:(us ++ []).length = ps.length:=by rw [<- r2.length]; exact (c.ok ea).len _ _ _ _ q
 refine wpAny_call (codeAny_mono ((c.ok ea).run X.A X.stack s1 H1 ⟨us,[]⟩ (us ++ []) (vs ++ []) Q hA hr I1.env0 (c.bd s1 us I1.kIn hl) r2 q) fun r s' hq=>?_)
 cases r with
 | error e=>exact False.elim hq
 | ok fl=>
  cases fl with
  | ret u=>exact I1.after hq
  | next=>exact False.elim hq
  | brk=>exact False.elim hq
  | cont=>exact False.elim hq
end
theorem sqT_keep' {K:PySem.W.Frag} {H3:Hp} {o:HO} {l b:Addr} {zs:List V} (hl:∃ zs,H3 l = some (.lst zs)) (hz:SqT K H3 b zs):SqT K (upd H3 l o) b zs:=by
 obtain ⟨ws,hl⟩:=hl
 rcases hz with (z | ⟨u,z⟩) | z
 ·refine .inl (.inl ?_)
  rw [upd_ne (fun e=>by subst e; rw [hl] at z; cases z)]
  exact z
 ·refine .inl (.inr ⟨u,?_⟩)
  rw [upd_ne (fun e=>by subst e; rw [hl] at z; cases z)]
  exact z
 ·exact .inr z
theorem says_grow {K:PySem.W.Frag} {ok ok':Addr->Prop} {H:Hp} {o:HO} {l:Addr} {zs:List V} (hl:H l = some (.lst zs)) (hk:∀ b,ok b->ok' b/\b ≠ l) {n:Nat} {x:V} {d:Dt} (h:Says K ok H n x d):Says K ok' (upd H l o) n x d:=
 h.frame (fun a xs z=>sqT_keep' ⟨_,hl⟩ z) fun a xs oa z=>⟨(hk a oa).1,by rw [upd_ne (hk a oa).2]; exact z⟩
theorem lc_sayse {K:PySem.W.Frag} {a:Addr} {xs:List V} {m:Nat} {caps:List (Option Nat)} {g:TG} {tt:TT} {te:TE} {σ : St} {H1:Hp} {Q:VK} {D:Addr} (dt:Nat->Dt) (hD:H1 D = none) (ha:SqL K H1 a xs) (hn:xs.length<=1000)
  (hs:∀ (i:Nat) (x:V) (p:Addr) (H:Hp) (Qf:VK) (Qs:Hp->Prop),xs[i]? = some x->H p = none->Same H1 H->(∀ v H',Same H H'->Says K (fun a=>H a = none) H' m v (dt i)->Qf v H')->
   g (.ref p) (capS caps σ) (upd H p (.tup [.int i,x])) fun σ2 H2=>tt σ2 H2 fun ok H3=>(ok = true->te σ2 H3 Qf)/\(ok = false->Qs H3))
  (hd:∀ vs H,Same H1 H->H D = some (.lst vs)->Paired (Says K (fun a=>a ≠ D/\H1 a = none) H m) vs ((List.range xs.length).map dt)->Q (.ref D) H):LCr (Ite K a) caps g tt te σ H1 Q D:=by
 have sz : 1000<=sizeLine:=by decide
 refine lc_enum (K:=K) (xs:=xs) (fun i ys H'=>Same H1 H'/\H' D = some (.lst ys)/\Paired (Says K (fun a=>a ≠ D/\H1 a = none) H' m) ys ((List.range i).map dt)) ⟨fun b u e=>by rw [upd_ne (ne_of_none e hD)]; exact e,upd_same,.nil⟩ (fun i ys H h=>h.1.seq ha) ?_ ?_
 ·rintro i x p ys H hi hx ⟨sH,hDy,hp⟩ hpn
  refine hs i x p H _ _ hx hpn sH fun v H' s' hv=>?_
  have ly:ys.length = i:=by rw [hp.length,List.length_map,List.length_range]
  refine lcN.mk hi (by omega) (s' _ _ hDy) (by omega) ⟨fun b u e=>?_,upd_same,?_⟩
  ·rw [upd_ne (ne_of_none e hD)]
   exact s' _ _ (sH _ _ e)
  ·rw [List.range_succ,List.map_append]
   refine Paired.snoc (Paired.imp' (fun _ _ z=>says_grow (s' _ _ hDy) (fun b o=>⟨o,o.1⟩) (z.same s')) hp) (says_grow (s' _ _ hDy) (fun b o=>?_) hv)
   have nb:b ≠ D:=fun e=>by subst e; rw [o] at hDy; cases hDy
   exact ⟨⟨nb,sH.free o⟩,nb⟩
 ·rintro ys H ⟨sH,hDy,hp⟩
  exact hd ys H sH hDy hp
theorem le1000' {n:Nat} (h:n<=1000):n<=sizeLine:=Nat.le_of_lt (small1000 h)
theorem filt_snoc {α : Type} {ys:List α} {i:Nat} {y : α} (keep : α->Bool) (hy:ys[i]? = some y):(ys.take (i + 1)).filter keep = (ys.take i).filter keep ++ (if keep y = true then [y] else []):=by
 have hi:i < ys.length:=(List.getElem?_eq_some_iff.mp hy).1
 have e:ys[i] = y:=(List.getElem?_eq_some_iff.mp hy).2
 rw [List.take_succ_eq_append_getElem hi,List.filter_append,e,List.filter_cons]
 rfl
theorem filt_le {α : Type} {ys:List α} {i:Nat} (keep : α->Bool):((ys.take i).filter keep).length<=i:=by
 have:=List.length_filter_le keep (ys.take i)
 rw [List.length_take] at this
 omega
theorem lc_sel {α : Type} {K:PySem.W.Frag} {a:Addr} {xs:List V} {caps:List (Option Nat)} {g:TG} {tt:TT} {te:TE} {σ : L2.St} {H1:Hp} {Q:VK} {D:Addr} (ys:List α) (keep : α->Bool) (out : α->V) (hD:H1 D = none) (ha:SqL K H1 a xs) (hl:xs.length = ys.length) (hn:xs.length<=1000)
  (hs:∀ (i:Nat) (x:V) (y : α) (H:Hp) (N:VK) (S:Hp->Prop),xs[i]? = some x->ys[i]? = some y->Same H1 H->(∀ H',Same H H'->keep y = true->N (out y) H')->(∀ H',Same H H'->keep y = false->S H')->g x (capS caps σ) H fun σ2 H2=>tt σ2 H2 fun ok H3=>(ok = true->te σ2 H3 N)/\(ok = false->S H3))
  (hd:∀ H,Same H1 H->H D = some (.lst ((ys.filter keep).map out))->Q (.ref D) H):LCr (Itl K a) caps g tt te σ H1 Q D:=by
 refine lc_list (K:=K) (xs:=xs) (fun i zs H'=>Same H1 H'/\H' D = some (.lst zs)/\zs = ((ys.take i).filter keep).map out) ⟨same_new hD _,upd_same,rfl⟩ (fun i zs H' h=>h.1.seq ha) ?_ ?_
 ·rintro i x zs H' hlt hx ⟨sH,hDy,ez⟩
  obtain ⟨y,hy⟩:∃ y,ys[i]? = some y:=⟨_,List.getElem?_eq_getElem (by omega)⟩
  refine hs i x y H' _ _ hx hy sH (fun H2 s2 hk=>?_) (fun H2 s2 hk=>?_)
  ·refine lcN.mk hlt (le1000' hn) (s2 _ _ hDy) (by rw [ez,List.length_map]; exact filt_le _) ⟨fun b' u e=>?_,upd_same,?_⟩
   ·rw [upd_ne (ne_of_none e hD)]
    exact s2 _ _ (sH b' u e)
   ·rw [ez,filt_snoc keep hy,if_pos hk,List.map_append]
    rfl
  ·refine lcS.mk hlt ⟨sH.trans s2,s2 _ _ hDy,?_⟩
   rw [ez,filt_snoc keep hy,if_neg (by rw [hk]; exact Bool.false_ne_true),List.append_nil]
 ·rintro zs H2 ⟨s2,hDy,ez⟩
  rw [List.take_of_length_le (by omega)] at ez
  rw [ez] at hDy
  exact hd H2 s2 hDy
theorem lc_sele {α : Type} {K:PySem.W.Frag} {a:Addr} {xs:List V} {caps:List (Option Nat)} {g:TG} {tt:TT} {te:TE} {σ : L2.St} {H1:Hp} {Q:VK} {D:Addr} (ys:List α) (keep : α->Bool) (out : α->V) (hD:H1 D = none) (ha:SqL K H1 a xs) (hl:xs.length = ys.length) (hn:xs.length<=1000)
  (hs:∀ (i:Nat) (x:V) (y : α) (p:Addr) (H:Hp) (N:VK) (S:Hp->Prop),xs[i]? = some x->ys[i]? = some y->H p = none->Same H1 H->(∀ H',Same H H'->keep y = true->N (out y) H')->(∀ H',Same H H'->keep y = false->S H')->g (.ref p) (capS caps σ) (upd H p (.tup [.int i,x])) fun σ2 H2=>tt σ2 H2 fun ok H3=>(ok = true->te σ2 H3 N)/\(ok = false->S H3))
  (hd:∀ H,Same H1 H->H D = some (.lst ((ys.filter keep).map out))->Q (.ref D) H):LCr (Ite K a) caps g tt te σ H1 Q D:=by
 refine lc_enum (K:=K) (xs:=xs) (fun i zs H'=>Same H1 H'/\H' D = some (.lst zs)/\zs = ((ys.take i).filter keep).map out) ⟨same_new hD _,upd_same,rfl⟩ (fun i zs H' h=>h.1.seq ha) ?_ ?_
 ·rintro i x p zs H' hlt hx ⟨sH,hDy,ez⟩ hp
  obtain ⟨y,hy⟩:∃ y,ys[i]? = some y:=⟨_,List.getElem?_eq_getElem (by omega)⟩
  refine hs i x y p H' _ _ hx hy hp sH (fun H2 s2 hk=>?_) (fun H2 s2 hk=>?_)
  ·refine lcN.mk hlt (le1000' hn) (s2 _ _ hDy) (by rw [ez,List.length_map]; exact filt_le _) ⟨fun b' u e=>?_,upd_same,?_⟩
   ·rw [upd_ne (ne_of_none e hD)]
    exact s2 _ _ (sH b' u e)
   ·rw [ez,filt_snoc keep hy,if_pos hk,List.map_append]
    rfl
  ·refine lcS.mk hlt ⟨sH.trans s2,s2 _ _ hDy,?_⟩
   rw [ez,filt_snoc keep hy,if_neg (by rw [hk]; exact Bool.false_ne_true),List.append_nil]
 ·rintro zs H2 ⟨s2,hDy,ez⟩
  rw [List.take_of_length_le (by omega)] at ez
  rw [ez] at hDy
  exact hd H2 s2 hDy
end L2
namespace L2
open PySem PySem.Spec PyProof.Rows PySem.Builtin
section
variable {prog:Program} {w:World} {A:Around} {E:Value->Shared->Prop} {s:Shared} {it l ea C t:Addr} {od:Option Addr} {tb:Value} {i:Nat} {items:Array Value} {Q:Option Value->Shared->Prop}
theorem next_tupleEndH (hA:A.handled = some (.ref ea)) (he:s.heap.get? ea = some (excF C od t tb)) (hit:IsTupIter s.heap it l i) (hl:IsTup s.heap l items) (hx:items[i]? = none)
  (q:∀ h':Heap,Heap.ExtBut it s.heap h'->Q none { s with heap:=h' }):wpAny (model prog w) A (pyNext (.ref it)) Q E s:=by
 obtain ⟨hh,gg,dd,tk,os⟩:=s
 obtain ⟨o,ho,hc,hd⟩:=id hit
 obtain ⟨ol,hol,_,nl,hdl⟩:=hl
 have hne:ea ≠ it:=fun z=>by
  rw [z] at he
  have ho':hh.get? it = some o:=ho
  have he':hh.get? it = some (excF C od t tb):=he
  rw [ho'] at he'
  cases Option.some.inj he'
  cases hc
 unfold pyNext
 refine wpAny_bind (wpAny_attempt (wpAny_callSpecial?_slot (name:=Str.ofString "__next__") hit.typeIs slot_tupleiter_next
  (wpAny_call_entry slot_tupleiter_next hit.typeIs entry_tupleiter_next ?_ (args_tupleiter_next _))))
 show wpAny _ _ (field (.ref it) 0 >>= _) _ _ _
 refine wpAny_bind (wpAny_field ho hd (x:=.ref l) rfl ?_)
 show wpAny _ _ (if (Value.ref l == Value.none) = true then _ else _) _ _ _
 rw [if_neg (show ¬ ((Value.ref l == Value.none) = true) from Bool.false_ne_true)]
 show wpAny _ _ (field (.ref it) 1 >>= _) _ _ _
 refine wpAny_bind (wpAny_field ho hd (x:=.int i 0) rfl ?_)
 show wpAny _ _ (seqItems? (.ref l) >>= _) _ _ _
 refine wpAny_bind (wpAny_seqItems hol hdl ?_)
 simp only [Int.toNat_natCast,hx]
 refine wpAny_bind (wpAny_rule (wpAny_bind (wpAny_setField ho hd (by simp) ?_)))
 have sb:=Heap.SameBut.update hh it (Obj.mapFields fun x=>x.setIfInBounds 0 Value.none)
 have he1:=(sb.2 ea hne).trans he
 have xb:=sb.extBut
 dsimp only
 generalize hh.update it (Obj.mapFields fun x=>x.setIfInBounds 0 Value.none) = h1 at he1 xb |-
 unfold SmallTypes.stopIteration newExc
 refine wpAny_bind (wpAny_bind (wpAny_newTuple ?_ (by show 0<=sizeLine; decide)))
 dsimp only
 unfold firstArgMember
 dsimp only
 refine wpAny_bind (wpAny_bind (wpAny_pure (wpAny_pure ?_)))
 have fm:(if (Manifest.find? "StopIteration").elim false (fun t=>t.mro.contains "StopIteration" || t.mro.contains "SystemExit") = true then ([]:List Value).headD Value.none else Value.none) = Value.none:=by split <;> rfl
 rw [fm]
 show wpAny _ _ (newObj (Value.type "StopIteration") (Data.fields #[.ref h1.objs.size,.none,.none,.none,.bool false,.none])) _ _ _
 refine wpAny_newObj_type ?_ (by show 6<=sizeLine + 2; decide)
 dsimp only
 have k1:∀ b o,h1.get? b = some o->((h1.push (tupNew [])).push { cls:=.type "StopIteration",data:=.fields #[.ref h1.objs.size,.none,.none,.none,.bool false,.none] }).get? b = some o:=fun b o e=>Heap.get?_push_of_some _ (Heap.get?_push_of_some _ e)
 have k2:((h1.push (tupNew [])).push { cls:=.type "StopIteration",data:=.fields #[.ref h1.objs.size,.none,.none,.none,.bool false,.none] }).get? (h1.push (tupNew [])).objs.size = some { cls:=.type "StopIteration",data:=.fields #[.ref h1.objs.size,.none,.none,.none,.bool false,.none] }:=Heap.get?_push_size _ rfl
 have k3:(h1.push (tupNew [])).objs.size ≠ ea:=by
  have:=Heap.lt_size he1
  rw [Heap.size_push]
  exact Nat.ne_of_gt (Nat.lt_succ_of_lt this)
 have k4:∀ b o,h1.get? b = some o->b ≠ (h1.push (tupNew [])).objs.size:=fun b o e=>by
  have:=Heap.lt_size e
  rw [Heap.size_push]
  exact Nat.ne_of_lt (Nat.lt_succ_of_lt this)
 generalize (h1.push (tupNew [])).objs.size = e1 at k2 k3 k4 |-
 generalize (h1.push (tupNew [])).push { cls:=.type "StopIteration",data:=.fields #[.ref h1.objs.size,.none,.none,.none,.bool false,.none] } = h2 at k1 k2 |-
 unfold raiseNew
 refine wpAny_bind (wpAny_handled ?_)
 have hA':A.in1.handled = some (.ref ea):=hA
 rw [hA']
 dsimp only
 rw [if_pos (show (Value.ref ea != Value.ref e1) = true by rw [bne_iff_ne]; intro z; exact k3 (Value.ref.inj z).symm)]
 have he2:=k1 _ _ he1
 refine wpAny_bind (wpAny_holding (wpAny_runValue (codeAny_builtin (b:=Builtin.«proto.unchain») rfl ?_)))
 unfold Builtin.«proto.unchain»
 dsimp only
 refine wpAny_bind (wpAny_field (x:=Value.none) he2 rfl rfl ?_)
 rw [if_pos (show (Value.none == Value.none) = true by decide)]
 refine wpAny_pure ?_
 dsimp only
 unfold updateField
 refine wpAny_bind (wpAny_bind (wpAny_load k2 ?_))
 dsimp only
 rw [if_pos (show 2 < (#[Value.ref h1.objs.size,Value.none,Value.none,Value.none,Value.bool false,Value.none]:Array Value).size from Nat.le_of_ble_eq_true rfl)]
 refine wpAny_update k2 ?_
 refine wpAny_throw ?_
 have z1:∀ b,b ≠ e1->(h2.update e1 (Obj.mapFields fun x=>x.setIfInBounds 2 (.ref ea))).get? b = h2.get? b:=fun b hb'=>Heap.get?_update_ne _ _ _ _ hb'
 have z2:(h2.update e1 (Obj.mapFields fun x=>x.setIfInBounds 2 (.ref ea))).get? e1 = some { cls:=.type "StopIteration",data:=.fields #[.ref h1.objs.size,.none,.ref ea,.none,.bool false,.none] }:=Heap.get?_update_self _ k2 rfl
 refine wpAny_bind (wpAny_isInstance (T:="StopIteration") (b:=true) ⟨_,z2,rfl⟩ (by with_unfolding_all rfl) ?_)
 rw [if_pos rfl]
 refine wpAny_pure (q _ fun b o hb e=>?_)
 have e:=xb b o hb e
 rw [z1 b (k4 b o e)]
 exact k1 b o e
end
section
variable {prog:Program} {w:World} {A:Around} {E:Value->Shared->Prop} {s:Shared} {ea C tt:Addr} {od:Option Addr} {tb:Value}
theorem assign_Tuple_tupleH {env:Env} {elts:List Expr} {x1} {pos:Pos} {t:Addr} {items:Array Value} {Q:Unit->Shared->Prop} (hh:A.handled = some (.ref ea)) (he:s.heap.get? ea = some (excF C od tt tb)) (ht:IsTup s.heap t items)
  (hn:(assignEach elts env).length = items.size) (hstar:(assignEach elts env).findIdx? (·.1) = none)
  (h:∀ h',Heap.ExtBut s.heap.objs.size s.heap h'->wpAny (model prog w) A (assignInOrder ((assignEach elts env).map (·.2)) items.toList) Q E { s with heap:=h' }) :
  wpAny (model prog w) A (assign (.Tuple elts x1 pos) env (.ref t)) Q E s:=by
 rw [assign_Tuple]
 refine wpAny_bind (wpAny_standAt ?_)
 unfold unpack
 rw [hn,hstar]
 refine wpAny_bind (wpAny_holding ?_)
 have hlt:t ≠ s.heap.objs.size:=by obtain ⟨o,ho,_⟩:=ht; exact Nat.ne_of_lt (Heap.lt_size ho)
 have hle:ea ≠ s.heap.objs.size:=Nat.ne_of_lt (Heap.lt_size he)
 unfold unpackItems
 refine wpAny_bind ?_
 ·unfold notIterableAtAll
  refine wpAny_bind (wpAny_specialOf ht.typeIs slot_tuple_iter.lookup ?_)
  refine wpAny_pure ?_
  simp only [Bool.false_eq_true,if_false]
  refine wpAny_bind (wpAny_holding (iter_tuple ht ?_))
  refine wpAny_bind (wpAny_holding (draw_tuple hlt items.size 0 _ _ ⟨_,Heap.get?_push_size _ rfl,rfl,rfl⟩ (ht.push _) (by omega) fun h₁ hit₁ hs₁=>?_))
  have hall:List.take items.size (List.drop 0 items.toList) = items.toList:=by
   rw [List.drop_zero]; exact List.take_of_length_le (by simp)
  rw [hall]
  rw [if_neg (by simp)]
  have ht₁:IsTup h₁ t items:=(ht.push _).extBut hs₁.extBut hlt
  have he₁:h₁.get? ea = some (excF C od tt tb):=hs₁.extBut ea _ hle (Heap.get?_push_of_some _ he)
  refine wpAny_bind (wpAny_holding (next_tupleEndH (s:={ s with heap:=h₁ }) hh he₁ hit₁ ht₁ (by simp) fun h₂ he₂=>?_))
  simp only [Option.isSome_none,Bool.false_eq_true,if_false]
  refine wpAny_pure (h h₂ fun b o hb e=>he₂ b o hb (hs₁.extBut b o hb (Heap.get?_push_of_some _ e)))
end
def gTupH (K:PySem.W.Frag) (n:Nat) (ea:Addr) (t:TGs):TG:=fun v σ H Q=>∃ (a:Addr) (xs:List V) (C:Addr) (od:Option Addr) (tt:Addr),v = .ref a/\SqT K H a xs/\xs.length = n/\H ea = some (excC ea C od tt)/\t xs σ H Q
theorem pg_tupH {X:Cx} {ea:Addr} {es:List Expr} {k:Nat} {pos:Pos} {t:TGs} {n:Nat} {K:PySem.W.Frag} (hK:X.K = K) (hc:X.A.handled = some (.ref ea)) (h:PGs X es t)
  (hn:(assignEach es X.env).length = n:=by rfl) (hst:(assignEach es X.env).findIdx? (·.1) = none:=by rfl):PG X (.Tuple es k pos) (gTupH K n ea t):=by
 subst hK
 refine ⟨?_⟩
 intro pins s σ H v u Q I r hw
 obtain ⟨a,xs,C,od,tt,e1,hq,hl,hea,hw⟩:=hw
 subst e1
 cases r
 obtain ⟨its,rv,ht,hz⟩:=I.tuple hq
 obtain ⟨tb,he⟩:=(I.hok ea _ hea).1
 refine assign_Tuple_tupleH hc he ht (by simp [hn,<- hl,rv.length]) hst fun h' hx=>?_
 have I1:Inv X pins σ H { s with heap:=h' }:=I.kept (t':=s.toks) fun b o e=>hx b o (Nat.ne_of_lt (Heap.lt_size e)) e
 exact h pins _ σ H xs _ Q I1 (by simpa using rv) hw
theorem gown_tup2H {K:PySem.W.Frag} {n:Nat} {ea:Addr} (i j:Nat):GOwn (gTupH K n ea (gCons (gName i) (gCons (gName j) gNil))) [i,j]:=by
 rintro v σ H Q ⟨a,xs,C,od,tt,e1,e2,e3,e3',v1,r1,e4,v2,r2,e5,e6,q⟩
 refine ⟨a,xs,C,od,tt,e1,e2,e3,e3',v1,r1,e4,v2,r2,e5,e6,q,by rw [List.length_set,List.length_set],fun k hk=>?_⟩
 have h1:i ≠ k:=fun e=>hk (by simp [e])
 have h2:j ≠ k:=fun e=>hk (by simp [e])
 rw [List.getElem?_set_ne h2,List.getElem?_set_ne h1]
end L2
namespace L2
open PySem PySem.Spec PyProof.Rows
section
variable {X:Cx} {tg:Expr}
end
section
variable {X:Cx} {pins:List (Addr × Obj)} {σ : St} {e o:Expr} {es:List Expr} {ta:TE} {t:TA} {E:XK} {m:Str} {pos apos:Pos} {k:Nat} {f C:Addr} {fd:FuncData} {ps:List Str} {sp:Sp}
end
section
variable {X:Cx} {elts:List Expr} {x1:Nat} {tpos:Pos}
end
section
variable {P:Program} {w:World} {A:Around} {R:Result->Shared->Prop} {I:Addr} {fp wr:List Addr} {G:Array GenState->Array GenState->Prop} {n:Nat} {Pr:Nat->Value->Prop} {Sg:Nat->Shared->Prop}
end
theorem lc_mapV {β : Type} {K:PySem.W.Frag} {a:Addr} {xs:List V} {bs:List β} {caps:List (Option Nat)} {g:TG} {tt:TT} {te:TE} {σ : L2.St} {H1:Hp} {Q:VK} {D:Addr} (R':Hp->Addr->β->Prop)
  (sR':∀ {H H' v r},R' H v r->Same H H'->R' H' v r) (uR':∀ {H v r D ys o},R' H v r->H D = some (.lst ys)->R' (upd H D o) v r)
  (ha:SqL K H1 a xs) (hl:xs.length = bs.length) (hn:bs.length<=500) (hD:H1 D = none)
  (hs:∀ (i:Nat) x b H (Qf:VK) (Qs:Hp->Prop),xs[i]? = some x->bs[i]? = some b->Same H1 H->(∀ v H',Same H H'->R' H' v b->Qf (.ref v) H')->
   g x (capS caps σ) H fun σ2 H2=>tt σ2 H2 fun ok H3=>(ok = true->te σ2 H3 Qf)/\(ok = false->Qs H3))
  (hd:∀ vs H,Same H1 H->H D = some (.lst (vs.map V.ref))->Paired (R' H) vs bs->Q (.ref D) H):LCr (Itl K a) caps g tt te σ H1 Q D:=by
 refine lc_list (K:=K) (xs:=xs) (fun i ys H'=>∃ vs,ys = vs.map V.ref/\Same H1 H'/\H' D = some (.lst ys)/\Paired (R' H') vs (bs.take i)) ⟨[],rfl,same_new hD _,upd_same,.nil⟩ (fun i ys H' ⟨_,_,h,_⟩=>h.seq ha) ?_ ?_
 ·rintro i x ys H' hlt hx ⟨vs,rfl,sH,hDy,fv⟩
  have hi:i < bs.length:=by omega
  have hb:bs[i]? = some bs[i]:=List.getElem?_eq_getElem hi
  have nl:(vs.map V.ref).length<=i:=by
   rw [List.length_map,fv.length,List.length_take]
   omega
  refine hs i x _ H' _ _ hx hb sH (fun v H2 s2 r2=>?_)
  have s3:Same H1 (upd H2 D (.lst (vs.map V.ref ++ [.ref v]))):=fun b o z=>by
   rw [upd_ne (ne_of_none z hD)]
   exact s2 _ _ (sH b o z)
  refine lcN.mk hlt (Nat.le_of_lt (small1000 (by omega))) (s2 _ _ hDy) nl ⟨vs ++ [v],by rw [List.map_append]; rfl,s3,upd_same,?_⟩
  rw [List.take_succ_eq_append_getElem hi]
  exact Paired.snoc (Paired.imp' (fun w r' z=>uR' (sR' z s2) (s2 _ _ hDy)) fv) (uR' r2 (s2 _ _ hDy))
 ·rintro ys H ⟨vs,rfl,sH,hDy,fv⟩
  rw [hl,List.take_length] at fv
  exact hd vs H sH hDy fv
section
variable {X:Cx}
end
end L2
namespace K52
open PySem L2 PyProof.Rows
def top (i:Nat):Stmt:=PySem.Challenge.pw_callbinds_k52_moves_done.main.body.getD i (.Pass ⟨0,0,0,0⟩)
abbrev sLaid:Stmt:=top 19
abbrev sShape:Stmt:=top 21
abbrev sCell:Stmt:=top 37
abbrev sIsInt:Stmt:=top 38
abbrev sMix:Stmt:=top 39
abbrev sPool:Stmt:=top 40
abbrev sThing:Stmt:=top 41
abbrev sItems:Stmt:=top 42
abbrev sAny:Stmt:=top 43
abbrev sThrough:Stmt:=top 44
abbrev sStep:Stmt:=top 45
abbrev sRun:Stmt:=top 46
abbrev sRDbl:Stmt:=top 22
abbrev sWInit:Stmt:=inClass (top 24) 0
abbrev sTake:Stmt:=top 25
abbrev sGather:Stmt:=top 26
abbrev sEnd:Stmt:=top 27
abbrev sDoor:Stmt:=top 28
abbrev sBar:Stmt:=top 29
abbrev sNames:Stmt:=top 30
abbrev sLead:Stmt:=top 31
abbrev sNeed:Stmt:=top 32
abbrev sDFree:Stmt:=top 33
abbrev sBound:Stmt:=top 35
abbrev sWords:Stmt:=top 47
abbrev sSaid:Stmt:=top 48
abbrev sMove:Stmt:=top 49
abbrev sPlain:Stmt:=top 50
abbrev sRight:Stmt:=top 51
abbrev sLaw:Stmt:=top 52
abbrev sXMis:Stmt:=inClass (top 11) 0
theorem same_new {H:Hp} {p:Addr} (h:H p = none) (o:HO):Same H (upd H p o):=fun b u q=>by rw [upd_ne (ne_of_none q h)]; exact q
theorem dT {A B:Prop} {c:Prop} [Decidable c] (h:c) (a:A):if decide c = true then A else B:=by rw [decide_eq_true h]; exact iteT a
theorem dF {A B:Prop} {c:Prop} [Decidable c] (h:¬ c) (b:B):if decide c = true then A else B:=by rw [decide_eq_false h]; exact iteF b
end K52
namespace L2
open PySem PySem.Spec PyProof.Rows
end L2
namespace K52
open PySem L2 PyProof.Rows
section
variable {c:C5} {CF f p:Addr} {H H':Hp} {rows:List Rw} {bars:List Str} {r:Rw} {ps:List Addr}
theorem paired_at {α β : Type} {R : α->β->Prop} {xs:List α} {ys:List β} (h:Paired R xs ys):∀ {i:Nat} {x : α},xs[i]? = some x->∃ y,ys[i]? = some y/\R x y:=by
 induction h with
 | nil=>intro i x e; simp at e
 | cons r t ih=>
  intro i x e
  cases i with
  | zero=>exact ⟨_,rfl,by simp at e; exact e ▸ r⟩
  | succ i=>simpa using ih (by simpa using e)
end
theorem refs_at {ps:List Addr} {i:Nat} {x:V} (h:(ps.map V.ref)[i]? = some x):∃ p,ps[i]? = some p/\x = .ref p:=by
 rw [List.getElem?_map] at h
 cases e:ps[i]? with
 | none=>rw [e] at h; cases h
 | some p=>rw [e] at h; exact ⟨p,rfl,(Option.some.inj h).symm⟩
theorem strs_at {zs:List Str} {i:Nat} {x:V} (h:(zs.map V.str)[i]? = some x):∃ z,zs[i]? = some z/\x = .str z:=by
 rw [List.getElem?_map] at h
 cases e:zs[i]? with
 | none=>rw [e] at h; cases h
 | some p=>rw [e] at h; exact ⟨p,rfl,(Option.some.inj h).symm⟩
end K52
namespace L2
open PySem PySem.Spec PyProof.Rows
end L2
namespace K52
open PySem L2 PyProof.Rows
theorem le1000 {n:Nat} (h:n<=1000):n<=sizeLine:=Nat.le_of_lt (small1000 h)
def SX (f:Addr) (H H':Hp):Prop:=∀ b u,H b = some u->b ≠ f->H' b = some u
theorem SX.same {f:Addr} {H H1 H2:Hp} (x:SX f H H1) (s:Same H1 H2):SX f H H2:=fun b u e n=>s b u (x b u e n)
inductive Item where
 | one (t:Int) | row (ts:List Int) | named (n:Str) (t:Int) | book (ps:List (Str × Int))
def pairD (p:Str × Int):Dt:=.tup [.str p.1,.int p.2]
def itemD:Item->Dt
 | .one t=>.tup [.str "one",.int t]
 | .row ts=>.tup [.str "row",.lst (ts.map .int)]
 | .named n t=>.tup [.str "named",.str n,.int t]
 | .book ps=>.tup [.str "book",.lst (ps.map pairD)]
def itT:Item->List Int
 | .one t=>[t]
 | .row ts=>ts
 | _=>[]
def itP:Item->List (Str × Int)
 | .named n t=>[(n,t)]
 | .book ps=>ps
 | _=>[]
def laidT (c:List Item):List Int:=(c.map itT).flatten
def laidP (c:List Item):List (Str × Int):=(c.map itP).flatten
abbrev T':Addr->Prop:=fun _=>True
def Two (K:PySem.W.Frag) (H H':Hp) (p:Addr) (ts:List Int) (ps:List (Str × Int)):Prop:=
 ∃ l1 l2 xs,H l1 = none/\H l2 = none/\l1 ≠ l2/\H p = none/\H' p = some (.tup [.ref l1,.ref l2])/\H' l1 = some (.lst (ts.map V.int))/\H' l2 = some (.lst xs)/\Paired (Says K T' H' 1) xs (ps.map pairD)
def spLaid (K:PySem.W.Frag):Sp:=fun vs H Q _=>∃ (a:Addr) (c:List Item) (xs:List V),vs = [.ref a]/\SqL K H a xs/\Paired (Says K T' H 3) xs (c.map itemD)/\(laidT c).length<=900/\(laidP c).length<=900/\
 ∀ (p:Addr) (H':Hp),Same H H'->Two K H H' p (laidT c) (laidP c)->Q (.ref p) H'
section
variable {P:Program} {w:World} {K:PySem.W.Frag} {mg:Str->Option Value} {base:Heap} {f:Addr} {fd:FuncData}
theorem cut_ints (ns:List Int) (lo hi:Option Int):∃ ms:List Int,cutV (ns.map V.int) lo hi = ms.map V.int/\ms.length<=ns.length/\∀ m ∈ ms,m ∈ ns:=by
 refine ⟨(ns.drop (HT.sIx ns.length 0 lo)).take (HT.sIx ns.length ns.length hi - HT.sIx ns.length 0 lo),?_,?_,fun m hm=>List.mem_of_mem_drop (List.mem_of_mem_take hm)⟩
 ·unfold cutV
  rw [List.length_map,List.map_take,List.map_drop]
 ·rw [List.length_take,List.length_drop]
  omega
end
section
variable {K:PySem.W.Frag} {ok:Addr->Prop} {H H':Hp} {n:Nat} {x:V}
theorem says_int {i:Int} (h:Says K ok H n x (.int i)):x = .int i:=by
 have fl:FlatD x (.int i)->x = .int i:=fun h=>by
  cases x <;> first | exact h.elim | (have e:=(show _ = _ from h); rw [e])
 cases n with
 | zero=>exact fl h
 | succ n=>
  rcases h with h | ⟨_,_,_,_,e,_⟩ | ⟨_,_,_,_,e,_⟩
  ·exact fl h
  ·cases e
  ·cases e
theorem says_str {z:Str} (h:Says K ok H n x (.str z)):x = .str z:=by
 have fl:FlatD x (.str z)->x = .str z:=fun h=>by
  cases x <;> first | exact h.elim | (have e:=(show _ = _ from h); rw [e])
 cases n with
 | zero=>exact fl h
 | succ n=>
  rcases h with h | ⟨_,_,_,_,e,_⟩ | ⟨_,_,_,_,e,_⟩
  ·exact fl h
  ·cases e
  ·cases e
theorem says_tup {ds:List Dt} (h:Says K ok H (n + 1) x (.tup ds)):∃ a xs,x = .ref a/\SqT K H a xs/\Paired (Says K ok H n) xs ds:=by
 rcases h with h | ⟨a,xs,ds',e1,e2,e3,r⟩ | ⟨_,_,_,_,e,_⟩
 ·cases x <;> exact h.elim
 ·cases e2; exact ⟨a,xs,e1,e3,r⟩
 ·cases e
theorem says_lst {ds:List Dt} (h:Says K ok H (n + 1) x (.lst ds)):∃ a xs,x = .ref a/\ok a/\H a = some (.lst xs)/\Paired (Says K ok H n) xs ds:=by
 rcases h with h | ⟨_,_,_,_,e,_⟩ | ⟨a,xs,ds',e1,e2,o,e3,r⟩
 ·cases x <;> exact h.elim
 ·cases e
 ·cases e2; exact ⟨a,xs,e1,o,e3,r⟩
theorem says_ints:∀ {ts:List Int} {xs:List V},Paired (Says K ok H n) xs (ts.map .int)->xs = ts.map V.int
 | [],_,r=>by cases r; rfl
 | t :: ts,_,r=>by
  cases r with
  | cons h r=>rw [says_int h,says_ints r]; rfl
theorem ints_says:∀ (ts:List Int),Paired (Says K ok H n) (ts.map V.int) (ts.map .int)
 | []=>.nil
 | t :: ts=>.cons .int (ints_says ts)
theorem paired_app {α β : Type} {F : α->β->Prop}:∀ {a c:List α} {b d:List β},Paired F a b->Paired F c d->Paired F (a ++ c) (b ++ d)
 | _,_,_,_,.nil,s=>s
 | _,_,_,_,.cons r t,s=>.cons r (paired_app t s)
theorem item_one {t:Int} (h:Says K ok H 3 x (itemD (.one t))):∃ a,x = .ref a/\SqT K H a [.str "one",.int t]:=by
 obtain ⟨a,xs,rfl,hS,r⟩:=says_tup h
 cases r with
 | cons h1 r=>cases r with
  | cons h2 r=>cases r; rw [says_str h1,says_int h2] at hS; exact ⟨a,rfl,hS⟩
theorem item_row {ts:List Int} (h:Says K ok H 3 x (itemD (.row ts))):∃ a b,x = .ref a/\SqT K H a [.str "row",.ref b]/\ok b/\H b = some (.lst (ts.map V.int)):=by
 obtain ⟨a,xs,rfl,hS,r⟩:=says_tup h
 cases r with
 | cons h1 r=>cases r with
  | cons h2 r=>
   cases r
   obtain ⟨b,ys,rfl,o,hb,q⟩:=says_lst h2
   rw [says_str h1] at hS
   rw [says_ints q] at hb
   exact ⟨a,b,rfl,hS,o,hb⟩
theorem item_named {z:Str} {t:Int} (h:Says K ok H 3 x (itemD (.named z t))):∃ a,x = .ref a/\SqT K H a [.str "named",.str z,.int t]:=by
 obtain ⟨a,xs,rfl,hS,r⟩:=says_tup h
 cases r with
 | cons h1 r=>cases r with
  | cons h2 r=>cases r with
   | cons h3 r=>cases r; rw [says_str h1,says_str h2,says_int h3] at hS; exact ⟨a,rfl,hS⟩
theorem item_book {ps:List (Str × Int)} (h:Says K ok H 3 x (itemD (.book ps))):∃ a b ys,x = .ref a/\SqT K H a [.str "book",.ref b]/\ok b/\H b = some (.lst ys)/\Paired (Says K ok H 1) ys (ps.map pairD):=by
 obtain ⟨a,xs,rfl,hS,r⟩:=says_tup h
 cases r with
 | cons h1 r=>cases r with
  | cons h2 r=>
   cases r
   obtain ⟨b,ys,rfl,o,hb,q⟩:=says_lst h2
   rw [says_str h1] at hS
   exact ⟨a,b,ys,rfl,hS,o,hb,q⟩
end
theorem laidT_snoc (c:List Item) (i:Nat) (it:Item) (h:c[i]? = some it):laidT (c.take (i + 1)) = laidT (c.take i) ++ itT it:=by
 unfold laidT
 rw [List.take_add_one,h,List.map_append,List.flatten_append]
 simp
theorem laidP_snoc (c:List Item) (i:Nat) (it:Item) (h:c[i]? = some it):laidP (c.take (i + 1)) = laidP (c.take i) ++ itP it:=by
 unfold laidP
 rw [List.take_add_one,h,List.map_append,List.flatten_append]
 simp
theorem laidT_le (c:List Item) (i:Nat):(laidT (c.take i)).length<=(laidT c).length:=by
 unfold laidT
 conv=>rhs; rw [<- List.take_append_drop i c]
 rw [List.map_append,List.flatten_append,List.length_append]
 omega
theorem laidP_le (c:List Item) (i:Nat):(laidP (c.take i)).length<=(laidP c).length:=by
 unfold laidP
 conv=>rhs; rw [<- List.take_append_drop i c]
 rw [List.map_append,List.flatten_append,List.length_append]
 omega
theorem ne1:¬ (V.str "row" = V.str "one"):=by decide +kernel
theorem ne2:¬ (V.str "named" = V.str "one"):=by decide +kernel
theorem ne3:¬ (V.str "book" = V.str "one"):=by decide +kernel
theorem ne4:¬ (V.str "named" = V.str "row"):=by decide +kernel
theorem ne5:¬ (V.str "book" = V.str "row"):=by decide +kernel
theorem ne6:¬ (V.str "book" = V.str "named"):=by decide +kernel
section
variable {P:Program} {w:World} {K:PySem.W.Frag} {mg:Str->Option Value} {base:Heap} {f:Addr} {fd:FuncData}
theorem scLaid:FnScope ["call","things","pairs","item","word"] ["call"] (defScope sLaid):=⟨rfl,rfl,rfl,by decide +kernel,rfl,by decide +kernel,by decide +kernel⟩
theorem same_upd {H H2:Hp} {l:Addr} (s:Same H H2) (h:H l = none) (o:HO):Same H (upd H2 l o):=fun b u q=>by rw [upd_ne (ne_of_none q h)]; exact s b u q
theorem ok_laid (F:Fun K "laid" "laid" sLaid f fd):FnOk P w K mg base CX0 1 f fd ["call"] (spLaid K):=by
 refine F.ok scLaid (fun vs H Q E h=>?_) (fun cdv A outer s H vs Q E hr h=>?_)
 ·obtain ⟨a,c,xs,rfl,_⟩:=h
  rfl
 obtain ⟨a,c,xs,rfl,hS,hc,hT,hP,q⟩:=h
 refine ⟨_,pss_cons (ps_set (i:=1) scLaid.nd rfl (Or.inl rfl) (pe_lst pa_nil)) (pss_cons (ps_set (i:=2) scLaid.nd rfl (Or.inl rfl) (pe_lst pa_nil))
  (pss_cons (ps_for PassesOwn.never rfl (pi_list (pv 0)) (pg_name (i:=3) scLaid.nd rfl (Or.inl rfl))
   (pss_cons (ps_set (i:=4) scLaid.nd rfl (Or.inl rfl) (pe_ix ix_tup (pv 3) pe_int (fun _ _=>rfl)))
   (pss_one (ps_if (pt_cmpR op_eq (pv 4) pe_str (nomark _)) (pss_one (ps_expr (pe_bm PySem.F.plainAttrs_list PySem.F.slot_list_append PySem.F.type_list_append mt_append (pv 1) (ac (pe_ix ix_tup (pv 3) pe_int (fun _ _=>rfl)) pa_nil))))
    (pss_one (ps_if (pt_cmpR op_eq (pv 4) pe_str (nomark _)) (pss_one (ps_expr (pe_bm PySem.F.plainAttrs_list PySem.F.slot_list_extend PySem.F.type_list_extend mt_extend (pv 1) (ac (pe_ix ix_tup (pv 3) pe_int (fun _ _=>rfl)) pa_nil))))
     (pss_one (ps_if (pt_cmpR op_eq (pv 4) pe_str (nomark _)) (pss_one (ps_expr (pe_bm PySem.F.plainAttrs_list PySem.F.slot_list_append PySem.F.type_list_append mt_append (pv 2) (ac (pe_tup (ac (pe_ix ix_tup (pv 3) pe_int (fun _ _=>rfl)) (ac (pe_ix ix_tup (pv 3) pe_int (fun _ _=>rfl)) pa_nil))) pa_nil))))
      (pss_one (ps_expr (pe_bm PySem.F.plainAttrs_list PySem.F.slot_list_extend PySem.F.type_list_extend mt_extend (pv 2) (ac (pe_ix ix_tup (pv 3) pe_int (fun _ _=>rfl)) pa_nil))))))))))))
  (pss_one (ps_ret (pe_tup (ac (pv 1) (ac (pv 2) pa_nil))))))),?_⟩
 refine ⟨(by show 0<=sizeLine; decide),fun l1 h1=>?_⟩
 refine ⟨(by show 0<=sizeLine; decide),fun l2 h2=>?_⟩
 have n12:l1 ≠ l2:=ne_of_none upd_same h2
 have f2:H l2 = none:=(same_new h1 _).free h2
 have s0:Same H (upd (upd H l1 (.lst [])) l2 (.lst [])):=(same_new h1 _).trans (same_new h2 _)
 refine ⟨_,rfl,a,rfl,⟨_,s0.seq hS⟩,for_list (K:=K) (a:=a) (xs:=xs) (fun i σ H2=>∃ v3 v4 ys,σ = [some (.ref a),some (.ref l1),some (.ref l2),v3,v4]/\Same H H2/\H2 l1 = some (.lst ((laidT (c.take i)).map V.int))/\H2 l2 = some (.lst ys)/\Paired (Says K T' H2 1) ys ((laidP (c.take i)).map pairD))
  ⟨_,_,[],rfl,s0,by rw [upd_ne n12,upd_same]; rfl,upd_same,.nil⟩ (fun i σ H2 _ ⟨_,_,_,_,s2,_⟩=>s2.seq hS) ?_ ?_⟩
 ·rintro i y σ H2 hi ⟨v3,v4,ys,rfl,s2,g1,g2,gp⟩
  obtain ⟨d,hd,hy⟩:=Paired.get hc hi
  obtain ⟨it,hit,rfl⟩:∃ it,c[i]? = some it/\itemD it = d:=by
   rw [List.getElem?_map] at hd
   cases e:c[i]? with
   | none=>rw [e] at hd; cases hd
   | some it=>rw [e] at hd; exact ⟨it,rfl,Option.some.inj hd⟩
  have hy2:=hy.same s2
  have eT:=laidT_snoc c i it hit
  have eP:=laidP_snoc c i it hit
  have lT:=laidT_le c i
  have lP:=laidP_le c i
  have lT1:=laidT_le c (i + 1)
  have lP1:=laidP_le c (i + 1)
  have lys:ys.length = (laidP (c.take i)).length:=by rw [gp.length,List.length_map]
  have sT:∀ {H3:Hp} {o:HO} {l:Addr},H3 l = none\/(∃ zs,H3 l = some (.lst zs))->∀ {b zs},SqT K H3 b zs->SqT K (upd H3 l o) b zs:=fun {H3 o l} hl {b zs} hz=>by
   rcases hz with (z | ⟨u,z⟩) | z
   ·refine .inl (.inl ?_)
    have:b ≠ l:=fun e=>by
     subst e
     rcases hl with e | ⟨_,e⟩
     ·rw [e] at z; cases z
     ·rw [e] at z; cases z
    rw [upd_ne this]; exact z
   ·refine .inl (.inr ⟨u,?_⟩)
    have:b ≠ l:=fun e=>by
     subst e
     rcases hl with e | ⟨_,e⟩
     ·rw [e] at z; cases z
     ·rw [e] at z; cases z
    rw [upd_ne this]; exact z
   ·exact .inr z
  have keepP:∀ {H3:Hp} {o:HO} {l:Addr} {zs:List V} {ps:List (Str × Int)},H3 l = none\/(∃ zs,H3 l = some (.lst zs))->Paired (Says K T' H3 1) zs (ps.map pairD)->Paired (Says K T' (upd H3 l o) 1) zs (ps.map pairD):=by
   intro H3 o l zs ps hl r
   induction ps generalizing zs with
   | nil=>cases r; exact .nil
   | cons p ps ih=>
    cases r with
    | cons h r=>
     refine .cons ?_ (ih r)
     obtain ⟨b,ws,rfl,hS',r'⟩:=says_tup h
     exact .tup (sT hl hS') (Paired.imp' (fun _ _ z=>z) r')
  cases it with
  | one t=>
   obtain ⟨b,rfl,hb⟩:=item_one hy2
   refine ⟨_,rfl,b,_,_,.str "one",rfl,rfl,hb,rfl,?_⟩
   refine ⟨_,rfl,rfl,_,rfl,?_⟩
   refine dT rfl ?_
   refine ⟨_,rfl,.inl ⟨rfl,_,SqL.of g1⟩,_,rfl,b,_,_,.int t,rfl,rfl,hb,rfl,l1,_,_,rfl,rfl,g1,?_,?_⟩
   ·rw [List.length_map]; exact small1000 (by omega)
   ·refine ⟨_,_,ys,rfl,same_upd s2 h1 _,?_,?_,?_⟩
    ·rw [upd_same,eT,List.map_append]; rfl
    ·rw [upd_ne n12.symm]; exact g2
    ·rw [eP]; show Paired _ _ ((laidP (c.take i) ++ []).map pairD); rw [List.append_nil]; exact keepP (.inr ⟨_,g1⟩) gp
  | row ts=>
   obtain ⟨b,bl,rfl,hb,_,hbl⟩:=item_row hy2
   refine ⟨_,rfl,b,_,_,.str "row",rfl,rfl,hb,rfl,?_⟩
   refine ⟨_,rfl,rfl,_,rfl,?_⟩
   refine dF ne1 ?_
   refine ⟨_,rfl,rfl,_,rfl,?_⟩
   refine dT rfl ?_
   refine ⟨_,rfl,.inl ⟨rfl,_,SqL.of g1⟩,_,rfl,b,_,_,.ref bl,rfl,rfl,hb,rfl,l1,bl,_,_,rfl,rfl,g1,hbl,?_,?_⟩
   ·have e1:(laidT (c.take (i + 1))).length = (laidT (c.take i)).length + ts.length:=by rw [eT,List.length_append]; rfl
    rw [List.length_map,List.length_map]; exact le1000 (by omega)
   ·refine ⟨_,_,ys,rfl,same_upd s2 h1 _,?_,?_,?_⟩
    ·rw [upd_same,eT,List.map_append]; rfl
    ·rw [upd_ne n12.symm]; exact g2
    ·rw [eP]; show Paired _ _ ((laidP (c.take i) ++ []).map pairD); rw [List.append_nil]; exact keepP (.inr ⟨_,g1⟩) gp
  | named z t=>
   obtain ⟨b,rfl,hb⟩:=item_named hy2
   refine ⟨_,rfl,b,_,_,.str "named",rfl,rfl,hb,rfl,?_⟩
   refine ⟨_,rfl,rfl,_,rfl,?_⟩
   refine dF ne2 ?_
   refine ⟨_,rfl,rfl,_,rfl,?_⟩
   refine dF ne4 ?_
   refine ⟨_,rfl,rfl,_,rfl,?_⟩
   refine dT rfl ?_
   refine ⟨_,rfl,.inl ⟨rfl,_,SqL.of g2⟩,_,rfl,b,_,_,.str z,rfl,rfl,hb,rfl,_,rfl,b,_,_,.int t,rfl,rfl,hb,rfl,(by show 2<=sizeLine; decide),fun p hp=>?_⟩
   have np2:l2 ≠ p:=ne_of_none g2 hp
   have np1:l1 ≠ p:=ne_of_none g1 hp
   have fp:H p = none:=s2.free hp
   refine ⟨l2,_,_,rfl,rfl,(by rw [upd_ne np2]; exact g2),?_,?_⟩
   ·rw [lys]; exact small1000 (by omega)
   ·refine ⟨_,_,ys ++ [.ref p],rfl,same_upd (same_upd s2 fp _) f2 _,?_,upd_same,?_⟩
    ·rw [upd_ne n12,upd_ne np1,g1,eT]; show _ = some (HO.lst ((laidT (c.take i) ++ []).map V.int)); rw [List.append_nil]
    ·rw [eP,List.map_append]
     refine paired_app (keepP (.inr ⟨_,by rw [upd_ne np2]; exact g2⟩) (keepP (.inl hp) gp)) (.cons (.tup (xs:=[.str z,.int t]) (SqT.of ?_) (.cons .str (.cons .int .nil))) .nil)
     rw [upd_ne np2.symm,upd_same]
  | book ps=>
   obtain ⟨b,bl,zs,rfl,hb,_,hbl,hz⟩:=item_book hy2
   refine ⟨_,rfl,b,_,_,.str "book",rfl,rfl,hb,rfl,?_⟩
   refine ⟨_,rfl,rfl,_,rfl,?_⟩
   refine dF ne3 ?_
   refine ⟨_,rfl,rfl,_,rfl,?_⟩
   refine dF ne5 ?_
   refine ⟨_,rfl,rfl,_,rfl,?_⟩
   refine dF ne6 ?_
   have lz:zs.length = ps.length:=by rw [hz.length,List.length_map]
   refine ⟨_,rfl,.inl ⟨rfl,_,SqL.of g2⟩,_,rfl,b,_,_,.ref bl,rfl,rfl,hb,rfl,l2,bl,_,_,rfl,rfl,g2,hbl,?_,?_⟩
   ·have e1:(laidP (c.take (i + 1))).length = (laidP (c.take i)).length + ps.length:=by rw [eP,List.length_append]; rfl
    rw [lys,lz]; exact le1000 (by omega)
   ·refine ⟨_,_,ys ++ zs,rfl,same_upd s2 f2 _,?_,upd_same,?_⟩
    ·rw [upd_ne n12,g1,eT]; show _ = some (HO.lst ((laidT (c.take i) ++ []).map V.int)); rw [List.append_nil]
    ·rw [eP,List.map_append]
     exact paired_app (keepP (.inr ⟨_,g2⟩) gp) (keepP (.inr ⟨_,g2⟩) hz)
 ·rintro σ H2 ⟨v3,v4,ys,rfl,s2,g1,g2,gp⟩
  refine ⟨_,rfl,_,rfl,(by show 2<=sizeLine; decide),fun p hp=>?_⟩
  have hl:xs.length = c.length:=by rw [hc.length,List.length_map]
  rw [hl,List.take_length] at g1 gp
  refine q p _ (s2.trans (same_new hp _)) ⟨l1,l2,ys,h1,f2,n12,s2.free hp,upd_same,?_,?_,Paired.imp' (fun _ _ z=>z.same (same_new hp _)) gp⟩
  ·rw [upd_ne (ne_of_none g1 hp)]; exact g1
  ·rw [upd_ne (ne_of_none g2 hp)]; exact g2
end
theorem pairs_same {K:PySem.W.Frag} {ok:Addr->Prop} {H H':Hp} {zs:List V} {ps:List (Str × Int)} (s:Same H H') (r:Paired (Says K ok H 1) zs (ps.map pairD)):Paired (Says K ok H' 1) zs (ps.map pairD):=Paired.imp' (fun _ _ z=>z.same s) r
theorem pair_get {ps:List (Str × Int)} {i:Nat} {d:Dt} (h:(ps.map pairD)[i]? = some d):∃ p,ps[i]? = some p/\pairD p = d:=by
 rw [List.getElem?_map] at h
 cases e:ps[i]? with
 | none=>rw [e] at h; cases h
 | some it=>rw [e] at h; exact ⟨it,rfl,Option.some.inj h⟩
theorem pair_says {K:PySem.W.Frag} {ok:Addr->Prop} {H:Hp} {n:Nat} {x:V} {p:Str × Int} (h:Says K ok H (n + 1) x (pairD p)):∃ b,x = .ref b/\SqT K H b [.str p.1,.int p.2]:=by
 obtain ⟨a,xs,rfl,hS,r⟩:=says_tup h
 cases r with
 | cons h1 r=>cases r with
  | cons h2 r=>cases r; rw [says_str h1,says_int h2] at hS; exact ⟨a,rfl,hS⟩
theorem items_same {K:PySem.W.Frag} {ok:Addr->Prop} {n:Nat} {H H':Hp} {zs:List V} {c:List Item} (s:Same H H') (r:Paired (Says K ok H n) zs (c.map itemD)):Paired (Says K ok H' n) zs (c.map itemD):=Paired.imp' (fun _ _ z=>z.same s) r
theorem laidT_app (c:List Item) (it:Item):laidT (c ++ [it]) = laidT c ++ itT it:=by unfold laidT; simp
theorem laidP_app (c:List Item) (it:Item):laidP (c ++ [it]) = laidP c ++ itP it:=by unfold laidP; simp
theorem says_ok {K:PySem.W.Frag} {ok ok':Addr->Prop} {H:Hp} (hk:∀ b,ok b->H b ≠ none->ok' b) {n:Nat} {x:V} {d:Dt} (h:Says K ok H n x d):Says K ok' H n x d:=
 h.frame (fun a xs z=>z) fun a xs oa z=>⟨hk a oa (by rw [z]; intro q; cases q),z⟩
theorem iteB {A B:Prop} {b:Bool} (h:b = true) (a:A):if b = true then A else B:=by rw [h]; exact iteT a
theorem iteC {A B:Prop} {b:Bool} (h:b = false) (a:B):if b = true then A else B:=by rw [h]; exact iteF a
section
variable {P:Program} {w:World} {K:PySem.W.Frag} {mg:Str->Option Value} {base:Heap} {f:Addr} {fd:FuncData}
section
variable {H H':Hp} {p l1 l2 l:Addr} {ys:List V} {ts:List Int} {ps:List (Str × Int)} {o:HO}
end
end
def namesOf (c:List Item):List Str:=(laidP c).map (·.1)
def spShape (K:PySem.W.Frag):Sp:=fun vs H Q _=>∃ (a:Addr) (c:List Item) (xs:List V),vs = [.ref a]/\SqL K H a xs/\Paired (Says K T' H 3) xs (c.map itemD)/\(laidT c).length<=900/\(laidP c).length<=900/\
 ∀ (p l:Addr) (H':Hp),Same H H'->H l = none->H' p = some (.tup [.int ((laidT c).length:Nat),.ref l])->H' l = some (.lst ((namesOf c).map V.str))->Q (.ref p) H'
section
variable {P:Program} {w:World} {K:PySem.W.Frag} {mg:Str->Option Value} {base:Heap} {f CF:Addr} {fd:FuncData} {c:C5} {m:MA}
theorem ndNT:([Str.ofString "name",Str.ofString "thing"]:List Str).Nodup:=by decide +kernel
theorem scShape:FnScope ["call","things","pairs"] ["call"] (defScope sShape):=⟨rfl,rfl,rfl,by decide +kernel,rfl,by decide +kernel,by decide +kernel⟩
theorem ok_shape {g:Addr} {gd:FuncData} (F:Fun K "shape" "shape" sShape f fd) (hlen:mg "len" = none) (cL:Callee P w K mg base 1 "laid" g gd ["call"] (spLaid K)):FnOk P w K mg base CX0 2 f fd ["call"] (spShape K):=by
 refine F.ok scShape (fun vs H Q E h=>?_) (fun cdv A outer s H vs Q E hr h=>?_)
 ·obtain ⟨a,c,xs,rfl,_⟩:=h
  rfl
 obtain ⟨a,c,xs,rfl,hS,hc,lT,lP,q⟩:=h
 refine ⟨_,pss_cons (ps_asg (cF cL hr (ac (pv 0) pa_nil)) (pg_tup rfl (pgs_cons (pg_name (i:=1) scShape.nd rfl (Or.inl rfl)) (pgs_cons (pg_name (i:=2) scShape.nd rfl (Or.inl rfl)) pgs_nil))))
  (pss_one (ps_ret (pe_tup (ac (cB call_len_seq hlen PySem.boot_len (ac (pv 1) pa_nil)) (ac (pe_lc [] ["name","thing"] [none,none] rfl ⟨rfl,rfl,rfl,rfl⟩ (pi_list (pv 2)) (gown_tup2 (K:=K) (n:=2) 0 1) rfl rfl rfl
   (fun pins fp s H C=>⟨pg_tup rfl (pgs_cons (pg_name (i:=0) ndNT rfl (Or.inl rfl) (.inr rfl)) (pgs_cons (pg_name (i:=1) ndNT rfl (Or.inl rfl) (.inr rfl)) pgs_nil)),pif_nil,pv 0⟩)) pa_nil))))),?_⟩
 refine ⟨_,rfl,a,c,xs,rfl,hS,hc,lT,lP,fun p H1 s1 two=>?_⟩
 obtain ⟨l1,l2,ys,n1,n2,n12,np,ep,e1,e2,gp⟩:=two
 refine ⟨p,_,rfl,SqT.of ep,rfl,_,_,rfl,_,_,rfl,rfl,?_⟩
 refine ⟨_,rfl,l1,_,rfl,.inl (SqL.of e1),_,rfl,l2,rfl,⟨_,SqL.of e2⟩,fun D hD=>?_⟩
 have lys:ys.length = (laidP c).length:=by rw [gp.length,List.length_map]
 refine lc_list (K:=K) (xs:=ys) (fun i zs H'=>Same H1 H'/\H' D = some (.lst zs)/\zs = ((namesOf c).take i).map V.str) ⟨same_new hD _,upd_same,rfl⟩ (fun i zs H' h=>SqL.of (h.1 _ _ e2)) ?_ ?_
 ·rintro i x zs H' hlt hx ⟨sH,hDy,ez⟩
  obtain ⟨d,hd,hy⟩:=Paired.get gp hx
  obtain ⟨pr',hpr,rfl⟩:=pair_get hd
  obtain ⟨b,rfl,hb⟩:=pair_says (hy.same sH)
  refine ⟨b,_,rfl,hb,rfl,_,_,rfl,_,_,rfl,rfl,fun _=>⟨_,rfl,?_⟩,fun e=>Bool.noConfusion e⟩
  have hi:i < (namesOf c).length:=by unfold namesOf; rw [List.length_map]; omega
  have en:(namesOf c)[i] = pr'.1:=by
   have:(namesOf c)[i]? = some pr'.1:=by unfold namesOf; rw [List.getElem?_map,hpr]; rfl
   rw [List.getElem?_eq_getElem hi] at this
   exact Option.some.inj this
  refine lcN.mk hlt (le1000 (by omega)) hDy (by rw [ez,List.length_map,List.length_take]; omega) ⟨fun b' u e=>?_,upd_same,?_⟩
  ·rw [upd_ne (ne_of_none e hD)]
   exact sH b' u e
  ·rw [ez,List.take_succ_eq_append_getElem hi,en,List.map_append]
   rfl
 rintro zs H2 ⟨s2,hDy,ez⟩
 have hz:zs = (namesOf c).map V.str:=by
  rw [ez,List.take_of_length_le (by unfold namesOf; rw [List.length_map]; omega)]
 subst hz
 refine ⟨(by show 2<=sizeLine; decide),fun t ht=>?_⟩
 have s3:=same_new ht (.tup [.int ((laidT c).map V.int).length,.ref D])
 refine q t D _ (s1.trans (s2.trans s3)) (s1.free hD) (by rw [upd_same,List.length_map]) (s3 _ _ hDy)
end
def spCell (K:PySem.W.Frag):Sp:=fun vs H Q _=>∃ (a:Addr) (ns:List Int) (k:Nat),vs = [.ref a,.int k]/\SqL K H a (ns.map V.int)/\ns.length<=63/\∀ (n:Int) (H':Hp),Same H H'->(n ∈ ns\/n = 0)->Q (.int n) H'
def mixF (c k:Int):Int:=(c % 2147483647 * 48271 + k * 104729 + 5) % 2147483629 * ((c % 2147483647 * 48271 + k * 104729 + 5) % 2147483629) % 2147483587
def spMix:Sp:=fun vs H Q _=>∃ c k:Int,vs = [.int c,.int k]/\Q (.int (mixF c k)) H
def thingF (c k:Int):Int:=if mixF c k % 2 = 0 then mixF c k / 2 % 13 - 6 else (c * 982451653 ^ (5:Int).toNat + k) % (2 * 10 ^ (60:Int).toNat - 1) - 10 ^ (60:Int).toNat + 1
def spThing:Sp:=fun vs H Q _=>∃ c k:Int,vs = [.int c,.int k]/\Builtin.Int.intBits c<=1048600/\Q (.int (thingF c k)) H
def poolN (c:Int) (k:Nat):Str:=Txt.slice "zyxwvut" none (some ((c / 26 + (k:Int)) % 8)) ++ (⟨#[97 + ((c + 3 * (k:Int)) % 26).toNat]⟩:Str)
def spPool (K:PySem.W.Frag):Sp:=fun vs H Q _=>∃ c:Int,vs = [.int c]/\∀ (r:Addr) (H':Hp),Same H H'->H r = none->H' r = some (.lst (((List.range 26).map (poolN c)).map V.str))->Q (.ref r) H'
theorem abc_at:∀ m,m < 26->(Str.ofString "abcdefghijklmnopqrstuvwxyz").cps.toList[m]? = some (97 + m):=by decide +kernel
theorem mulOk_thing {c:Int} (h:Builtin.Int.intBits c<=1048600):IntMulOk c ((982451653:Int) ^ (5:Int).toNat):=by
 have hb:Builtin.Int.intBits ((982451653:Int) ^ (5:Int).toNat)<=200:=by decide +kernel
 have h2:Builtin.Int.intTooBig (Builtin.Int.intBits c + Builtin.Int.intBits ((982451653:Int) ^ (5:Int).toNat)) = false:=by
  unfold Builtin.Int.intTooBig bitsLine
  exact decide_eq_false (by omega)
 unfold IntMulOk
 rw [h2]
 simp
structure Txt2 (K:PySem.W.Frag) (mg:Str->Option Value):Prop where
 isi:mg "isinstance" = none
 str:mg "str" = none
 bool:mg "bool" = none
 int:mg "int" = none
 tuple:mg "tuple" = none
 list:mg "list" = none
 len:mg "len" = none
 range:mg "range" = none
 enumerate:mg "enumerate" = none
section
variable {P:Program} {w:World} {K:PySem.W.Frag} {mg:Str->Option Value} {base:Heap} {f:Addr} {fd:FuncData}
theorem scCell:FnScope ["_law_script","_law_at"] ["_law_script","_law_at"] (defScope sCell):=⟨rfl,rfl,rfl,by decide +kernel,rfl,by decide +kernel,by decide +kernel⟩
theorem ok_cell (F:Fun K "_law_cell" "_law_cell" sCell f fd):FnOk P w K mg base CX0 1 f fd ["_law_script","_law_at"] (spCell K):=by
 refine F.ok scCell (fun vs H Q E h=>?_) (fun cdv A outer s H vs Q E hr h=>?_)
 ·obtain ⟨a,ns,k,rfl,_⟩:=h
  rfl
 obtain ⟨a,ns,k,rfl,hS,h63,q⟩:=h
 refine ⟨_,pss_one (ps_ret (pe_ix ix_list (pe_op op_cat (pe_slice sl_list (pv 0) (po_some (pv 1)) (po_some (pe_op op_add (pv 1) pe_int))) (pe_lst (ac pe_int pa_nil))) pe_int (fun _ _=>rfl))),?_⟩
 obtain ⟨ms,e1,e2,e3⟩:=cut_ints ns (some (k:Int)) (some ((k:Int) + 1))
 refine ⟨_,rfl,_,rfl,_,rfl,_,rfl,_,_,rfl,rfl,_,rfl,a,_,rfl,hS,fun p hp=>?_⟩
 rw [e1]
 refine ⟨(by show 1<=sizeLine; decide),fun l hl=>?_⟩
 have npl:p ≠ l:=ne_of_none upd_same hl
 refine ⟨p,l,_,_,rfl,rfl,(by rw [upd_ne npl,upd_same]),upd_same,?_,fun c hc=>?_⟩
 ·rw [List.length_map]
  show ms.length + 1<=sizeLine
  exact le1000 (by omega)
 have s3:=(same_new hp (.lst (ms.map V.int))).trans ((same_new hl (.lst [.int 0])).trans (same_new hc (.lst (ms.map V.int ++ [.int 0]))))
 cases ms with
 | nil=>exact ⟨c,_,0,.int 0,rfl,rfl,SqL.of upd_same,rfl,q 0 _ s3 (.inr rfl)⟩
 | cons m r=>exact ⟨c,_,0,.int m,rfl,rfl,SqL.of upd_same,atI_nat (j:=0) rfl,q m _ s3 (.inl (e3 m (by simp)))⟩
theorem scMix:FnScope ["_law_cell_here","_law_k","_law_number"] ["_law_cell_here","_law_k"] (defScope sMix):=⟨rfl,rfl,rfl,by decide +kernel,rfl,by decide +kernel,by decide +kernel⟩
theorem ok_mix (F:Fun K "_law_mix" "_law_mix" sMix f fd):FnOk P w K mg base CX0 1 f fd ["_law_cell_here","_law_k"] spMix:=by
 refine F.ok scMix (fun vs H Q E h=>?_) (fun cdv A outer s H vs Q E hr h=>?_)
 ·obtain ⟨c,k,rfl,_⟩:=h
  rfl
 obtain ⟨c,k,rfl,q⟩:=h
 refine ⟨_,pss_cons (ps_set (i:=2) scMix.nd rfl (Or.inl rfl) (pe_op op_mod (pe_op op_add (pe_op op_add (pe_op op_mul (pe_op op_mod (pv 0) pe_int) pe_int) (pe_op op_mul (pv 1) pe_int)) pe_int) pe_int))
  (pss_one (ps_ret (pe_op op_mod (pe_op op_mul (pv 2) (pv 2)) pe_int))),?_⟩
 refine ⟨_,rfl,_,_,rfl,rfl,(by show (0:Int) < 2147483647; decide),_,_,rfl,rfl,.inr ⟨by decide,by decide⟩,_,rfl,_,_,rfl,rfl,.inr ⟨by decide,by decide⟩,_,_,rfl,rfl,_,_,rfl,rfl,_,_,rfl,rfl,(by show (0:Int) < 2147483629; decide),?_⟩
 have h1 : 0<=(c % 2147483647 * 48271 + k * 104729 + 5) % 2147483629:=Int.emod_nonneg _ (by decide)
 have h2:(c % 2147483647 * 48271 + k * 104729 + 5) % 2147483629 < 2147483629:=Int.emod_lt_of_pos _ (by decide)
 exact ⟨_,rfl,_,rfl,_,_,rfl,rfl,.inl ⟨by omega,by omega⟩,_,_,rfl,rfl,(by show (0:Int) < 2147483587; decide),q⟩
theorem scThing:FnScope ["_law_cell_here","_law_k","_law_number"] ["_law_cell_here","_law_k"] (defScope sThing):=⟨rfl,rfl,rfl,by decide +kernel,rfl,by decide +kernel,by decide +kernel⟩
theorem ok_thing {g:Addr} {gd:FuncData} (F:Fun K "_law_thing" "_law_thing" sThing f fd) (cM:Callee P w K mg base 1 "_law_mix" g gd ["_law_cell_here","_law_k"] spMix):FnOk P w K mg base CX0 2 f fd ["_law_cell_here","_law_k"] spThing:=by
 refine F.ok scThing (fun vs H Q E h=>?_) (fun cdv A outer s H vs Q E hr h=>?_)
 ·obtain ⟨c,k,rfl,_⟩:=h
  rfl
 obtain ⟨c,k,rfl,hb,q⟩:=h
 refine ⟨_,pss_cons (ps_set (i:=2) scThing.nd rfl (Or.inl rfl) (cF cM hr (ac (pv 0) (ac (pv 1) pa_nil))))
  (pss_cons (ps_if (pt_cmpR op_eq (pe_op op_mod (pv 2) pe_int) pe_int (nomark _)) (pss_one (ps_ret (pe_op op_sub (pe_op op_mod (pe_op op_fdiv (pv 2) pe_int) pe_int) pe_int))) pss_nil)
  (pss_one (ps_ret (pe_op op_add (pe_op op_sub (pe_op op_mod (pe_op op_add (pe_op op_mulB (pv 0) (pe_op op_pow pe_int pe_int)) (pv 1)) (pe_op op_sub (pe_op op_mul pe_int (pe_op op_pow pe_int pe_int)) pe_int)) (pe_op op_pow pe_int pe_int)) pe_int)))),?_⟩
 refine ⟨_,rfl,_,rfl,c,k,rfl,?_⟩
 refine ⟨_,rfl,_,_,rfl,rfl,(by show (0:Int) < 2; decide),rfl,_,rfl,?_⟩
 by_cases hm2:mixF c k % 2 = 0
 ·refine dT (congrArg V.int hm2) ?_
  unfold thingF at q
  rw [if_pos hm2] at q
  exact ⟨_,rfl,_,_,rfl,rfl,⟨by decide,by decide⟩,_,_,rfl,rfl,(by show (0:Int) < 13; decide),_,_,rfl,rfl,q⟩
 ·refine dF (fun e=>hm2 (V.int.inj e)) ?_
  unfold thingF at q
  rw [if_neg hm2] at q
  have hm:IntMulOk c ((982451653:Int) ^ (5:Int).toNat):=mulOk_thing hb
  exact ⟨_,rfl,_,_,rfl,rfl,⟨by decide,by decide,by decide⟩,_,_,rfl,rfl,hm,_,rfl,_,_,rfl,rfl,_,_,rfl,rfl,⟨by decide,by decide,by decide⟩,_,_,rfl,rfl,.inl ⟨by decide,by decide⟩,_,_,rfl,rfl,_,_,rfl,rfl,(by show (0:Int) < 2 * 10 ^ Int.toNat 60 - 1; decide +kernel),_,_,rfl,rfl,⟨by decide,by decide,by decide⟩,_,_,rfl,rfl,_,_,rfl,rfl,q⟩
theorem scPool:FnScope ["_law_cell_here","_law_names","_law_k","_law_stem"] ["_law_cell_here"] (defScope sPool):=⟨rfl,rfl,rfl,by decide +kernel,rfl,by decide +kernel,by decide +kernel⟩
theorem ok_pool (F:Fun K "_law_pool" "_law_pool" sPool f fd) (T:Txt2 K mg):FnOk P w K mg base CX0 1 f fd ["_law_cell_here"] (spPool K):=by
 refine F.ok scPool (fun vs H Q E h=>?_) (fun cdv A outer s H vs Q E hr h=>?_)
 ·obtain ⟨c,rfl,_⟩:=h
  rfl
 obtain ⟨c,rfl,q⟩:=h
 refine ⟨_,pss_cons (ps_set (i:=1) scPool.nd rfl (Or.inl rfl) (pe_lst pa_nil))
  (pss_cons (ps_for PassesOwn.never rfl (pi_range1 rfl T.range (ac pe_int pa_nil)) (pg_name (i:=2) scPool.nd rfl (Or.inl rfl))
   (pss_cons (ps_set (i:=3) scPool.nd rfl (Or.inl rfl) (pe_slice sl_str pe_str po_none (po_some (pe_op op_mod (pe_op op_add (pe_op op_fdiv (pv 0) pe_int) (pv 2)) pe_int))))
   (pss_one (ps_expr (pe_bm PySem.F.plainAttrs_list PySem.F.slot_list_append PySem.F.type_list_append mt_append (pv 1) (ac (pe_op op_add_str (pv 3) (pe_ix ix_str pe_str (pe_op op_mod (pe_op op_add (pv 0) (pe_op op_mul pe_int (pv 2))) pe_int) (fun _ _=>rfl))) pa_nil))))))
  (pss_one (ps_ret (pv 1)))),?_⟩
 refine ⟨(by show 0<=sizeLine; decide),fun r hr0=>?_⟩
 refine ⟨26,rfl,by decide,by decide,for_range (n:=26) (fun i σ H2=>∃ v2 v3,σ = [some (.int c),some (.ref r),v2,v3]/\H2 r = some (.lst (((List.range i).map (poolN c)).map V.str))/\Same H H2)
  ⟨_,_,rfl,upd_same,same_new hr0 _⟩ ?_ ?_⟩
 ·rintro i σ H2 hi ⟨v2,v3,rfl,g,sH⟩
  refine ⟨_,rfl,_,_,rfl,rfl,⟨by decide,by decide⟩,_,rfl,_,_,rfl,rfl,_,_,rfl,rfl,(by show (0:Int) < 8; decide),_,rfl,_,rfl,(by decide +kernel),?_⟩
  have h0 : 0<=(c + 3 * ((0:Int) + (i:Int))) % 26:=Int.emod_nonneg _ (by decide)
  have h1:(c + 3 * ((0:Int) + (i:Int))) % 26 < 26:=Int.emod_lt_of_pos _ (by decide)
  have hch:atI (Str.ofString "abcdefghijklmnopqrstuvwxyz").cps.toList ((c + 3 * ((0:Int) + (i:Int))) % 26) = some (97 + ((c + 3 * ((0:Int) + (i:Int))) % 26).toNat):=by
   obtain ⟨m,hm⟩:=Int.eq_ofNat_of_zero_le h0
   rw [hm]
   have hm2:m < 26:=by omega
   exact atI_nat (abc_at m hm2)
  refine ⟨_,rfl,.inl ⟨rfl,_,SqL.of g⟩,_,rfl,_,rfl,_,rfl,_,_,rfl,rfl,.inl ⟨by decide,by decide⟩,_,_,rfl,rfl,_,_,rfl,rfl,(by show (0:Int) < 26; decide),_,_,_,rfl,rfl,(by decide +kernel),hch,?_⟩
  have hsl:=Txt.slice_le (Str.ofString "zyxwvut") none (some ((c / 26 + (0 + (i:Int))) % 8))
  have hs7:(Str.ofString "zyxwvut").length = 7:=by decide +kernel
  refine ⟨_,_,rfl,rfl,le1000 (by rw [hs7] at hsl; show _ + 1<=1000; omega),r,_,_,rfl,rfl,g,(by rw [List.length_map,List.length_map,List.length_range]; exact small1000 (by omega)),?_⟩
  refine ⟨_,_,rfl,?_,same_upd sH hr0 _⟩
  rw [upd_same,List.range_succ,List.map_append,List.map_append]
  show _ = some (HO.lst (_ ++ [V.str (poolN c i)]))
  unfold poolN
  rw [Int.zero_add]
 ·rintro σ H2 ⟨v2,v3,rfl,g,sH⟩
  exact ⟨_,rfl,q r H2 sH hr0 g⟩
end
structure TxtL (mg:Str->Option Value):Prop where
 len:mg "len" = none
 range:mg "range" = none
 min:mg "min" = none
 max:mg "max" = none
 en:mg "enumerate" = none
 list:mg "list" = none
 isi:mg "isinstance" = none
 bool:mg "bool" = none
 int:mg "int" = none
theorem inStrs {z:Str}:∀ {zs:List Str},inV (.str z) (zs.map V.str) = decide (z ∈ zs)
 | []=>by simp [inV]
 | y :: ys=>by
  have ih:=inStrs (z:=z) (zs:=ys)
  show (eqV (.str y) (.str z) || inV (.str z) (ys.map V.str)) = _
  rw [ih]
  have:eqV (.str y) (.str z) = decide (z = y):=by
   show (y == z) = _
   rw [Bool.eq_iff_iff,beq_iff_eq,decide_eq_true_eq]
   exact ⟨Eq.symm,Eq.symm⟩
  rw [this]
  simp
theorem flatStrs:∀ {zs:List Str},(zs.map V.str).all flatV = true
 | []=>rfl
 | _ :: ys=>by
  show (true && (ys.map V.str).all flatV) = true
  rw [flatStrs]
  rfl
end K52
namespace L2
open PySem PySem.Spec PyProof.Rows
def rNLen:R2:=fun x y H Q=>∃ (a c:Addr) (xs ys:List V),x = .ref a/\y = .ref c/\H a = some (.lst xs)/\H c = some (.lst ys)/\xs.length ≠ ys.length/\Q (.bl true) H
theorem op_neLen {X:Cx} (hu:X.A.units < cLine):OpR X (compareOp .NotEq) rNLen:=by
 intro pins s σ H x y v u Q I rx ry h
 obtain ⟨a,c,xs,ys,rfl,rfl,ha,hc,hn,q⟩:=h
 cases rx
 cases ry
 obtain ⟨its,r,pl,_⟩:=I.list (SqL.of ha)
 obtain ⟨its2,r2,pl2,_⟩:=I.list (SqL.of hc)
 have e1:=r.length
 have e2:=r2.length
 exact SeqAt.RcNeAt.lists_lengths pl.isList pl2.isList (by simp only [List.size_toArray,bne_iff_ne]; omega) hu X.prog X.w X.xe _ ⟨.bl true,H,I,rfl,q⟩
end L2
namespace K52
open PySem L2 PyProof.Rows
theorem cut_takeN {xs:List V} {n:Nat}:cutV xs none (some (n:Int)) = xs.take n:=by
 unfold cutV
 rw [HT.sIx_nat,HT.sIx_none,List.drop_zero,Nat.sub_zero]
 by_cases h:n<=xs.length
 ·rw [Nat.min_eq_left h]
 ·rw [Nat.min_eq_right (by omega),List.take_of_length_le (Nat.le_refl _),List.take_of_length_le (by omega)]
theorem pairedTake {α β : Type} {R : α->β->Prop} {a:List α} {c:List β} (h:Paired R a c):∀ n,Paired R (a.take n) (c.take n):=by
 induction h with
 | nil=>intro n; rw [List.take_nil,List.take_nil]; exact .nil
 | cons r _ ih=>
  intro n
  cases n with
  | zero=>exact .nil
  | succ n=>exact .cons r (ih n)
theorem cut_dropN {xs:List V} {n:Nat}:cutV xs (some (n:Int)) none = xs.drop n:=by
 unfold cutV
 rw [HT.sIx_nat,HT.sIx_none]
 by_cases h:n<=xs.length
 ·rw [Nat.min_eq_left h]
  exact List.take_of_length_le (by rw [List.length_drop]; exact Nat.le_refl _)
 ·rw [Nat.min_eq_right (by omega),List.drop_of_length_le (Nat.le_refl _),List.drop_of_length_le (by omega)]
  simp
theorem pairedDrop {α β : Type} {R : α->β->Prop} {a:List α} {c:List β} (h:Paired R a c):∀ n,Paired R (a.drop n) (c.drop n):=by
 induction h with
 | nil=>intro n; rw [List.drop_nil,List.drop_nil]; exact .nil
 | cons r t ih=>
  intro n
  cases n with
  | zero=>exact .cons r t
  | succ n=>exact ih n
def stepF (m:Int) (ts:List Int) (ps:List (Str × Int)):Item × List Int × List (Str × Int):=
 if m % 4 = 0/\ts ≠ [] then (.one (ts.headD 0),ts.drop 1,ps)
 else if m % 4 = 1 then (.row (ts.take (m / 4 % 4).toNat),ts.drop (m / 4 % 4).toNat,ps)
 else if m % 4 = 2/\ps ≠ [] then (.named (ps.headD ("",0)).1 (ps.headD ("",0)).2,ts,ps.drop 1)
 else (.book (ps.take (m / 4 % 4).toNat),ts,ps.drop (m / 4 % 4).toNat)
def loopF (cell:Int):Nat->List Item->List Int->List (Str × Int)->List Item × List Int × List (Str × Int)
 | 0,ct,ts,ps=>(ct,ts,ps)
 | n + 1,ct,ts,ps=>if ts.length + ps.length > 0 then loopF cell n (ct ++ [(stepF (mixF cell ct.length) ts ps).1]) (stepF (mixF cell ct.length) ts ps).2.1 (stepF (mixF cell ct.length) ts ps).2.2 else (ct,ts,ps)
def tailI (r:List Item × List Int × List (Str × Int)):List Item:=
 if r.2.1.length + r.2.2.length > 0 then r.1 ++ [.row (r.2.1.take 30),.row (r.2.1.drop 30),.book (r.2.2.take 30),.book (r.2.2.drop 30)] else r.1
def itemsF (cell:Int) (ts:List Int) (ps:List (Str × Int)):List Item:=tailI (loopF cell 26 [] ts ps)
theorem stepF_T (m:Int) (ts:List Int) (ps:List (Str × Int)):itT (stepF m ts ps).1 ++ (stepF m ts ps).2.1 = ts:=by
 unfold stepF
 split
 next h=>
  cases ts with
  | nil=>exact absurd rfl h.2
  | cons t ts=>rfl
 ·split
  ·exact List.take_append_drop _ _
  ·split <;> rfl
theorem stepF_P (m:Int) (ts:List Int) (ps:List (Str × Int)):itP (stepF m ts ps).1 ++ (stepF m ts ps).2.2 = ps:=by
 unfold stepF
 split
 ·rfl
 ·split
  ·rfl
  ·split
   next h=>
    cases ps with
    | nil=>exact absurd rfl h.2
    | cons p ps=>rfl
   ·exact List.take_append_drop _ _
theorem loopF_laid (cell:Int):∀ (n:Nat) (ct:List Item) (ts:List Int) (ps:List (Str × Int)),laidT (loopF cell n ct ts ps).1 ++ (loopF cell n ct ts ps).2.1 = laidT ct ++ ts/\laidP (loopF cell n ct ts ps).1 ++ (loopF cell n ct ts ps).2.2 = laidP ct ++ ps
 | 0,_,_,_=>⟨rfl,rfl⟩
 | n + 1,ct,ts,ps=>by
  unfold loopF
  split
  ·obtain ⟨h1,h2⟩:=loopF_laid cell n (ct ++ [(stepF (mixF cell ct.length) ts ps).1]) (stepF (mixF cell ct.length) ts ps).2.1 (stepF (mixF cell ct.length) ts ps).2.2
   rw [h1,h2,laidT_app,laidP_app,List.append_assoc,List.append_assoc,stepF_T,stepF_P]
   exact ⟨rfl,rfl⟩
  ·exact ⟨rfl,rfl⟩
theorem itemsF_laid (cell:Int) (ts:List Int) (ps:List (Str × Int)):laidT (itemsF cell ts ps) = ts/\laidP (itemsF cell ts ps) = ps:=by
 obtain ⟨h1,h2⟩:=loopF_laid cell 26 [] ts ps
 unfold itemsF tailI
 generalize loopF cell 26 [] ts ps = r at h1 h2
 split
 ·refine ⟨Eq.trans ?_ h1,Eq.trans ?_ h2⟩
  ·unfold laidT
   simp [itT]
  ·unfold laidP
   simp [itP]
 next h=>
  have e1:r.2.1 = []:=List.eq_nil_of_length_eq_zero (by omega)
  have e2:r.2.2 = []:=List.eq_nil_of_length_eq_zero (by omega)
  rw [e1,List.append_nil] at h1
  rw [e2,List.append_nil] at h2
  exact ⟨h1,h2⟩
structure IV (K:PySem.W.Frag) (H0 H':Hp) (l a b:Addr) (vs ys:List V) (ct:List Item) (ts:List Int) (ps:List (Str × Int)):Prop where
 sm:Same H0 H'
 hl:H' l = some (.lst vs)
 hv:Paired (Says K (fun x=>x ≠ l/\H0 x = none) H' 3) vs (ct.map itemD)
 ha:H' a = some (.lst (ts.map V.int))
 hb:H' b = some (.lst ys)
 hy:Paired (Says K (fun x=>x ≠ l/\H0 x = none) H' 1) ys (ps.map pairD)
 na:a ≠ l
 nb:b ≠ l
 nl:H0 l = none
section
variable {K:PySem.W.Frag} {H0 H' H'':Hp} {l a b:Addr} {vs ys:List V} {ct:List Item} {ts:List Int} {ps:List (Str × Int)}
theorem IV.same (h:IV K H0 H' l a b vs ys ct ts ps) (s:Same H' H''):IV K H0 H'' l a b vs ys ct ts ps:=
 ⟨h.sm.trans s,s _ _ h.hl,items_same s h.hv,s _ _ h.ha,s _ _ h.hb,pairs_same s h.hy,h.na,h.nb,h.nl⟩
theorem IV.push {x:V} {it:Item} (h:IV K H0 H' l a b vs ys ct ts ps) (hx:Says K (fun x=>x ≠ l/\H0 x = none) H' 3 x (itemD it)):IV K H0 (upd H' l (.lst (vs ++ [x]))) l a b (vs ++ [x]) ys (ct ++ [it]) ts ps:=by
 refine ⟨fun b u e=>by rw [upd_ne (ne_of_none e h.nl)]; exact h.sm _ _ e,upd_same,?_,by rw [upd_ne h.na]; exact h.ha,by rw [upd_ne h.nb]; exact h.hb,?_,h.na,h.nb,h.nl⟩
 ·rw [List.map_append]
  exact Paired.snoc (Paired.imp' (fun _ _ z=>says_grow h.hl (fun b o=>⟨o,o.1⟩) z) h.hv) (says_grow h.hl (fun b o=>⟨o,o.1⟩) hx)
 ·exact Paired.imp' (fun _ _ z=>says_grow h.hl (fun b o=>⟨o,o.1⟩) z) h.hy
theorem IV.setA {a':Addr} {ts':List Int} (h:IV K H0 H' l a b vs ys ct ts ps) (ha:H' a' = some (.lst (ts'.map V.int))) (n:a' ≠ l):IV K H0 H' l a' b vs ys ct ts' ps:=⟨h.sm,h.hl,h.hv,ha,h.hb,h.hy,n,h.nb,h.nl⟩
theorem IV.setB {b':Addr} {ys':List V} {ps':List (Str × Int)} (h:IV K H0 H' l a b vs ys ct ts ps) (hb:H' b' = some (.lst ys')) (hy:Paired (Says K (fun x=>x ≠ l/\H0 x = none) H' 1) ys' (ps'.map pairD)) (n:b' ≠ l):IV K H0 H' l a b' vs ys' ct ts ps':=⟨h.sm,h.hl,h.hv,h.ha,hb,hy,h.na,n,h.nl⟩
end
def itW (K:PySem.W.Frag) (H0:Hp) (cell:Int) (l:Addr) (R:List Item × List Int × List (Str × Int)) (m:Nat) (σ : L2.St) (H':Hp):Prop:=
 ∃ (a b:Addr) (vs ys:List V) (ct:List Item) (ts:List Int) (ps:List (Str × Int)) (v4 v5:Option V),σ = [some (.ref a),some (.ref b),some (.int cell),some (.ref l),v4,v5]/\IV K H0 H' l a b vs ys ct ts ps/\ct.length + m = 26/\loopF cell m ct ts ps = R/\ts.length<=400/\ps.length<=400
def spItems (K:PySem.W.Frag):Sp:=fun vs H Q _=>∃ (a b:Addr) (cell:Int) (ys:List V) (ts:List Int) (ps:List (Str × Int)),vs = [.ref a,.ref b,.int cell]/\H a = some (.lst (ts.map V.int))/\H b = some (.lst ys)/\Paired (Says K T' H 1) ys (ps.map pairD)/\ts.length<=400/\ps.length<=400/\
 ∀ (l:Addr) (zs:List V) (H':Hp),Same H H'->H l = none->H' l = some (.lst zs)->Paired (Says K (fun x=>x ≠ l/\H x = none) H' 3) zs ((itemsF cell ts ps).map itemD)->Q (.ref l) H'
section
variable {P:Program} {w:World} {K:PySem.W.Frag} {mg:Str->Option Value} {base:Heap} {f:Addr} {fd:FuncData}
theorem pairs_any {ok ok':Addr->Prop} {H:Hp} {ys:List V} {ps:List (Str × Int)} (h:Paired (Says K ok H 1) ys (ps.map pairD)):Paired (Says K ok' H 1) ys (ps.map pairD):=by
 induction ps generalizing ys with
 | nil=>cases h; exact .nil
 | cons p ps ih=>
  cases h with
  | cons h r=>
   obtain ⟨b,rfl,hb⟩:=pair_says h
   exact .cons (.tup hb (.cons .str (.cons .int .nil))) (ih r)
theorem scItems:FnScope ["_law_things","_law_pairs","_law_cell_here","_law_call","_law_number","_law_many"] ["_law_things","_law_pairs","_law_cell_here"] (defScope sItems):=⟨rfl,rfl,rfl,by decide +kernel,rfl,by decide +kernel,by decide +kernel⟩
theorem ok_items {g1:Addr} {d1:FuncData} (F:Fun K "_law_items" "_law_items" sItems f fd) (U:TxtL mg) (cM:Callee P w K mg base 1 "_law_mix" g1 d1 ["_law_cell_here","_law_k"] spMix):FnOk P w K mg base CX0 2 f fd ["_law_things","_law_pairs","_law_cell_here"] (spItems K):=by
 refine F.ok scItems (fun vs H Q E h=>?_) (fun cdv A outer s H vs Q E hr h=>?_)
 ·obtain ⟨a,b,cell,ys,ts,ps,rfl,_⟩:=h
  rfl
 obtain ⟨a,b,cell,ys,ts,ps,rfl,ha,hb,hy,l1,l2,q⟩:=h
 have hU:=hr.units
 have hU0:=hr.units0
 refine ⟨_,pss_cons (ps_set (i:=3) scItems.nd rfl (Or.inl rfl) (pe_lst pa_nil))
   (pss_cons (ps_while PassesOwn.never (PW.pt (pw_and (pt_cmpR op_lt (cB call_len_seq U.len PySem.boot_len (ac (pv 3) pa_nil)) pe_int (nomark _)) (pw_and1 (pt_cmpR op_gt (pe_op op_add (cB call_len_seq U.len PySem.boot_len (ac (pv 0) pa_nil)) (cB call_len_seq U.len PySem.boot_len (ac (pv 1) pa_nil))) pe_int (nomark _))))) (pss_cons (ps_set (i:=4) scItems.nd rfl (Or.inl rfl) (cF cM hr (ac (pv 2) (ac (cB call_len_seq U.len PySem.boot_len (ac (pv 3) pa_nil)) pa_nil))))
   (pss_cons (ps_set (i:=5) scItems.nd rfl (Or.inl rfl) (pe_op op_mod (pe_op op_fdiv (pv 4) pe_int) pe_int))
   (pss_one (ps_if (PW.pt (pw_and (pt_cmpR op_eq (pe_op op_mod (pv 4) pe_int) pe_int (nomark _)) (pw_and1 (pt_cmpR (OpR.or (op_neS hU) (op_neLen hU0)) (pv 0) (pe_lst pa_nil) (nomark _))))) (pss_cons (ps_expr (pe_bm PySem.F.plainAttrs_list PySem.F.slot_list_append PySem.F.type_list_append mt_append (pv 3) (ac (pe_tup (ac pe_str (ac (pe_ix ix_list (pv 0) pe_int (fun _ _=>rfl)) pa_nil))) pa_nil)))
   (pss_one (ps_set (i:=0) scItems.nd rfl (Or.inl rfl) (pe_slice sl_list (pv 0) (po_some pe_int) po_none))))
   (pss_one (ps_if (pt_cmpR op_eq (pe_op op_mod (pv 4) pe_int) pe_int (nomark _)) (pss_cons (ps_expr (pe_bm PySem.F.plainAttrs_list PySem.F.slot_list_append PySem.F.type_list_append mt_append (pv 3) (ac (pe_tup (ac pe_str (ac (pe_slice sl_list (pv 0) po_none (po_some (pv 5))) pa_nil))) pa_nil)))
   (pss_one (ps_set (i:=0) scItems.nd rfl (Or.inl rfl) (pe_slice sl_list (pv 0) (po_some (pv 5)) po_none))))
   (pss_one (ps_if (PW.pt (pw_and (pt_cmpR op_eq (pe_op op_mod (pv 4) pe_int) pe_int (nomark _)) (pw_and1 (pt_cmpR (OpR.or (op_neS hU) (op_neLen hU0)) (pv 1) (pe_lst pa_nil) (nomark _))))) (pss_cons (ps_expr (pe_bm PySem.F.plainAttrs_list PySem.F.slot_list_append PySem.F.type_list_append mt_append (pv 3) (ac (pe_tup (ac pe_str (ac (pe_ix ix_tup (pe_ix ix_list (pv 1) pe_int (fun _ _=>rfl)) pe_int (fun _ _=>rfl)) (ac (pe_ix ix_tup (pe_ix ix_list (pv 1) pe_int (fun _ _=>rfl)) pe_int (fun _ _=>rfl)) pa_nil)))) pa_nil)))
   (pss_one (ps_set (i:=1) scItems.nd rfl (Or.inl rfl) (pe_slice sl_list (pv 1) (po_some pe_int) po_none))))
   (pss_cons (ps_expr (pe_bm PySem.F.plainAttrs_list PySem.F.slot_list_append PySem.F.type_list_append mt_append (pv 3) (ac (pe_tup (ac pe_str (ac (pe_slice sl_list (pv 1) po_none (po_some (pv 5))) pa_nil))) pa_nil)))
   (pss_one (ps_set (i:=1) scItems.nd rfl (Or.inl rfl) (pe_slice sl_list (pv 1) (po_some (pv 5)) po_none)))))))))))))
   (pss_cons (ps_if (pt_cmpR op_gt (pe_op op_add (cB call_len_seq U.len PySem.boot_len (ac (pv 0) pa_nil)) (cB call_len_seq U.len PySem.boot_len (ac (pv 1) pa_nil))) pe_int (nomark _)) (pss_one (ps_set (i:=3) scItems.nd rfl (Or.inl rfl) (pe_op op_cat (pv 3) (pe_lst (ac (pe_tup (ac pe_str (ac (pe_slice sl_list (pv 0) po_none (po_some pe_int)) pa_nil))) (ac (pe_tup (ac pe_str (ac (pe_slice sl_list (pv 0) (po_some pe_int) po_none) pa_nil))) (ac (pe_tup (ac pe_str (ac (pe_slice sl_list (pv 1) po_none (po_some pe_int)) pa_nil))) (ac (pe_tup (ac pe_str (ac (pe_slice sl_list (pv 1) (po_some pe_int) po_none) pa_nil))) pa_nil)))))))) pss_nil)
   (pss_one (ps_ret (pv 3))))),?_⟩
 refine ⟨(by show 0<=sizeLine; decide),fun l hl=>?_⟩
 have s1:=same_new hl (.lst [])
 have I0:IV K H (upd H l (.lst [])) l a b [] ys [] ts ps:=⟨s1,upd_same,.nil,s1 _ _ ha,s1 _ _ hb,pairs_same s1 (pairs_any hy),ne_of_none ha hl,ne_of_none hb hl,hl⟩
 try dsimp only [gName]
 generalize upd H l (.lst []) = H1 at s1 I0 |-
 refine seq_via (fun σ' H'=>∃ (a b:Addr) (vs ys:List V) (ct:List Item) (ts':List Int) (ps':List (Str × Int)) (v4 v5:Option V),σ' = [some (.ref a),some (.ref b),some (.int cell),some (.ref l),v4,v5]/\IV K H H' l a b vs ys ct ts' ps'/\loopF cell 26 [] ts ps = (ct,ts',ps')/\ct.length<=26/\ts'.length<=400/\ps'.length<=400) ?_ (fun key=>?_)
 rotate_left
 ·refine ⟨itW K H cell l (loopF cell 26 [] ts ps),⟨26,a,b,[],ys,[],ts,ps,_,_,rfl,I0,rfl,rfl,l1,l2⟩,?_⟩
  clear I0 s1
  rintro m σ H2 ⟨a',b',vs',ys',ct,ts',ps',v4,v5,rfl,I2,hm,hR,l1',l2'⟩
  have lvs:vs'.length = ct.length:=by rw [I2.hv.length,List.length_map]
  have lys:ys'.length = ps'.length:=by rw [I2.hy.length,List.length_map]
  have fin:(m = 0\/ts'.length + ps'.length = 0)->loopF cell 26 [] ts ps = (ct,ts',ps'):=fun h=>by
   rw [<- hR]
   cases m with
   | zero=>rfl
   | succ m=>
    show (if ts'.length + ps'.length > 0 then _ else _) = _
    rw [if_neg (by rcases h with h | h <;> omega)]
  refine ⟨_,rfl,l,_,rfl,.inl (SqL.of I2.hl),_,_,rfl,rfl,_,rfl,?_⟩
  by_cases h26:vs'.length < 26
  rotate_left
  ·refine dF (by show ¬ (vs'.length:Int) < 26; omega) ?_
   refine iteF ?_
   exact key _ _ ⟨a',b',vs',ys',ct,ts',ps',_,_,rfl,I2,fin (.inl (by omega)),by omega,l1',l2'⟩
  refine dT (by show (vs'.length:Int) < 26; omega) ?_
  refine ⟨_,rfl,a',_,rfl,.inl (SqL.of I2.ha),_,rfl,b',_,rfl,.inl (SqL.of I2.hb),_,_,rfl,rfl,_,_,rfl,rfl,_,rfl,?_⟩
  by_cases h0:ts'.length + ps'.length > 0
  rotate_left
  ·refine dF (by rw [List.length_map]; show ¬ (0:Int) < _; omega) ?_
   exact key _ _ ⟨a',b',vs',ys',ct,ts',ps',_,_,rfl,I2,fin (.inr (by omega)),by omega,l1',l2'⟩
  refine dT (by rw [List.length_map]; show (0:Int) < _; omega) ?_
  obtain ⟨m',rfl⟩:∃ m',m = m' + 1:=⟨m - 1,by omega⟩
  refine ⟨itW K H cell l (loopF cell 26 [] ts ps) m',fun σ' H' w=>⟨m',Nat.lt_succ_self _,w⟩,?_⟩
  refine ⟨_,rfl,_,rfl,l,_,rfl,.inl (SqL.of I2.hl),cell,_,rfl,?_⟩
  rw [lvs]
  have hnext:loopF cell m' (ct ++ [(stepF (mixF cell ct.length) ts' ps').1]) (stepF (mixF cell ct.length) ts' ps').2.1 (stepF (mixF cell ct.length) ts' ps').2.2 = loopF cell 26 [] ts ps:=by
   rw [<- hR]
   show _ = (if ts'.length + ps'.length > 0 then _ else _)
   rw [if_pos h0]
  generalize mixF cell (ct.length:Int) = mm at hnext |-
  refine ⟨_,rfl,_,_,rfl,rfl,⟨by decide,by decide⟩,_,_,rfl,rfl,(by show (0:Int) < 4; decide),?_⟩
  have q0 : 0<=mm / 4 % 4:=Int.emod_nonneg _ (by decide)
  have q1:mm / 4 % 4 < 4:=Int.emod_lt_of_pos _ (by decide)
  have r0 : 0<=mm % 4:=Int.emod_nonneg _ (by decide)
  have r1:mm % 4 < 4:=Int.emod_lt_of_pos _ (by decide)
  dsimp only [gName]
  generalize hq:mm / 4 % 4 = qq at q0 q1 |-
  obtain ⟨n,rfl⟩:=Int.eq_ofNat_of_zero_le q0
  refine ⟨_,rfl,_,_,rfl,rfl,(by show (0:Int) < 4; decide),rfl,_,rfl,?_⟩
  by_cases m0:mm % 4 = 0
  ·refine dT (congrArg V.int m0) ?_
   refine ⟨_,rfl,(by show 0<=sizeLine; decide),fun e0 he0=>?_⟩
   have s3:=same_new he0 (.lst [])
   have g3:upd H2 e0 (.lst []) e0 = some (.lst []):=upd_same
   generalize upd H2 e0 (.lst []) = H3 at s3 g3 |-
   have I3:=I2.same s3
   by_cases ht:ts' = []
   ·refine .inl ⟨a',e0,0,.lst [],fun _=>True,fun _=>True,rfl,rfl,by decide,Says.lst True.intro I3.ha (by rw [ht]; exact .nil),Says.lst True.intro g3 .nil,_,rfl,?_⟩
    refine iteF ?_
    refine ⟨_,rfl,_,_,rfl,rfl,(by show (0:Int) < 4; decide),rfl,_,rfl,?_⟩
    refine dF (fun e=>by have:=V.int.inj e; omega) ?_
    refine ⟨_,rfl,_,_,rfl,rfl,(by show (0:Int) < 4; decide),rfl,_,rfl,?_⟩
    refine dF (fun e=>by have:=V.int.inj e; omega) ?_
    refine iteF ?_
    have es:stepF mm ts' ps' = (.book (ps'.take n),ts',ps'.drop n):=by unfold stepF; rw [hq,Int.toNat_natCast,if_neg (fun h=>h.2 ht),if_neg (by omega),if_neg (fun h=>by omega)]
    refine ⟨_,rfl,.inl ⟨rfl,_,SqL.of I3.hl⟩,_,rfl,_,rfl,_,rfl,b',_,rfl,SqL.of I3.hb,fun p hp=>?_⟩
    rw [cut_takeN]
    have r1:=same_new hp (.lst (ys'.take n))
    have e1:upd H3 p (.lst (ys'.take n)) p = some (.lst (ys'.take n)):=upd_same
    have np:p ≠ l:=(ne_of_none I3.hl hp).symm
    have np0:H p = none:=I3.sm.free hp
    have J1:=I3.same r1
    generalize upd H3 p (.lst (ys'.take n)) = G1 at r1 e1 J1 |-
    refine ⟨(by show 2<=sizeLine; decide),fun u hu=>?_⟩
    have r2:=same_new hu (.tup [.str "book",.ref p])
    have e2:upd G1 u (.tup [.str "book",.ref p]) u = some (.tup [.str "book",.ref p]):=upd_same
    have J2:=J1.same r2
    have e3:=r2 _ _ e1
    generalize upd G1 u (.tup [.str "book",.ref p]) = G2 at r2 e2 J2 e3 |-
    refine ⟨l,_,_,rfl,rfl,J2.hl,small1000 (by omega),?_⟩
    have J3:=J2.push (x:=.ref u) (it:=.book (ps'.take n)) (.tup (SqT.of e2) (.cons .str (.cons (.lst ⟨np,np0⟩ e3 (by rw [List.map_take]; exact pairedTake J2.hy n)) .nil)))
    show tSeq _ _ _ _ (upd G2 l (.lst (vs' ++ [.ref u])))
    generalize upd G2 l (.lst (vs' ++ [.ref u])) = G3 at J3 |-
    refine ⟨_,rfl,_,rfl,_,rfl,b',_,rfl,SqL.of J3.hb,fun p2 hp2=>?_⟩
    rw [cut_dropN]
    have r4:=same_new hp2 (.lst (ys'.drop n))
    have J4:=(J3.same r4).setB (b':=p2) (ys':=ys'.drop n) (ps':=ps'.drop n) upd_same (by rw [List.map_drop]; exact pairedDrop (J3.same r4).hy n) (ne_of_none J3.hl hp2).symm
    exact ⟨a',p2,_,_,_,ts',ps'.drop n,_,_,rfl,J4,by rw [List.length_append,List.length_singleton]; omega,by rw [<- hnext,es],l1',by rw [List.length_drop]; omega⟩
   ·have tne:(ts'.map V.int).length ≠ ([]:List V).length:=fun e=>ht (List.eq_nil_of_length_eq_zero (by simpa using e))
    refine .inr ⟨a',e0,_,_,rfl,rfl,I3.ha,g3,tne,_,rfl,?_⟩
    refine iteT ?_
    cases ts' with
    | nil=>exact absurd rfl ht
    | cons x ts'=>
    have es:stepF mm (x :: ts') ps' = (.one x,ts',ps'):=by unfold stepF; rw [if_pos ⟨m0,ht⟩]; rfl
    refine ⟨_,rfl,.inl ⟨rfl,_,SqL.of I3.hl⟩,_,rfl,a',_,0,.int x,rfl,rfl,SqL.of I3.ha,atI_nat (j:=0) rfl,(by show 2<=sizeLine; decide),fun u hu=>?_⟩
    have r2:=same_new hu (.tup [.str "one",.int x])
    have e2:upd H3 u (.tup [.str "one",.int x]) u = some (.tup [.str "one",.int x]):=upd_same
    have J2:=I3.same r2
    generalize upd H3 u (.tup [.str "one",.int x]) = G2 at r2 e2 J2 |-
    refine ⟨l,_,_,rfl,rfl,J2.hl,small1000 (by omega),?_⟩
    have J3:=J2.push (x:=.ref u) (it:=.one x) (.tup (SqT.of e2) (.cons .str (.cons .int .nil)))
    show tSeq _ _ _ _ (upd G2 l (.lst (vs' ++ [.ref u])))
    generalize upd G2 l (.lst (vs' ++ [.ref u])) = G3 at J3 |-
    refine ⟨_,rfl,_,rfl,a',_,rfl,SqL.of J3.ha,fun p2 hp2=>?_⟩
    rw [show cutV ((x :: ts').map V.int) (some 1) none = ts'.map V.int from cut_dropN (n:=1)]
    have r4:=same_new hp2 (.lst (ts'.map V.int))
    have J4:=(J3.same r4).setA (a':=p2) (ts':=ts') upd_same (ne_of_none J3.hl hp2).symm
    exact ⟨p2,b',_,_,_,ts',ps',_,_,rfl,J4,by rw [List.length_append,List.length_singleton]; omega,by rw [<- hnext,es],by rw [List.length_cons] at l1'; omega,l2'⟩
  refine dF (fun e=>m0 (V.int.inj e)) ?_
  refine iteF ?_
  refine ⟨_,rfl,_,_,rfl,rfl,(by show (0:Int) < 4; decide),rfl,_,rfl,?_⟩
  by_cases m1:mm % 4 = 1
  ·refine dT (congrArg V.int m1) ?_
   have es:stepF mm ts' ps' = (.row (ts'.take n),ts'.drop n,ps'):=by unfold stepF; rw [hq,Int.toNat_natCast,if_neg (fun h=>m0 h.1),if_pos m1]
   refine ⟨_,rfl,.inl ⟨rfl,_,SqL.of I2.hl⟩,_,rfl,_,rfl,_,rfl,a',_,rfl,SqL.of I2.ha,fun p hp=>?_⟩
   rw [cut_takeN,<- List.map_take]
   have r1:=same_new hp (.lst ((ts'.take n).map V.int))
   have e1:upd H2 p (.lst ((ts'.take n).map V.int)) p = some (.lst ((ts'.take n).map V.int)):=upd_same
   have np:p ≠ l:=(ne_of_none I2.hl hp).symm
   have np0:H p = none:=I2.sm.free hp
   have J1:=I2.same r1
   generalize upd H2 p (.lst ((ts'.take n).map V.int)) = G1 at r1 e1 J1 |-
   refine ⟨(by show 2<=sizeLine; decide),fun u hu=>?_⟩
   have r2:=same_new hu (.tup [.str "row",.ref p])
   have e2:upd G1 u (.tup [.str "row",.ref p]) u = some (.tup [.str "row",.ref p]):=upd_same
   have J2:=J1.same r2
   have e3:=r2 _ _ e1
   generalize upd G1 u (.tup [.str "row",.ref p]) = G2 at r2 e2 J2 e3 |-
   refine ⟨l,_,_,rfl,rfl,J2.hl,small1000 (by omega),?_⟩
   have J3:=J2.push (x:=.ref u) (it:=.row (ts'.take n)) (.tup (SqT.of e2) (.cons .str (.cons (.lst ⟨np,np0⟩ e3 (ints_says _)) .nil)))
   show tSeq _ _ _ _ (upd G2 l (.lst (vs' ++ [.ref u])))
   generalize upd G2 l (.lst (vs' ++ [.ref u])) = G3 at J3 |-
   refine ⟨_,rfl,_,rfl,_,rfl,a',_,rfl,SqL.of J3.ha,fun p2 hp2=>?_⟩
   rw [cut_dropN,<- List.map_drop]
   have r4:=same_new hp2 (.lst ((ts'.drop n).map V.int))
   have J4:=(J3.same r4).setA (a':=p2) (ts':=ts'.drop n) upd_same (ne_of_none J3.hl hp2).symm
   exact ⟨p2,b',_,_,_,ts'.drop n,ps',_,_,rfl,J4,by rw [List.length_append,List.length_singleton]; omega,by rw [<- hnext,es],by rw [List.length_drop]; omega,l2'⟩
  refine dF (fun e=>m1 (V.int.inj e)) ?_
  refine ⟨_,rfl,_,_,rfl,rfl,(by show (0:Int) < 4; decide),rfl,_,rfl,?_⟩
  by_cases m2:mm % 4 = 2
  ·refine dT (congrArg V.int m2) ?_
   refine ⟨_,rfl,(by show 0<=sizeLine; decide),fun e0 he0=>?_⟩
   have s3:=same_new he0 (.lst [])
   have g3:upd H2 e0 (.lst []) e0 = some (.lst []):=upd_same
   generalize upd H2 e0 (.lst []) = H3 at s3 g3 |-
   have I3:=I2.same s3
   by_cases hp0:ps' = []
   ·have hy0:ys' = []:=List.eq_nil_of_length_eq_zero (by rw [lys,hp0]; rfl)
    refine .inl ⟨b',e0,0,.lst [],fun _=>True,fun _=>True,rfl,rfl,by decide,Says.lst True.intro I3.hb (by rw [hy0]; exact .nil),Says.lst True.intro g3 .nil,_,rfl,?_⟩
    refine iteF ?_
    have es:stepF mm ts' ps' = (.book (ps'.take n),ts',ps'.drop n):=by unfold stepF; rw [hq,Int.toNat_natCast,if_neg (fun h=>m0 h.1),if_neg m1,if_neg (fun h=>h.2 hp0)]
    refine ⟨_,rfl,.inl ⟨rfl,_,SqL.of I3.hl⟩,_,rfl,_,rfl,_,rfl,b',_,rfl,SqL.of I3.hb,fun p hp=>?_⟩
    rw [cut_takeN]
    have r1:=same_new hp (.lst (ys'.take n))
    have e1:upd H3 p (.lst (ys'.take n)) p = some (.lst (ys'.take n)):=upd_same
    have np:p ≠ l:=(ne_of_none I3.hl hp).symm
    have np0:H p = none:=I3.sm.free hp
    have J1:=I3.same r1
    generalize upd H3 p (.lst (ys'.take n)) = G1 at r1 e1 J1 |-
    refine ⟨(by show 2<=sizeLine; decide),fun u hu=>?_⟩
    have r2:=same_new hu (.tup [.str "book",.ref p])
    have e2:upd G1 u (.tup [.str "book",.ref p]) u = some (.tup [.str "book",.ref p]):=upd_same
    have J2:=J1.same r2
    have e3:=r2 _ _ e1
    generalize upd G1 u (.tup [.str "book",.ref p]) = G2 at r2 e2 J2 e3 |-
    refine ⟨l,_,_,rfl,rfl,J2.hl,small1000 (by omega),?_⟩
    have J3:=J2.push (x:=.ref u) (it:=.book (ps'.take n)) (.tup (SqT.of e2) (.cons .str (.cons (.lst ⟨np,np0⟩ e3 (by rw [List.map_take]; exact pairedTake J2.hy n)) .nil)))
    show tSeq _ _ _ _ (upd G2 l (.lst (vs' ++ [.ref u])))
    generalize upd G2 l (.lst (vs' ++ [.ref u])) = G3 at J3 |-
    refine ⟨_,rfl,_,rfl,_,rfl,b',_,rfl,SqL.of J3.hb,fun p2 hp2=>?_⟩
    rw [cut_dropN]
    have r4:=same_new hp2 (.lst (ys'.drop n))
    have J4:=(J3.same r4).setB (b':=p2) (ys':=ys'.drop n) (ps':=ps'.drop n) upd_same (by rw [List.map_drop]; exact pairedDrop (J3.same r4).hy n) (ne_of_none J3.hl hp2).symm
    exact ⟨a',p2,_,_,_,ts',ps'.drop n,_,_,rfl,J4,by rw [List.length_append,List.length_singleton]; omega,by rw [<- hnext,es],l1',by rw [List.length_drop]; omega⟩
   ·have tne:ys'.length ≠ ([]:List V).length:=fun e=>hp0 (List.eq_nil_of_length_eq_zero (by rw [<- lys]; exact e))
    refine .inr ⟨b',e0,_,_,rfl,rfl,I3.hb,g3,tne,_,rfl,?_⟩
    refine iteT ?_
    cases ps' with
    | nil=>exact absurd rfl hp0
    | cons x ps'=>
    have es:stepF mm ts' (x :: ps') = (.named x.1 x.2,ts',ps'):=by unfold stepF; rw [if_neg (fun h=>m0 h.1),if_neg m1,if_pos ⟨m2,hp0⟩]; rfl
    have hy3:=I3.hy
    cases ys' with
    | nil=>cases hy3
    | cons y ys'=>
    cases hy3 with
    | cons hy1 hyr=>
    obtain ⟨pb,rfl,hpb⟩:=pair_says hy1
    refine ⟨_,rfl,.inl ⟨rfl,_,SqL.of I3.hl⟩,_,rfl,b',_,0,.ref pb,rfl,rfl,SqL.of I3.hb,atI_nat (j:=0) rfl,pb,_,0,.str x.1,rfl,rfl,hpb,rfl,_,rfl,b',_,0,.ref pb,rfl,rfl,SqL.of I3.hb,atI_nat (j:=0) rfl,pb,_,1,.int x.2,rfl,rfl,hpb,rfl,(by show 3<=sizeLine; decide),fun u hu=>?_⟩
    have r2:=same_new hu (.tup [.str "named",.str x.1,.int x.2])
    have e2:upd H3 u (.tup [.str "named",.str x.1,.int x.2]) u = some (.tup [.str "named",.str x.1,.int x.2]):=upd_same
    have J2:=I3.same r2
    generalize upd H3 u (.tup [.str "named",.str x.1,.int x.2]) = G2 at r2 e2 J2 |-
    refine ⟨l,_,_,rfl,rfl,J2.hl,small1000 (by omega),?_⟩
    have J3:=J2.push (x:=.ref u) (it:=.named x.1 x.2) (.tup (SqT.of e2) (.cons .str (.cons .str (.cons .int .nil))))
    show tSeq _ _ _ _ (upd G2 l (.lst (vs' ++ [.ref u])))
    generalize upd G2 l (.lst (vs' ++ [.ref u])) = G3 at J3 |-
    refine ⟨_,rfl,_,rfl,b',_,rfl,SqL.of J3.hb,fun p2 hp2=>?_⟩
    rw [show cutV (V.ref pb :: ys') (some 1) none = ys' from cut_dropN (n:=1)]
    have r4:=same_new hp2 (.lst ys')
    have hy4:=(J3.same r4).hy
    have J4:=(J3.same r4).setB (b':=p2) (ys':=ys') (ps':=ps') upd_same (by cases hy4 with | cons _ r=>exact r) (ne_of_none J3.hl hp2).symm
    exact ⟨a',p2,_,_,_,ts',ps',_,_,rfl,J4,by rw [List.length_append,List.length_singleton]; omega,by rw [<- hnext,es],l1',by rw [List.length_cons] at l2'; omega⟩
  refine dF (fun e=>m2 (V.int.inj e)) ?_
  refine iteF ?_
  have es:stepF mm ts' ps' = (.book (ps'.take n),ts',ps'.drop n):=by unfold stepF; rw [hq,Int.toNat_natCast,if_neg (fun h=>m0 h.1),if_neg m1,if_neg (fun h=>m2 h.1)]
  refine ⟨_,rfl,.inl ⟨rfl,_,SqL.of I2.hl⟩,_,rfl,_,rfl,_,rfl,b',_,rfl,SqL.of I2.hb,fun p hp=>?_⟩
  rw [cut_takeN]
  have r1:=same_new hp (.lst (ys'.take n))
  have e1:upd H2 p (.lst (ys'.take n)) p = some (.lst (ys'.take n)):=upd_same
  have np:p ≠ l:=(ne_of_none I2.hl hp).symm
  have np0:H p = none:=I2.sm.free hp
  have J1:=I2.same r1
  generalize upd H2 p (.lst (ys'.take n)) = G1 at r1 e1 J1 |-
  refine ⟨(by show 2<=sizeLine; decide),fun u hu=>?_⟩
  have r2:=same_new hu (.tup [.str "book",.ref p])
  have e2:upd G1 u (.tup [.str "book",.ref p]) u = some (.tup [.str "book",.ref p]):=upd_same
  have J2:=J1.same r2
  have e3:=r2 _ _ e1
  generalize upd G1 u (.tup [.str "book",.ref p]) = G2 at r2 e2 J2 e3 |-
  refine ⟨l,_,_,rfl,rfl,J2.hl,small1000 (by omega),?_⟩
  have J3:=J2.push (x:=.ref u) (it:=.book (ps'.take n)) (.tup (SqT.of e2) (.cons .str (.cons (.lst ⟨np,np0⟩ e3 (by rw [List.map_take]; exact pairedTake J2.hy n)) .nil)))
  show tSeq _ _ _ _ (upd G2 l (.lst (vs' ++ [.ref u])))
  generalize upd G2 l (.lst (vs' ++ [.ref u])) = G3 at J3 |-
  refine ⟨_,rfl,_,rfl,_,rfl,b',_,rfl,SqL.of J3.hb,fun p2 hp2=>?_⟩
  rw [cut_dropN]
  have r4:=same_new hp2 (.lst (ys'.drop n))
  have J4:=(J3.same r4).setB (b':=p2) (ys':=ys'.drop n) (ps':=ps'.drop n) upd_same (by rw [List.map_drop]; exact pairedDrop (J3.same r4).hy n) (ne_of_none J3.hl hp2).symm
  exact ⟨a',p2,_,_,_,ts',ps'.drop n,_,_,rfl,J4,by rw [List.length_append,List.length_singleton]; omega,by rw [<- hnext,es],l1',by rw [List.length_drop]; omega⟩
 rintro σ2 H2 ⟨a',b',vs',ys',ct,ts',ps',v4,v5,rfl,I2,hR,l26,l1',l2'⟩
 have lvs:vs'.length = ct.length:=by rw [I2.hv.length,List.length_map]
 have lys:ys'.length = ps'.length:=by rw [I2.hy.length,List.length_map]
 have eI:itemsF cell ts ps = tailI (ct,ts',ps'):=by unfold itemsF; rw [hR]
 refine ⟨_,rfl,a',_,rfl,.inl (SqL.of I2.ha),_,rfl,b',_,rfl,.inl (SqL.of I2.hb),_,_,rfl,rfl,_,_,rfl,rfl,_,rfl,?_⟩
 by_cases h0:ts'.length + ps'.length > 0
 rotate_left
 ·refine dF (by rw [List.length_map]; show ¬ (0:Int) < _; omega) ?_
  refine ⟨_,rfl,q l vs' H2 I2.sm I2.nl I2.hl ?_⟩
  rw [eI]
  unfold tailI
  rw [if_neg h0]
  exact I2.hv
 refine dT (by rw [List.length_map]; show (0:Int) < _; omega) ?_
 have c1:cutV (ts'.map V.int) none (some 30) = (ts'.take 30).map V.int:=by rw [List.map_take]; exact cut_takeN (n:=30)
 have c2:cutV (ts'.map V.int) (some 30) none = (ts'.drop 30).map V.int:=by rw [List.map_drop]; exact cut_dropN (n:=30)
 have c3:cutV ys' none (some 30) = ys'.take 30:=cut_takeN (n:=30)
 have c4:cutV ys' (some 30) none = ys'.drop 30:=cut_dropN (n:=30)
 refine ⟨_,rfl,_,rfl,_,rfl,a',_,rfl,SqL.of I2.ha,fun p1 hp1=>?_⟩
 rw [c1]
 have r1:=same_new hp1 (.lst ((ts'.take 30).map V.int))
 have e1:upd H2 p1 (.lst ((ts'.take 30).map V.int)) p1 = some (.lst ((ts'.take 30).map V.int)):=upd_same
 have n1:p1 ≠ l/\H p1 = none:=⟨(ne_of_none I2.hl hp1).symm,I2.sm.free hp1⟩
 have I1a:=I2.same r1
 generalize upd H2 p1 (.lst ((ts'.take 30).map V.int)) = H1a at r1 e1 I1a |-
 refine ⟨(by show 2<=sizeLine; decide),fun u1 hu1=>?_⟩
 have t1:=same_new hu1 (.tup [.str "row",.ref p1])
 have w1:upd H1a u1 (.tup [.str "row",.ref p1]) u1 = some (.tup [.str "row",.ref p1]):=upd_same
 have e1:=t1 _ _ e1
 have I1b:=I1a.same t1
 generalize upd H1a u1 (.tup [.str "row",.ref p1]) = H1b at t1 e1 w1 I1b |-
 refine ⟨_,rfl,_,rfl,a',_,rfl,SqL.of I1b.ha,fun p2 hp2=>?_⟩
 rw [c2]
 have r2:=same_new hp2 (.lst ((ts'.drop 30).map V.int))
 have e2:upd H1b p2 (.lst ((ts'.drop 30).map V.int)) p2 = some (.lst ((ts'.drop 30).map V.int)):=upd_same
 have n2:p2 ≠ l/\H p2 = none:=⟨(ne_of_none I1b.hl hp2).symm,I1b.sm.free hp2⟩
 have I2a:=I1b.same r2
 generalize upd H1b p2 (.lst ((ts'.drop 30).map V.int)) = H2a at r2 e2 I2a |-
 refine ⟨(by show 2<=sizeLine; decide),fun u2 hu2=>?_⟩
 have t2:=same_new hu2 (.tup [.str "row",.ref p2])
 have w2:upd H2a u2 (.tup [.str "row",.ref p2]) u2 = some (.tup [.str "row",.ref p2]):=upd_same
 have e2:=t2 _ _ e2
 have I2b:=I2a.same t2
 generalize upd H2a u2 (.tup [.str "row",.ref p2]) = H2b at t2 e2 w2 I2b |-
 refine ⟨_,rfl,_,rfl,b',_,rfl,SqL.of I2b.hb,fun p3 hp3=>?_⟩
 rw [c3]
 have r3:=same_new hp3 (.lst (ys'.take 30))
 have e3:upd H2b p3 (.lst (ys'.take 30)) p3 = some (.lst (ys'.take 30)):=upd_same
 have n3:p3 ≠ l/\H p3 = none:=⟨(ne_of_none I2b.hl hp3).symm,I2b.sm.free hp3⟩
 have I3a:=I2b.same r3
 generalize upd H2b p3 (.lst (ys'.take 30)) = H3a at r3 e3 I3a |-
 refine ⟨(by show 2<=sizeLine; decide),fun u3 hu3=>?_⟩
 have t3:=same_new hu3 (.tup [.str "book",.ref p3])
 have w3:upd H3a u3 (.tup [.str "book",.ref p3]) u3 = some (.tup [.str "book",.ref p3]):=upd_same
 have e3:=t3 _ _ e3
 have I3b:=I3a.same t3
 generalize upd H3a u3 (.tup [.str "book",.ref p3]) = H3b at t3 e3 w3 I3b |-
 refine ⟨_,rfl,_,rfl,b',_,rfl,SqL.of I3b.hb,fun p4 hp4=>?_⟩
 rw [c4]
 have r4:=same_new hp4 (.lst (ys'.drop 30))
 have e4:upd H3b p4 (.lst (ys'.drop 30)) p4 = some (.lst (ys'.drop 30)):=upd_same
 have n4:p4 ≠ l/\H p4 = none:=⟨(ne_of_none I3b.hl hp4).symm,I3b.sm.free hp4⟩
 have I4a:=I3b.same r4
 generalize upd H3b p4 (.lst (ys'.drop 30)) = H4a at r4 e4 I4a |-
 refine ⟨(by show 2<=sizeLine; decide),fun u4 hu4=>?_⟩
 have t4:=same_new hu4 (.tup [.str "book",.ref p4])
 have w4:upd H4a u4 (.tup [.str "book",.ref p4]) u4 = some (.tup [.str "book",.ref p4]):=upd_same
 have e4:=t4 _ _ e4
 have I4b:=I4a.same t4
 generalize upd H4a u4 (.tup [.str "book",.ref p4]) = H4b at t4 e4 w4 I4b |-
 have z4:Same H4b H4b:=Same.refl _
 have z3:Same H3b H4b:=r4.trans t4
 have z2:Same H2b H4b:=r3.trans (t3.trans z3)
 have z1:Same H1b H4b:=r2.trans (t2.trans z2)
 have hfour:Paired (Says K (fun x=>x ≠ l/\H x = none) H4b 3) [.ref u1,.ref u2,.ref u3,.ref u4] (([.row (ts'.take 30),.row (ts'.drop 30),.book (ps'.take 30),.book (ps'.drop 30)]:List Item).map itemD):=by
  refine .cons (.tup (SqT.of (z1 _ _ w1)) (.cons .str (.cons (.lst n1 (z1 _ _ e1) (ints_says _)) .nil))) (.cons (.tup (SqT.of (z2 _ _ w2)) (.cons .str (.cons (.lst n2 (z2 _ _ e2) (ints_says _)) .nil))) (.cons (.tup (SqT.of (z3 _ _ w3)) (.cons .str (.cons (.lst n3 (z3 _ _ e3) ?_) .nil))) (.cons (.tup (SqT.of w4) (.cons .str (.cons (.lst n4 e4 ?_) .nil))) .nil)))
  ·rw [List.map_take]; exact pairedTake I4b.hy 30
  ·rw [List.map_drop]; exact pairedDrop I4b.hy 30
 refine ⟨(by show 4<=sizeLine; decide),fun l4 hl4=>?_⟩
 have s5:=same_new hl4 (.lst [.ref u1,.ref u2,.ref u3,.ref u4])
 have g5:upd H4b l4 (.lst [.ref u1,.ref u2,.ref u3,.ref u4]) l4 = some (.lst [.ref u1,.ref u2,.ref u3,.ref u4]):=upd_same
 have I5:=I4b.same s5
 have hf5:=Paired.imp' (fun _ _ z=>Says.same s5 z) hfour
 generalize upd H4b l4 (.lst [.ref u1,.ref u2,.ref u3,.ref u4]) = H5 at s5 g5 I5 hf5 |-
 refine ⟨l,l4,_,_,rfl,rfl,I5.hl,g5,le1000 (by show vs'.length + 4<=1000; omega),fun r hr'=>?_⟩
 have s6:=same_new hr' (.lst (vs' ++ [.ref u1,.ref u2,.ref u3,.ref u4]))
 refine ⟨_,rfl,q r _ _ (I5.sm.trans s6) (I5.sm.free hr') upd_same ?_⟩
 rw [eI]
 unfold tailI
 rw [if_pos h0]
 show Paired _ _ ((ct ++ _).map itemD)
 rw [List.map_append]
 have nr:∀ b,(b ≠ l/\H b = none)->H5 b ≠ none->b ≠ r/\H b = none:=fun b o e=>⟨fun z=>e (by rw [z]; exact hr'),o.2⟩
 exact paired_app (Paired.imp' (fun _ _ z=>(says_ok nr z).same s6) I5.hv) (Paired.imp' (fun _ _ z=>(says_ok nr z).same s6) hf5)
end
def anyT (cell:Int):List Int:=(List.range (cell % 9).toNat).map fun (k:Nat)=>thingF cell (k:Int)
def nameF (more:Int) (pool:List Str) (span:Nat) (k:Nat):Str:=pool.getD (mixF more (k:Int) % (span:Int)).toNat ""
def names1 (more:Int) (pool:List Str) (span:Nat):List Str:=(List.range (more % 8).toNat).map (nameF more pool span)
def dedF (zs:List Str):List Str:=((zs.zipIdx).filter fun p=>decide (p.1 ∉ zs.take p.2)).map (·.1)
def names2 (more:Int) (pool:List Str) (span:Nat):List Str:=if more / 8 % 3 = 0 then dedF (names1 more pool span) else names1 more pool span
def anyP (more:Int) (pool:List Str) (span:Nat):List (Str × Int):=(names2 more pool span).zipIdx.map fun p=>(p.1,thingF more (p.2:Int))
theorem names1_len (more:Int) (pool:List Str) (span:Nat):(names1 more pool span).length<=7:=by
 unfold names1
 rw [List.length_map,List.length_range]
 have h0 : 0<=more % 8:=Int.emod_nonneg _ (by decide)
 have h1:more % 8 < 8:=Int.emod_lt_of_pos _ (by decide)
 omega
theorem dedF_len (zs:List Str):(dedF zs).length<=zs.length:=by
 unfold dedF
 rw [List.length_map]
 refine Nat.le_trans (List.length_filter_le _ _) ?_
 rw [List.length_zipIdx]
 exact Nat.le_refl _
theorem names2_len (more:Int) (pool:List Str) (span:Nat):(names2 more pool span).length<=7:=by
 unfold names2
 split
 ·exact Nat.le_trans (dedF_len _) (names1_len _ _ _)
 ·exact names1_len _ _ _
def spAny (K:PySem.W.Frag):Sp:=fun vs H Q _=>∃ (cell more:Int) (pa:Addr) (span:Nat) (pool:List Str),vs = [.int cell,.int more,.ref pa,.int (span:Nat)]/\H pa = some (.lst (pool.map V.str))/\0 < span/\span<=pool.length/\Builtin.Int.intBits cell<=1048600/\Builtin.Int.intBits more<=1048600/\
 ∀ (p:Addr) (H':Hp),Same H H'->Two K H H' p (anyT cell) (anyP more pool span)->Q (.ref p) H'
section
variable {P:Program} {w:World} {K:PySem.W.Frag} {mg:Str->Option Value} {base:Heap} {f:Addr} {fd:FuncData}
theorem ndA1:([Str.ofString "_law_k",Str.ofString "_law_cell_here"]:List Str).Nodup:=by decide +kernel
theorem ndA2:([Str.ofString "_law_k",Str.ofString "_law_more",Str.ofString "_law_pool_here",Str.ofString "_law_span"]:List Str).Nodup:=by decide +kernel
theorem ndA3:([Str.ofString "_law_k",Str.ofString "_law_name",Str.ofString "_law_names"]:List Str).Nodup:=by decide +kernel
theorem ndA4:([Str.ofString "_law_k",Str.ofString "_law_name",Str.ofString "_law_more"]:List Str).Nodup:=by decide +kernel
theorem scAny:FnScope ["_law_cell_here","_law_more","_law_pool_here","_law_span","_law_things","_law_names"] ["_law_cell_here","_law_more","_law_pool_here","_law_span"] (defScope sAny):=⟨rfl,rfl,rfl,by decide +kernel,rfl,by decide +kernel,by decide +kernel⟩
theorem ok_any {g1 g2:Addr} {d1 d2:FuncData} (F:Fun K "_law_any" "_law_any" sAny f fd) (U:TxtL mg) (cM:Callee P w K mg base 1 "_law_mix" g1 d1 ["_law_cell_here","_law_k"] spMix) (cT:Callee P w K mg base 2 "_law_thing" g2 d2 ["_law_cell_here","_law_k"] spThing):FnOk P w K mg base CX0 3 f fd ["_law_cell_here","_law_more","_law_pool_here","_law_span"] (spAny K):=by
 refine F.ok scAny (fun vs H Q E h=>?_) (fun cdv A outer s H vs Q E hr h=>?_)
 ·obtain ⟨cell,more,pa,span,pool,rfl,_⟩:=h
  rfl
 obtain ⟨cell,more,pa,span,pool,rfl,hpa,sp0,spl,b1,b2,q⟩:=h
 have hr1:Room 1 _:=hr.mono (by decide)
 refine ⟨_,pss_cons (ps_lc (i:=4) ["_law_cell_here"] ["_law_k","_law_cell_here"] [none,some 0] scAny.nd rfl (Or.inl rfl) rfl ⟨rfl,rfl,rfl,rfl⟩ (pi_range1 rfl U.range (ac (pe_op op_mod (pv 0) pe_int) pa_nil)) (gown_name 0) rfl rfl rfl
    (fun pins fp s H C=>⟨pg_name (i:=0) ndA1 rfl (Or.inl rfl) (.inr rfl),pif_nil,cF cT hr (ac (pv 1) (ac (pv 0) pa_nil))⟩))
  (pss_cons (ps_set (i:=5) scAny.nd rfl (Or.inr rfl) (pe_lc ["_law_span","_law_pool_here","_law_more"] ["_law_k","_law_more","_law_pool_here","_law_span"] [none,some 1,some 2,some 3] rfl ⟨rfl,rfl,rfl,rfl⟩ (pi_range1 rfl U.range (ac (pe_op op_mod (pv 1) pe_int) pa_nil)) (gown_name 0) rfl rfl rfl
    (fun pins fp s H C=>⟨pg_name (i:=0) ndA2 rfl (Or.inl rfl) (.inr rfl),pif_nil,pe_ix (r:=rIxL K) ix_list (pv 2) (pe_op op_mod (cF cM hr1 (ac (pv 1) (ac (pv 0) pa_nil))) (pv 3)) (fun _ _=>rfl)⟩)))
  (pss_cons (ps_if (pt_cmpR op_eq (pe_op op_mod (pe_op op_fdiv (pv 1) pe_int) pe_int) pe_int (nomark _)) (pss_one (ps_set (i:=5) scAny.nd rfl (Or.inr rfl) (pe_lc ["_law_names"] ["_law_k","_law_name","_law_names"] [none,none,some 5] rfl ⟨rfl,rfl,rfl,rfl⟩ (pi_enum rfl U.en (ac (pv 5) pa_nil)) (gown_tup2 (K:=K) (n:=2) 0 1) rfl rfl rfl
    (fun pins fp s H C=>⟨pg_tup rfl (pgs_cons (pg_name (i:=0) ndA3 rfl (Or.inl rfl) (.inr rfl)) (pgs_cons (pg_name (i:=1) ndA3 rfl (Or.inl rfl) (.inr rfl)) pgs_nil)),pif_one (pt_cmpR (r:=rIn K true) op_notIn_seq (pv 1) (pe_slice (r:=rSlL K) sl_list (pv 2) po_none (po_some (pv 0))) (by with_unfolding_all rfl)),pv 1⟩)))) pss_nil)
  (pss_one (ps_ret (pe_tup (ac (pv 4) (ac (pe_lc ["_law_more"] ["_law_k","_law_name","_law_more"] [none,none,some 1] rfl ⟨rfl,rfl,rfl,rfl⟩ (pi_enum rfl U.en (ac (pv 5) pa_nil)) (gown_tup2 (K:=K) (n:=2) 0 1) rfl rfl rfl
    (fun pins fp s H C=>⟨pg_tup rfl (pgs_cons (pg_name (i:=0) ndA4 rfl (Or.inl rfl) (.inr rfl)) (pgs_cons (pg_name (i:=1) ndA4 rfl (Or.inl rfl) (.inr rfl)) pgs_nil)),pif_nil,pe_tup (ac (pv 1) (ac (cF cT hr (ac (pv 2) (ac (pv 0) pa_nil))) pa_nil))⟩)) pa_nil))))))),?_⟩
 have c0 : 0<=cell % 9:=Int.emod_nonneg _ (by decide)
 have c1:cell % 9 < 9:=Int.emod_lt_of_pos _ (by decide)
 have m0 : 0<=more % 8:=Int.emod_nonneg _ (by decide)
 have m1:more % 8 < 8:=Int.emod_lt_of_pos _ (by decide)
 refine ⟨_,rfl,_,_,rfl,rfl,(by show (0:Int) < 9; decide),cell % 9,rfl,by omega,by omega,fun D1 hD1=>?_⟩
 refine lc_range (n:=(cell % 9).toNat) (fun i ys H'=>Same H H'/\H' D1 = some (.lst ys)/\ys = ((List.range i).map fun (k:Nat)=>thingF cell (k:Int)).map V.int) ⟨same_new hD1 _,upd_same,rfl⟩ ?_ ?_
 ·rintro i ys H' hi ⟨sH,hDy,ey⟩
  refine ⟨fun _=>?_,fun e=>Bool.noConfusion e⟩
  refine ⟨_,rfl,_,rfl,cell,_,rfl,b1,?_⟩
  refine lcN.mk hi (le1000 (by omega)) hDy (by rw [ey,List.length_map,List.length_map,List.length_range]; exact Nat.le_refl _) ⟨fun b' u e=>by rw [upd_ne (ne_of_none e hD1)]; exact sH _ _ e,upd_same,?_⟩
  rw [ey,List.range_succ,List.map_append,List.map_append,Int.zero_add]
  rfl
 rintro ys1 H1 ⟨s1,hD1v,ey1⟩
 have hD1v:H1 D1 = some (.lst ((anyT cell).map V.int)):=by rw [hD1v,ey1]; rfl
 clear ey1
 refine ⟨_,rfl,_,_,rfl,rfl,(by show (0:Int) < 8; decide),more % 8,rfl,by omega,by omega,fun D2 hD2=>?_⟩
 have hpa1:=s1 _ _ hpa
 refine lc_range (n:=(more % 8).toNat) (fun i ys H'=>Same H1 H'/\H' D2 = some (.lst ys)/\ys = ((List.range i).map (nameF more pool span)).map V.str) ⟨same_new hD2 _,upd_same,rfl⟩ ?_ ?_
 ·rintro i ys H' hi ⟨sH,hDy,ey⟩
  refine ⟨fun _=>?_,fun e=>Bool.noConfusion e⟩
  have d0 : 0<=mixF more ((0:Int) + (i:Int)) % (span:Int):=Int.emod_nonneg _ (by omega)
  have d1:mixF more ((0:Int) + (i:Int)) % (span:Int) < (span:Int):=Int.emod_lt_of_pos _ (by omega)
  obtain ⟨j,hj⟩:=Int.eq_ofNat_of_zero_le d0
  have hjl:j < pool.length:=by omega
  have en:nameF more pool span i = pool[j]:=by
   unfold nameF
   rw [Int.zero_add] at hj
   rw [hj,Int.toNat_natCast,List.getD_eq_getElem?_getD,List.getElem?_eq_getElem hjl]
   rfl
  refine ⟨_,rfl,_,rfl,_,rfl,more,_,rfl,_,rfl,_,_,rfl,rfl,(by omega),pa,_,_,.str pool[j],rfl,rfl,SqL.of (sH _ _ hpa1),(by rw [hj]; exact atI_nat (by rw [List.getElem?_map,List.getElem?_eq_getElem hjl]; rfl)),?_⟩
  refine lcN.mk hi (le1000 (by omega)) hDy (by rw [ey,List.length_map,List.length_map,List.length_range]; exact Nat.le_refl _) ⟨fun b' u e=>by rw [upd_ne (ne_of_none e hD2)]; exact sH _ _ e,upd_same,?_⟩
  rw [ey,List.range_succ,List.map_append,List.map_append,<- en]
  rfl
 rintro ys2 H2 ⟨s2,hD2v,ey2⟩
 have hD2v:H2 D2 = some (.lst ((names1 more pool span).map V.str)):=by rw [hD2v,ey2]; rfl
 clear ey2
 have ln1:=names1_len more pool span
 dsimp only [gName]
 refine seq_via (fun σ' H'=>∃ D3,σ' = [some (.int cell),some (.int more),some (.ref pa),some (.int (span:Nat)),some (.ref D1),some (.ref D3)]/\Same H2 H'/\H1 D3 = none/\H' D3 = some (.lst ((names2 more pool span).map V.str))) ?_ (fun key=>?_)
 rotate_left
 ·refine ⟨_,rfl,_,_,rfl,rfl,⟨by decide,by decide⟩,_,_,rfl,rfl,(by show (0:Int) < 3; decide),rfl,_,rfl,?_⟩
  by_cases h3:more / 8 % 3 = 0
  ·refine dT (congrArg V.int h3) ?_
   refine ⟨_,rfl,D2,rfl,⟨_,SqL.of hD2v⟩,fun D3 hD3=>?_⟩
   generalize hz:names1 more pool span = zs at hD2v ln1
   refine lc_sele (K:=K) (xs:=zs.map V.str) zs.zipIdx (fun p=>decide (p.1 ∉ zs.take p.2)) (fun p=>V.str p.1) hD3 (SqL.of hD2v) (by rw [List.length_map,List.length_zipIdx]) (by rw [List.length_map]; omega) ?_ ?_
   ·rintro i x y p H' N S hx hy hp sH qN qS
    obtain ⟨z,hz',rfl⟩:=strs_at hx
    rw [List.getElem?_zipIdx,hz'] at hy
    cases hy
    have sp:=same_new hp (.tup [.int (i:Nat),.str z])
    have hD2':=sp _ _ (sH _ _ hD2v)
    refine ⟨p,_,rfl,SqT.of upd_same,rfl,_,_,rfl,_,_,rfl,rfl,?_⟩
    generalize upd H' p (.tup [.int (i:Nat),.str z]) = H3 at sp hD2' |-
    refine ⟨_,rfl,_,rfl,_,rfl,_,rfl,D2,_,rfl,SqL.of hD2',fun l hl=>?_⟩
    rw [cut_takeN,<- List.map_take]
    have s4:=same_new hl (.lst ((zs.take i).map V.str))
    refine ⟨l,_,rfl,.inl (SqL.of upd_same),rfl,flatStrs,_,rfl,?_⟩
    have sp4:=sp.trans s4
    generalize upd H3 l (.lst ((zs.take i).map V.str)) = H4 at s4 sp4 |-
    rw [if_pos rfl,inStrs]
    refine ⟨fun e=>⟨_,rfl,qN _ sp4 ?_⟩,fun e=>qS _ sp4 ?_⟩
    ·show decide (z ∉ zs.take (0 + i)) = true
     rw [Nat.zero_add]
     rw [Bool.not_eq_true',decide_eq_false_iff_not] at e
     exact decide_eq_true e
    ·show decide (z ∉ zs.take (0 + i)) = false
     rw [Nat.zero_add]
     rw [Bool.not_eq_false',decide_eq_true_eq] at e
     exact decide_eq_false fun h=>h e
   ·intro H' sH hDv
    refine key _ _ ⟨D3,rfl,sH,s2.free hD3,?_⟩
    rw [hDv]
    unfold names2
    rw [if_pos h3,hz]
    unfold dedF
    rw [List.map_map]
    rfl
  ·refine dF (fun e=>h3 (V.int.inj e)) ?_
   refine key _ _ ⟨D2,rfl,Same.refl _,hD2,?_⟩
   rw [hD2v]
   unfold names2
   rw [if_neg h3]
 rintro σ3 H3 ⟨D3,rfl,s3,nD3,hD3v⟩
 have ln2:=names2_len more pool span
 refine ⟨_,rfl,_,rfl,D3,rfl,⟨_,SqL.of hD3v⟩,fun D4 hD4=>?_⟩
 generalize hz:names2 more pool span = zs at hD3v ln2
 refine lc_sayse (K:=K) (m:=1) (xs:=zs.map V.str) (fun i=>pairD (zs.getD i "",thingF more (i:Int))) hD4 (SqL.of hD3v) (by rw [List.length_map]; omega) (fun i x p H' Qf Qs hx hp sH qf=>?_) (fun vs H' sH hDv hp=>?_)
 ·obtain ⟨z,hz',rfl⟩:=strs_at hx
  have sp:=same_new hp (.tup [.int (i:Nat),.str z])
  refine ⟨p,_,rfl,SqT.of upd_same,rfl,_,_,rfl,_,_,rfl,rfl,fun _=>?_,fun e=>Bool.noConfusion e⟩
  generalize upd H' p (.tup [.int (i:Nat),.str z]) = H4 at sp |-
  refine ⟨_,rfl,_,rfl,_,rfl,more,_,rfl,b2,(by show 2<=sizeLine; decide),fun u hu=>?_⟩
  have s5:=same_new hu (.tup [.str z,.int (thingF more (i:Nat))])
  refine qf _ _ (sp.trans s5) (.tup (SqT.of upd_same) ?_)
  have ez:zs.getD i "" = z:=by rw [List.getD_eq_getElem?_getD,hz']; rfl
  rw [ez]
  exact .cons .str (.cons .int .nil)
 ·refine ⟨(by show 2<=sizeLine; decide),fun t ht=>?_⟩
  have s5:=same_new ht (.tup [.ref D1,.ref D4])
  have s13:Same H1 H3:=s2.trans s3
  have sA:Same H1 H':=s13.trans sH
  have n14:D1 ≠ D4:=ne_of_none (s13 _ _ hD1v) hD4
  refine q t _ (s1.trans (sA.trans s5)) ⟨D1,D4,vs,hD1,s1.free (s13.free hD4),n14,s1.free (sA.free ht),upd_same,s5 _ _ (sA _ _ hD1v),s5 _ _ hDv,?_⟩
  have e:(anyP more pool span).map pairD = (List.range (zs.map V.str).length).map fun i=>pairD (zs.getD i "",thingF more (i:Int)):=by
   unfold anyP
   rw [hz,List.length_map]
   refine List.ext_getElem? fun i=>?_
   rw [List.getElem?_map,List.getElem?_map,List.getElem?_map,List.getElem?_zipIdx]
   by_cases hi:i < zs.length
   ·rw [List.getElem?_range hi,List.getElem?_eq_getElem hi]
    show some (pairD (zs[i],thingF more ((0 + i:Nat):Int))) = some (pairD (zs.getD i "",_))
    rw [Nat.zero_add,List.getD_eq_getElem?_getD,List.getElem?_eq_getElem hi]
    rfl
   ·rw [List.getElem?_eq_none (by omega),List.getElem?_eq_none (by rw [List.length_range]; omega)]
    rfl
  rw [e]
  exact Paired.imp' (fun _ _ z=>(says_ok (fun _ _ _=>True.intro) z).same s5) hp
end
end K52
namespace L2
open PySem PySem.Spec PyProof.Rows
end L2
namespace K52
open PySem L2 PyProof.Rows
inductive En where
 | one (wd:Str) (n:Nat)
 | many (wd:Str) (ns:List Nat)
 | free
def natI (ns:List Nat):List Int:=ns.map fun (j:Nat)=>(j:Int)
def enD:En->Dt
 | .one wd n=>.tup [.str wd,.int (n:Nat)]
 | .many wd ns=>.tup [.str wd,.lst ((natI ns).map Dt.int)]
 | .free=>.tup [.str "free"]
def EnAt (K:PySem.W.Frag) (ok:Addr->Prop) (H:Hp) (x:V):En->Prop
 | .one wd n=>∃ u,x = .ref u/\SqT K H u [.str wd,.int (n:Nat)]
 | .many wd ns=>∃ u l,x = .ref u/\SqT K H u [.str wd,.ref l]/\ok l/\H l = some (.lst ((natI ns).map V.int))
 | .free=>∃ u,x = .ref u/\SqT K H u [.str "free"]
theorem EnAt.same {K:PySem.W.Frag} {ok:Addr->Prop} {H H':Hp} {x:V} {e:En} (h:EnAt K ok H x e) (s:Same H H'):EnAt K ok H' x e:=by
 cases e with
 | one wd n=>obtain ⟨u,e,h⟩:=h; exact ⟨u,e,s.sqT h⟩
 | many wd ns=>obtain ⟨u,l,e,h,o,hl⟩:=h; exact ⟨u,l,e,s.sqT h,o,s _ _ hl⟩
 | free=>obtain ⟨u,e,h⟩:=h; exact ⟨u,e,s.sqT h⟩
theorem EnAt.weak {K:PySem.W.Frag} {ok ok':Addr->Prop} {H:Hp} {x:V} {e:En} (h:EnAt K ok H x e) (o:∀ a,ok a->ok' a):EnAt K ok' H x e:=by
 cases e with
 | one wd n=>exact h
 | many wd ns=>obtain ⟨u,l,e,h,ol,hl⟩:=h; exact ⟨u,l,e,h,o _ ol,hl⟩
 | free=>exact h
inductive Mv where
 | take (q:Nat) | gather (q:Nat) | fin | door (z:Str) (q:Nat) | bar (z:Str) | names (o:Option Nat) | need (q:Nat) | free (q:Nat)
def mvV:Mv->List V
 | .take q=>[.str "take",.int (q:Nat)]
 | .gather q=>[.str "gather",.int (q:Nat)]
 | .fin=>[.str "end"]
 | .door z q=>[.str "door",.str z,.int (q:Nat)]
 | .bar z=>[.str "bar",.str z]
 | .names none=>[.str "names"]
 | .names (some q)=>[.str "names",.int (q:Nat)]
 | .need q=>[.str "need",.int (q:Nat)]
 | .free q=>[.str "free",.int (q:Nat)]
def MvAt (K:PySem.W.Frag) (H:Hp) (u:Addr) (m:Mv):Prop:=SqT K H u (mvV m)
def MvOk (n:Nat):Mv->Prop
 | .take q=>q < n | .gather q=>q < n | .fin=>True | .door _ q=>q < n | .bar _=>True
 | .names none=>True | .names (some q)=>q < n | .need q=>q < n | .free q=>q < n
def noE (es:List (Option En)) (q:Nat):Bool:=match es[q]? with | some none=>true | _=>false
abbrev Doors:=List (Key × V)
def dShut (d:Doors) (z:Str):Bool:=decide ((valV d (.inr z)).getD .non = V.str "shut")
def vN:V->Nat
 | .int p=>p.toNat
 | _=>0
def thF (d:Doors) (q:Option Nat):Nat->List Str->List (Option En)->List Nat->List Nat->Option (Str × Nat) × List (Option En) × List Nat × List Nat
 | _,[],es,us,gs=>(none,es,us,gs)
 | j,z :: zs,es,us,gs=>
  if j ∈ us then thF d q (j + 1) zs es us gs
  else if dShut d z = true then (some ("barred",j),es,us,gs)
  else match valV d (.inr z) with
   | some v=>if noE es (vN v) = true then thF d q (j + 1) zs (es.set (vN v) (some (.one "name" j))) (us ++ [j]) gs else (some ("again",j),es,us,gs)
   | none=>match q with
    | some b=>if noE es b = true\/gs ≠ [] then thF d q (j + 1) zs (es.set b (some (.many "names" (gs ++ [j])))) (us ++ [j]) (gs ++ [j]) else (some ("strange",j),es,us,gs)
    | none=>(some ("strange",j),es,us,gs)
def thEnd (q:Option Nat) (es:List (Option En)):List (Option En):=match q with
 | some b=>if noE es b = true then es.set b (some (.many "names" [])) else es
 | none=>es
def thAll (d:Doors) (q:Option Nat) (zs:List Str) (es:List (Option En)) (us:List Nat):Option (Str × Nat) × List (Option En) × List Nat:=
 match thF d q 0 zs es us [] with
 | (none,es',us',_)=>(none,thEnd q es',us')
 | (some r,es',us',_)=>(some r,es',us')
def stF:Mv->List (Option En)->List Nat->Option (Str × Nat) × List (Option En) × List Nat
 | .fin,es,l=>match l with | []=>(none,es,l) | x :: _=>(some ("over",x),es,l)
 | .need q,es,l=>if noE es q = true then (some ("lacking",q),es,l) else (none,es,l)
 | .take q,es,l=>if noE es q = true then (match l with | []=>(none,es,l) | x :: xs=>(none,es.set q (some (.one "place" x)),xs)) else (none,es,l)
 | .gather q,es,l=>if noE es q = true then (none,es.set q (some (.many "places" l)),[]) else (none,es,l)
 | .free q,es,l=>if noE es q = true then (none,es.set q (some .free),l) else (none,es,l)
 | _,es,l=>(none,es,l)
def runM:List Mv->List Str->Doors->List (Option En)->List Nat->List Nat->Sum (Str × Nat) (List (Option En))
 | [],_,_,es,_,_=>.inr es
 | m :: ms,zs,d,es,us,l=>match m with
  | .door z q=>if dShut d z = true then runM ms zs d es us l else runM ms zs (putK d (.inr z) (.int (q:Nat))) es us l
  | .bar z=>runM ms zs (putK d (.inr z) (.str "shut")) es us l
  | .names o=>match thAll d o zs es us with
   | (some r,_,_)=>.inl r
   | (none,es',us')=>runM ms zs d es' us' l
  | m=>match stF m es l with
   | (some r,_,_)=>.inl r
   | (none,es',l')=>runM ms zs d es' us l'
def okL (L:List Addr):Addr->Prop:=fun a=>a ∉ L
def EnO (K:PySem.W.Frag) (ok:Addr->Prop) (H:Hp) (x:V):Option En->Prop
 | none=>x = .non
 | some e=>EnAt K ok H x e
theorem EnO.same {K:PySem.W.Frag} {ok:Addr->Prop} {H H':Hp} {x:V} {o:Option En} (h:EnO K ok H x o) (s:Same H H'):EnO K ok H' x o:=by
 cases o with
 | none=>exact h
 | some e=>exact EnAt.same h s
theorem EnO.weak {K:PySem.W.Frag} {ok ok':Addr->Prop} {H:Hp} {x:V} {o:Option En} (h:EnO K ok H x o) (w:∀ a,ok a->ok' a):EnO K ok' H x o:=by
 cases o with
 | none=>exact h
 | some e=>exact EnAt.weak h w
theorem EnO.more {K:PySem.W.Frag} {L:List Addr} {H:Hp} {x:V} {g:Addr} {o:Option En} (h:EnO K (okL L) H x o) (hg:H g = none):EnO K (okL (g :: L)) H x o:=by
 cases o with
 | none=>exact h
 | some e=>
  cases e with
  | one wd n=>exact h
  | many wd ns=>
   obtain ⟨u,l,e,h1,h2,h3⟩:=h
   refine ⟨u,l,e,h1,fun hm=>?_,h3⟩
   rcases List.mem_cons.mp hm with rfl | hm
   ·rw [hg] at h3; cases h3
   ·exact h2 hm
  | free=>exact h
theorem sqT_upd {K:PySem.W.Frag} {H:Hp} {u l:Addr} {vs ys zs:List V} (h:SqT K H u vs) (hl:H l = some (.lst ys)):SqT K (upd H l (.lst zs)) u vs:=by
 rcases h with (h | ⟨o,h⟩) | h
 ·exact .inl (.inl (by rw [upd_ne (fun e=>by rw [e,hl] at h; cases h)]; exact h))
 ·exact .inl (.inr ⟨o,by rw [upd_ne (fun e=>by rw [e,hl] at h; cases h)]; exact h⟩)
 ·exact .inr h
theorem EnO.put {K:PySem.W.Frag} {L:List Addr} {H:Hp} {x:V} {g:Addr} {o:Option En} {ys zs:List V} (h:EnO K (okL L) H x o) (hg:H g = some (.lst ys)) (hL:g ∈ L):EnO K (okL L) (upd H g (.lst zs)) x o:=by
 cases o with
 | none=>exact h
 | some e=>
  cases e with
  | one wd n=>obtain ⟨u,e,h1⟩:=h; exact ⟨u,e,sqT_upd h1 hg⟩
  | many wd ns=>
   obtain ⟨u,l,e,h1,h2,h3⟩:=h
   have nl:l ≠ g:=fun e'=>h2 (by rw [e']; exact hL)
   exact ⟨u,l,e,sqT_upd h1 hg,h2,by rw [upd_ne nl]; exact h3⟩
  | free=>obtain ⟨u,e,h1⟩:=h; exact ⟨u,e,sqT_upd h1 hg⟩
def EsAt (K:PySem.W.Frag) (L:List Addr) (H:Hp) (le:Addr) (es:List (Option En)):Prop:=∃ xs,H le = some (.lst xs)/\Paired (EnO K (okL L) H) xs es
theorem EsAt.same {K:PySem.W.Frag} {L:List Addr} {H H':Hp} {le:Addr} {es:List (Option En)} (h:EsAt K L H le es) (s:Same H H'):EsAt K L H' le es:=by
 obtain ⟨xs,h1,h2⟩:=h
 exact ⟨xs,s _ _ h1,Paired.imp' (fun _ _ z=>EnO.same z s) h2⟩
theorem EsAt.put {K:PySem.W.Frag} {L:List Addr} {H:Hp} {le g:Addr} {es:List (Option En)} {ys zs:List V} (h:EsAt K L H le es) (hg:H g = some (.lst ys)) (hL:g ∈ L) (ne:le ≠ g):EsAt K L (upd H g (.lst zs)) le es:=by
 obtain ⟨xs,h1,h2⟩:=h
 exact ⟨xs,by rw [upd_ne ne]; exact h1,Paired.imp' (fun _ _ z=>EnO.put z hg hL) h2⟩
theorem paired_set {α β : Type} {F : α->β->Prop} {a : α} {b : β} (h:F a b):∀ {l₁:List α} {l₂:List β} (i:Nat),Paired F l₁ l₂->Paired F (l₁.set i a) (l₂.set i b)
 | _,_,_,.nil=>.nil
 | _,_,0,.cons _ t=>.cons h t
 | _,_,i + 1,.cons x t=>.cons x (paired_set h i t)
theorem EsAt.set {K:PySem.W.Frag} {L:List Addr} {H:Hp} {le:Addr} {es:List (Option En)} {xs:List V} {q:Nat} {x:V} {o:Option En} (h1:H le = some (.lst xs)) (h2:Paired (EnO K (okL L) H) xs es) (hx:EnO K (okL L) H x o) (hL:le ∈ L):EsAt K L (upd H le (.lst (xs.set q x))) le (es.set q o):=
 ⟨_,upd_same,paired_set (EnO.put hx h1 hL) q (Paired.imp' (fun _ _ z=>EnO.put z h1 hL) h2)⟩
theorem es_at {K:PySem.W.Frag} {ok:Addr->Prop} {H:Hp} {xs:List V} {es:List (Option En)} (h:Paired (EnO K ok H) xs es) {q:Nat} (hq:q < es.length):∃ x,xs[q]? = some x/\(decide (x = .non) = noE es q):=by
 obtain ⟨x,hx⟩:∃ x,xs[q]? = some x:=⟨_,List.getElem?_eq_getElem (by rw [h.length]; exact hq)⟩
 obtain ⟨o,ho,hE⟩:=Paired.get h hx
 refine ⟨x,hx,?_⟩
 unfold noE
 rw [ho]
 cases o with
 | none=>exact decide_eq_true hE
 | some e=>
  refine decide_eq_false ?_
  rintro rfl
  cases e with
  | one wd n=>obtain ⟨u,e,_⟩:=hE; cases e
  | many wd ns=>obtain ⟨u,l,e,_⟩:=hE; cases e
  | free=>obtain ⟨u,e,_⟩:=hE; cases e
def DOk (n:Nat) (d:Doors):Prop:=∀ k v,valV d k = some v->v = .str "shut"\/∃ p:Nat,v = .int (p:Nat)/\p < n
theorem ixN_nat {n i:Nat} (h:i < n):ixN n (i:Int) = some i:=by
 unfold ixN
 rw [if_pos (by omega),if_pos (by omega)]
 rfl
theorem natI_app (a b:List Nat):natI (a ++ b) = natI a ++ natI b:=by unfold natI; rw [List.map_append]
theorem natI_len (ns:List Nat):(natI ns).length = ns.length:=by unfold natI; rw [List.length_map]
theorem inNatI {i:Nat}:∀ {L:List Nat},inV (.int (i:Nat)) ((natI L).map V.int) = decide (i ∈ L)
 | []=>by simp [inV,natI]
 | y :: ys=>by
  have ih:=inNatI (i:=i) (L:=ys)
  unfold natI inV at ih |-
  rw [List.map_cons,List.map_cons,List.any_cons,ih,Bool.eq_iff_iff]
  simp only [Bool.or_eq_true,decide_eq_true_eq,List.mem_cons]
  refine or_congr_left ?_
  unfold eqV
  constructor
  ·intro h
   have:((y:Nat):Int) = ((i:Nat):Int):=by simpa using h
   omega
  ·rintro rfl
   simp
theorem flatNatI {L:List Nat}:((natI L).map V.int).all flatV = true:=by
 rw [List.all_eq_true]
 intro x hx
 obtain ⟨n,_,rfl⟩:=List.mem_map.mp hx
 rfl
def SX2 (a b:Addr) (H H':Hp):Prop:=∀ c o,H c = some o->c ≠ a->c ≠ b->H' c = some o
theorem SX2.trans {a b:Addr} {H H1 H2:Hp} (x:SX2 a b H H1) (y:SX2 a b H1 H2):SX2 a b H H2:=fun c o e n m=>y c o (x c o e n m) n m
theorem SX2.of {a b:Addr} {H H':Hp} (s:Same H H'):SX2 a b H H':=fun c o e _ _=>s c o e
theorem SX2.refl {a b:Addr} {H:Hp}:SX2 a b H H:=fun _ _ e _ _=>e
theorem SX2.l {a b:Addr} {H H':Hp} {v:HO} (x:SX2 a b H H'):SX2 a b H (upd H' a v):=fun c o e n m=>by rw [upd_ne n]; exact x c o e n m
theorem SX2.r {a b:Addr} {H H':Hp} {v:HO} (x:SX2 a b H H'):SX2 a b H (upd H' b v):=fun c o e n m=>by rw [upd_ne m]; exact x c o e n m
def RsAt (H:Hp) (v:V):Option (Str × Nat)->Prop
 | none=>v = .non
 | some r=>∃ u,v = .ref u/\H u = some (.tup [.str r.1,.int (r.2:Nat)])
def qV:Option Nat->V
 | none=>.non
 | some q=>.int (q:Nat)
def spThrough (K:PySem.W.Frag):Sp:=fun vs H Q _=>∃ (le ln lu ld:Addr) (q:Option Nat) (L:List Addr) (es:List (Option En)) (zs:List Str) (us:List Nat) (d:Doors),vs = [.ref le,.ref ln,.ref lu,.ref ld,qV q]/\EsAt K L H le es/\le ∈ L/\lu ∈ L/\(∀ a ∈ L,∃ o,H a = some o)/\le ≠ lu/\H lu = some (.lst ((natI us).map V.int))/\H ln = some (.lst (zs.map V.str))/\ln ≠ le/\ln ≠ lu/\H ld = some (.dK d)/\DOk es.length d/\(∀ b,q = some b->b < es.length)/\zs.length<=100/\us.length<=800/\
 ∀ (v:V) (H':Hp),SX2 le lu H H'->EsAt K L H' le (thAll d q zs es us).2.1->H' lu = some (.lst ((natI (thAll d q zs es us).2.2).map V.int))->RsAt H' v (thAll d q zs es us).1->Q v H'
theorem thF_len {d:Doors} {q:Option Nat}:∀ (zs:List Str) (j:Nat) (es:List (Option En)) (us gs:List Nat),(thF d q j zs es us gs).2.1.length = es.length
 | [],_,_,_,_=>rfl
 | z :: zs,j,es,us,gs=>by
  unfold thF
  split
  ·exact thF_len zs _ _ _ _
  ·split
   ·rfl
   ·split
    ·split
     ·rw [thF_len zs,List.length_set]
     ·rfl
    ·split
     ·split
      ·rw [thF_len zs,List.length_set]
      ·rfl
     ·rfl
theorem thF_used {d:Doors} {q:Option Nat}:∀ (zs:List Str) (j:Nat) (es:List (Option En)) (us gs:List Nat),(thF d q j zs es us gs).2.2.1.length<=us.length + zs.length
 | [],_,_,_,_=>Nat.le_refl _
 | z :: zs,j,es,us,gs=>by
  unfold thF
  rw [List.length_cons]
  split
  ·have:=thF_used (d:=d) (q:=q) zs (j + 1) es us gs; omega
  ·split
   ·exact Nat.le_add_right _ _
   ·split
    ·split
     ·refine Nat.le_trans (thF_used zs _ _ _ _) ?_
      rw [List.length_append,List.length_singleton]
      omega
     ·exact Nat.le_add_right _ _
    ·split
     ·split
      ·refine Nat.le_trans (thF_used zs _ _ _ _) ?_
       rw [List.length_append,List.length_singleton]
       omega
      ·exact Nat.le_add_right _ _
     ·exact Nat.le_add_right _ _
theorem thAll_used {d:Doors} {q:Option Nat} {zs:List Str} {es:List (Option En)} {us:List Nat}:(thAll d q zs es us).2.2.length<=us.length + zs.length:=by
 have:=thF_used (d:=d) (q:=q) zs 0 es us []
 unfold thAll
 split
 next e=>rw [e] at this; exact this
 next e=>rw [e] at this; exact this
theorem thAll_len {d:Doors} {q:Option Nat} {zs:List Str} {es:List (Option En)} {us:List Nat}:(thAll d q zs es us).2.1.length = es.length:=by
 have:=thF_len (d:=d) (q:=q) zs 0 es us []
 unfold thAll
 split
 next e=>
  rw [e] at this
  show (thEnd q _).length = _
  unfold thEnd
  split
  ·split
   ·rw [List.length_set]; exact this
   ·exact this
  ·exact this
 next e=>rw [e] at this; exact this
theorem dShut_iff {n:Nat} {d:Doors} (h:DOk n d) {z:Str}:dShut d z = false->∀ v,valV d (.inr z) = some v->∃ p:Nat,v = .int (p:Nat)/\p < n:=by
 intro hs v hv
 rcases h _ _ hv with rfl | hp
 ·unfold dShut at hs
  rw [hv] at hs
  exact absurd rfl (of_decide_eq_false hs)
 ·exact hp
section
variable {P:Program} {w:World} {K:PySem.W.Frag} {mg:Str->Option Value} {base:Heap} {f:Addr} {fd:FuncData}
structure TI (K:PySem.W.Frag) (L:List Addr) (H H':Hp) (le lu lg:Addr) (es:List (Option En)) (us gs:List Nat) (d:Doors):Prop where
 x:SX2 le lu H H'
 e:EsAt K (lg :: L) H' le es
 u:H' lu = some (.lst ((natI us).map V.int))
 g:H' lg = some (.lst ((natI gs).map V.int))
 ng:H lg = none
theorem scThrough:FnScope ["_law_entries","_law_names","_law_used","_law_doors","_law_q","_law_gathered","_law_j","_law_name"] ["_law_entries","_law_names","_law_used","_law_doors","_law_q"] (defScope sThrough):=⟨rfl,rfl,rfl,by decide +kernel,rfl,by decide +kernel,by decide +kernel⟩
theorem ok_through (F:Fun K "_law_through" "_law_through" sThrough f fd) (U:TxtL mg):FnOk P w K mg base CX0 1 f fd ["_law_entries","_law_names","_law_used","_law_doors","_law_q"] (spThrough K):=by
 refine F.ok scThrough (fun vs H Q E h=>?_) (fun cdv A outer s H vs Q E hr h=>?_)
 ·obtain ⟨le,ln,lu,ld,q,L,es,zs,us,d,rfl,_⟩:=h
  rfl
 obtain ⟨le,ln,lu,ld,q,L,es,zs,us,d,rfl,hE,leL,luL,hL,neu,hlu,hln,nle,nlu,hld,hD,hq,lz,lus,Qk⟩:=h
 have hU:=hr.units
 have hU0:=hr.units0
 have hu1:=hu_of hr
 refine ⟨_,pss_cons (ps_set (i:=5) scThrough.nd rfl (Or.inl rfl) (pe_lst pa_nil))
  (pss_cons (ps_for PassesOwn.never rfl (pi_enum rfl U.en (ac (pv 1) pa_nil)) (pg_tup rfl (pgs_cons (pg_name (i:=6) scThrough.nd rfl (Or.inl rfl)) (pgs_cons (pg_name (i:=7) scThrough.nd rfl (Or.inl rfl)) pgs_nil)))
   (pss_cons (ps_if (pt_cmpR op_in_seq (pv 6) (pv 2) (by with_unfolding_all rfl)) (pss_one ps_continue) pss_nil)
   (pss_cons (ps_if (pt_cmpR op_eq (pe_dget1 hu1 (pv 3) (pv 7) ⟨rfl,rfl,rfl,rfl⟩) pe_str (nomark _)) (pss_one (ps_ret (pe_tup (ac pe_str (ac (pv 6) pa_nil))))) pss_nil)
   (pss_cons (ps_if (PW.pt (pw_and (pt_cmp (pc_din hu1 (pv 7) (pv 3))) (pw_and1 (pt_cmp (pc_notN (pe_ix ix_list (pv 0) (pe_dget hu1 (pv 3) (pv 7) (fun _ _=>rfl)) (fun _ _=>rfl))))))) (pss_one (ps_ret (pe_tup (ac pe_str (ac (pv 6) pa_nil))))) pss_nil)
   (pss_cons (ps_if (pt_cmp (pc_din hu1 (pv 7) (pv 3))) (pss_one (ps_asg (pe_tup (ac pe_str (ac (pv 6) pa_nil))) (pg_sub (pv 0) (pe_dget hu1 (pv 3) (pv 7) (fun _ _=>rfl)) set_list)))
    (pss_one (ps_if (PW.pt (pw_and (pt_cmp (pc_notN (pv 4))) (pw_and1 (PW.pt (pw_or (pt_cmp (pc_isN (pe_ix ix_list (pv 0) (pv 4) (fun _ _=>rfl)))) (pw_or1 (pt_cmpR (OpR.or (op_neS hU) (op_neLen hU0)) (pv 5) (pe_lst pa_nil) (nomark _))))))))
     (pss_cons (ps_expr (pe_bm PySem.F.plainAttrs_list PySem.F.slot_list_append PySem.F.type_list_append mt_append (pv 5) (ac (pv 6) pa_nil)))
     (pss_one (ps_asg (pe_tup (ac pe_str (ac (cTy call_list_of U.list PyProof.Rows.boot_list (ac (pv 5) pa_nil)) pa_nil))) (pg_sub (pv 0) (pv 4) set_list))))
     (pss_one (ps_ret (pe_tup (ac pe_str (ac (pv 6) pa_nil))))))))
   (pss_one (ps_expr (pe_bm PySem.F.plainAttrs_list PySem.F.slot_list_append PySem.F.type_list_append mt_append (pv 2) (ac (pv 6) pa_nil)))))))))
  (pss_cons (ps_if (PW.pt (pw_and (pt_cmp (pc_notN (pv 4))) (pw_and1 (pt_cmp (pc_isN (pe_ix ix_list (pv 0) (pv 4) (fun _ _=>rfl))))))) (pss_one (ps_asg (pe_tup (ac pe_str (ac (pe_lst pa_nil) pa_nil))) (pg_sub (pv 0) (pv 4) set_list))) pss_nil)
  (pss_one (ps_ret pe_non)))),?_⟩
 obtain ⟨ae,hae⟩:=hL le leL
 have nld:ld ≠ le:=fun e=>by obtain ⟨xs,h1,_⟩:=hE; rw [<- e,hld] at h1; cases h1
 have nldu:ld ≠ lu:=fun e=>by rw [<- e,hld] at hlu; cases hlu
 refine ⟨(by show 0<=sizeLine; decide),fun lg hlg=>?_⟩
 have s1:=same_new hlg (.lst [])
 have g1:upd H lg (.lst []) lg = some (.lst ((natI []).map V.int)):=upd_same
 have nge:lg ≠ le:=fun e=>by rw [e,hae] at hlg; cases hlg
 have ngu:lg ≠ lu:=fun e=>by rw [e,hlu] at hlg; cases hlg
 have T0:TI K L H (upd H lg (.lst [])) le lu lg es us [] d:=by
  refine ⟨SX2.of s1,?_,s1 _ _ hlu,g1,hlg⟩
  obtain ⟨xs,h1,h2⟩:=hE
  exact ⟨xs,s1 _ _ h1,Paired.imp' (fun _ _ z=>(EnO.more z hlg).same s1) h2⟩
 dsimp only [gName]
 generalize upd H lg (.lst []) = H1 at s1 g1 T0 |-
 clear s1 g1 hE hlu
 have back:∀ {H':Hp} {es':List (Option En)},EsAt K (lg :: L) H' le es'->EsAt K L H' le es':=fun {H' es'} h=>by
  obtain ⟨xs,h1,h2⟩:=h
  exact ⟨xs,h1,Paired.imp' (fun _ _ z=>EnO.weak z fun a ha hm=>ha (List.mem_cons_of_mem _ hm)) h2⟩
 have stop:∀ {H':Hp} {es':List (Option En)} {us' gs':List Nat} {wd:Str} {j:Nat},TI K L H H' le lu lg es' us' gs' d->thF d q 0 zs es us [] = (some (wd,j),es',us',gs')->∀ u,H' u = none->Q (.ref u) (upd H' u (.tup [.str wd,.int (j:Nat)])):=fun {H' es' us' gs' wd j} T e u hu=>by
  have s2:=same_new hu (.tup [.str wd,.int (j:Nat)])
  have ea:thAll d q zs es us = (some (wd,j),es',us'):=by unfold thAll; rw [e]
  refine Qk _ _ (T.x.trans (SX2.of s2)) ?_ ?_ ?_
  ·rw [ea]; exact back (T.e.same s2)
  ·rw [ea]; exact s2 _ _ T.u
  ·rw [ea]; exact ⟨u,rfl,upd_same⟩
 have hR0:thF d q 0 zs es us [] = thF d q 0 (zs.drop 0) es us []:=rfl
 have fin0:∀ {es':List (Option En)} {us' gs':List Nat},thF d q 0 zs es us [] = (none,es',us',gs')->thAll d q zs es us = (none,thEnd q es',us'):=fun {es' us' gs'} e=>by unfold thAll; rw [e]
 generalize thF d q 0 zs es us [] = R at stop hR0 fin0
 refine seq_via (fun σ' H'=>∃ (es':List (Option En)) (us' gs':List Nat) (v6 v7:Option V),σ' = [some (.ref le),some (.ref ln),some (.ref lu),some (.ref ld),some (qV q),some (.ref lg),v6,v7]/\TI K L H H' le lu lg es' us' gs' d/\R = (none,es',us',gs')/\es'.length = es.length) ?_ (fun key=>?_)
 rotate_left
 ·refine ⟨_,rfl,ln,rfl,⟨_,SqL.of (T0.x _ _ hln nle nlu)⟩,for_enum (K:=K) (a:=ln) (xs:=zs.map V.str) (fun i σ H'=>∃ (es':List (Option En)) (us' gs':List Nat) (v6 v7:Option V),σ = [some (.ref le),some (.ref ln),some (.ref lu),some (.ref ld),some (qV q),some (.ref lg),v6,v7]/\TI K L H H' le lu lg es' us' gs' d/\R = thF d q i (zs.drop i) es' us' gs'/\es'.length = es.length/\us'.length<=800 + i/\gs'.length<=i) ⟨es,us,[],_,_,rfl,T0,hR0,rfl,by omega,Nat.le_refl _⟩ (fun i σ H' _ ⟨_,_,_,_,_,_,T,_⟩=>SqL.of (T.x _ _ hln nle nlu)) ?_ ?_⟩
  ·rintro i x tn σ H2 hx ⟨es',us',gs',v6,v7,rfl,T,eF,lE,lU,lG⟩ htn
   obtain ⟨z,hz,rfl⟩:=strs_at hx
   have hi:i < zs.length:=(List.getElem?_eq_some_iff.mp hz).1
   have ed:zs.drop i = z :: zs.drop (i + 1):=by
    rw [List.drop_eq_getElem_cons hi]
    congr 1
    exact (List.getElem?_eq_some_iff.mp hz).2
   rw [ed] at eF
   have sp:=same_new htn (.tup [.int (i:Nat),.str z])
   refine ⟨tn,_,rfl,SqT.of upd_same,rfl,_,_,rfl,_,_,rfl,rfl,?_⟩
   have T:TI K L H (upd H2 tn (.tup [.int (i:Nat),.str z])) le lu lg es' us' gs' d:=⟨T.x.trans (SX2.of sp),T.e.same sp,sp _ _ T.u,sp _ _ T.g,T.ng⟩
   generalize upd H2 tn (.tup [.int (i:Nat),.str z]) = H3 at sp T |-
   have hld3:H3 ld = some (.dK d):=T.x _ _ hld nld nldu
   have dg:DGet H3 ld (.str z) (valV d (.inr z)):=DGet.k (k:=.inr z) hld3
   unfold thF at eF
   refine ⟨_,rfl,_,rfl,lu,_,rfl,.inl (SqL.of T.u),rfl,flatNatI,_,rfl,?_⟩
   rw [if_neg Bool.false_ne_true,inNatI]
   by_cases hu:i ∈ us'
   ·rw [if_pos hu] at eF
    refine dT hu ?_
    exact ⟨es',us',gs',_,_,rfl,T,eF,lE,by omega,by omega⟩
   rw [if_neg hu] at eF
   refine dF hu ?_
   refine ⟨_,rfl,ld,rfl,.inl ⟨d,.inl hld3⟩,_,rfl,_,dg,?_,_,rfl,?_⟩
   ·cases hv:valV d (.inr z) with
    | none=>rfl
    | some v=>
     rcases hD _ _ hv with rfl | ⟨p,rfl,_⟩
     ·rfl
     ·rfl
   by_cases hs:dShut d z = true
   ·rw [if_pos hs] at eF
    refine dT (of_decide_eq_true hs) ?_
    exact ⟨_,rfl,(by show 2<=sizeLine; decide),stop T eF⟩
   have hs:dShut d z = false:=by simpa using hs
   rw [hs,if_neg Bool.false_ne_true] at eF
   refine dF (of_decide_eq_false hs) ?_
   obtain ⟨xs,hxs,hps⟩:=T.e
   refine ⟨_,rfl,_,rfl,ld,_,rfl,dg,_,rfl,?_⟩
   cases hv:valV d (.inr z) with
   | some v=>
    obtain ⟨p,rfl,hp⟩:=dShut_iff hD hs v hv
    rw [hv] at eF dg
    have eF:R = if noE es' p = true then thF d q (i + 1) (zs.drop (i + 1)) (es'.set p (some (.one "name" i))) (us' ++ [i]) gs' else (some ("again",i),es',us',gs'):=by
     have:vN (.int (p:Nat)) = p:=by show ((p:Nat):Int).toNat = p; omega
     rw [<- this]; exact eF
    obtain ⟨x,hx',hxn⟩:=es_at hps (q:=p) (by omega)
    refine iteT ?_
    refine ⟨_,rfl,_,rfl,_,rfl,ld,_,rfl,dg,le,_,_,x,rfl,rfl,SqL.of hxs,atI_nat hx',_,rfl,?_⟩
    by_cases hn:noE es' p = true
    ·rw [if_pos hn] at eF
     refine iteC (by rw [hxn,hn]; rfl) ?_
     refine ⟨_,rfl,_,rfl,ld,_,rfl,dg,_,rfl,?_⟩
     refine iteT ?_
     refine ⟨_,rfl,(by show 2<=sizeLine; decide),fun u hu'=>?_⟩
     have s4:=same_new hu' (.tup [.str "name",.int (i:Nat)])
     have e4:EnO K (okL (lg :: L)) (upd H3 u (.tup [.str "name",.int (i:Nat)])) (.ref u) (some (.one "name" i)):=⟨u,rfl,SqT.of upd_same⟩
     have T4x:=T.x.trans (SX2.of (a:=le) (b:=lu) s4)
     have hxs4:=s4 _ _ hxs
     have hps4:=Paired.imp' (fun _ _ z=>EnO.same z s4) hps
     have u4:=s4 _ _ T.u
     have g4:=s4 _ _ T.g
     have dg4:DGet (upd H3 u (.tup [.str "name",.int (i:Nat)])) ld (.str z) (some (.int (p:Nat))):=by
      have:=DGet.k (k:=.inr z) (s4 _ _ hld3)
      rw [hv] at this
      exact this
     generalize upd H3 u (.tup [.str "name",.int (i:Nat)]) = H4 at s4 e4 T4x hxs4 hps4 u4 g4 dg4 |-
     refine ⟨_,rfl,_,rfl,_,rfl,ld,_,rfl,dg4,le,xs,_,p,rfl,rfl,hxs4,ixN_nat (by rw [hps.length]; omega),?_⟩
     have T5:TI K L H (upd H4 le (.lst (xs.set p (.ref u)))) le lu lg (es'.set p (some (.one "name" i))) us' gs' d:=⟨T4x.l,EsAt.set hxs4 hps4 e4 (List.mem_cons_of_mem _ leL),by rw [upd_ne (Ne.symm neu)]; exact u4,by rw [upd_ne nge]; exact g4,T.ng⟩
     generalize upd H4 le (.lst (xs.set p (.ref u))) = H5 at T5 |-
     refine ⟨_,rfl,.inl ⟨rfl,_,SqL.of T5.u⟩,_,rfl,lu,_,_,rfl,rfl,T5.u,small1000 (by rw [List.length_map,natI_len]; omega),?_⟩
     refine ⟨_,us' ++ [i],gs',_,_,rfl,⟨T5.x.r,EsAt.put T5.e T5.u (List.mem_cons_of_mem _ luL) neu,by rw [upd_same,natI_app,List.map_append]; rfl,by rw [upd_ne ngu]; exact T5.g,T5.ng⟩,eF,by rw [List.length_set]; exact lE,by rw [List.length_append,List.length_singleton]; omega,by omega⟩
    ·rw [if_neg hn] at eF
     refine iteB (by rw [hxn]; simpa using hn) ?_
     exact ⟨_,rfl,(by show 2<=sizeLine; decide),stop T eF⟩
   | none=>
    rw [hv] at eF dg
    refine iteF ?_
    refine ⟨_,rfl,_,rfl,ld,_,rfl,dg,_,rfl,?_⟩
    refine iteF ?_
    refine ⟨_,rfl,_,rfl,?_⟩
    cases hq':q with
    | none=>
     rw [hq'] at eF
     refine iteF ?_
     refine iteF ?_
     exact ⟨_,rfl,(by show 2<=sizeLine; decide),stop T eF⟩
    | some b=>
     have hb:=hq b hq'
     obtain ⟨x,hx',hxn⟩:=es_at hps (q:=b) (by omega)
     refine iteT ?_
     refine ⟨_,rfl,_,rfl,le,_,_,x,rfl,rfl,SqL.of hxs,atI_nat hx',_,rfl,?_⟩
     have eF':R = if noE es' b = true\/gs' ≠ [] then thF d q (i + 1) (zs.drop (i + 1)) (es'.set b (some (.many "names" (gs' ++ [i])))) (us' ++ [i]) (gs' ++ [i]) else (some ("strange",i),es',us',gs'):=by
      rw [hq'] at eF |-; exact eF
     by_cases hn:noE es' b = true
     ·rw [if_pos (.inl hn)] at eF'
      refine iteB (by rw [hxn]; exact hn) ?_
      refine iteT ?_
      refine ⟨_,rfl,.inl ⟨rfl,_,SqL.of T.g⟩,_,rfl,lg,_,_,rfl,rfl,T.g,small1000 (by rw [List.length_map,natI_len]; omega),?_⟩
      have Tg:TI K L H (upd H3 lg (.lst ((natI gs').map V.int ++ [.int (i:Nat)]))) le lu lg es' us' (gs' ++ [i]) d:=⟨fun c o e n m=>by rw [upd_ne (ne_of_none e T.ng)]; exact T.x c o e n m,EsAt.put T.e T.g List.mem_cons_self (Ne.symm nge),by rw [upd_ne (Ne.symm ngu)]; exact T.u,by rw [upd_same,natI_app,List.map_append]; rfl,T.ng⟩
      generalize upd H3 lg (.lst ((natI gs').map V.int ++ [.int (i:Nat)])) = H8 at Tg |-
      refine ⟨_,rfl,lg,_,rfl,.inl (SqL.of Tg.g),fun l9 hl9=>?_⟩
      have s9:=same_new hl9 (.lst ((natI (gs' ++ [i])).map V.int))
      have e9:upd H8 l9 (.lst ((natI (gs' ++ [i])).map V.int)) l9 = some (.lst ((natI (gs' ++ [i])).map V.int)):=upd_same
      have n9:okL (lg :: L) l9:=fun hm=>by
       rcases List.mem_cons.mp hm with rfl | hm
       ·rw [Tg.g] at hl9; cases hl9
       ·obtain ⟨o,ho⟩:=hL l9 hm
        by_cases h1:l9 = le
        ·obtain ⟨xs9,h9,_⟩:=Tg.e; rw [h1,h9] at hl9; cases hl9
        ·by_cases h2:l9 = lu
         ·rw [h2,Tg.u] at hl9; cases hl9
         ·rw [Tg.x _ _ ho h1 h2] at hl9; cases hl9
      have T9:TI K L H (upd H8 l9 (.lst ((natI (gs' ++ [i])).map V.int))) le lu lg es' us' (gs' ++ [i]) d:=⟨Tg.x.trans (SX2.of s9),Tg.e.same s9,s9 _ _ Tg.u,s9 _ _ Tg.g,Tg.ng⟩
      generalize upd H8 l9 (.lst ((natI (gs' ++ [i])).map V.int)) = H9 at s9 e9 T9 |-
      refine ⟨(by show 2<=sizeLine; decide),fun u hu'=>?_⟩
      have s10:=same_new hu' (.tup [.str "names",.ref l9])
      have e10:EnO K (okL (lg :: L)) (upd H9 u (.tup [.str "names",.ref l9])) (.ref u) (some (.many "names" (gs' ++ [i]))):=⟨u,l9,rfl,SqT.of upd_same,n9,s10 _ _ e9⟩
      have T10:TI K L H (upd H9 u (.tup [.str "names",.ref l9])) le lu lg es' us' (gs' ++ [i]) d:=⟨T9.x.trans (SX2.of s10),T9.e.same s10,s10 _ _ T9.u,s10 _ _ T9.g,T9.ng⟩
      generalize upd H9 u (.tup [.str "names",.ref l9]) = H10 at s10 e10 T10 |-
      obtain ⟨xs10,hxs10,hps10⟩:=T10.e
      refine ⟨_,rfl,_,rfl,le,xs10,_,b,rfl,rfl,hxs10,ixN_nat (by rw [hps10.length]; omega),?_⟩
      have T11:TI K L H (upd H10 le (.lst (xs10.set b (.ref u)))) le lu lg (es'.set b (some (.many "names" (gs' ++ [i])))) us' (gs' ++ [i]) d:=⟨T10.x.l,EsAt.set hxs10 hps10 e10 (List.mem_cons_of_mem _ leL),by rw [upd_ne (Ne.symm neu)]; exact T10.u,by rw [upd_ne nge]; exact T10.g,T10.ng⟩
      generalize upd H10 le (.lst (xs10.set b (.ref u))) = H11 at T11 |-
      refine ⟨_,rfl,.inl ⟨rfl,_,SqL.of T11.u⟩,_,rfl,lu,_,_,rfl,rfl,T11.u,small1000 (by rw [List.length_map,natI_len]; omega),?_⟩
      exact ⟨_,us' ++ [i],gs' ++ [i],_,_,rfl,⟨T11.x.r,EsAt.put T11.e T11.u (List.mem_cons_of_mem _ luL) neu,by rw [upd_same,natI_app,List.map_append]; rfl,by rw [upd_ne ngu]; exact T11.g,T11.ng⟩,(by rw [hq'] at eF'; exact eF'),by rw [List.length_set]; exact lE,by rw [List.length_append,List.length_singleton]; omega,by rw [List.length_append,List.length_singleton]; omega⟩
     ·refine iteC (by rw [hxn]; simpa using hn) ?_
      refine ⟨_,rfl,(by show 0<=sizeLine; decide),fun l0 hl0=>?_⟩
      have s7:=same_new hl0 (.lst [])
      by_cases hg:gs' = []
      ·rw [if_neg (by rintro (h | h); exact hn h; exact h hg)] at eF'
       subst hg
       refine .inl ⟨lg,l0,0,.lst [],fun _=>True,fun _=>True,rfl,rfl,by decide,.lst True.intro (s7 _ _ T.g) .nil,.lst True.intro upd_same .nil,_,rfl,?_⟩
       refine iteF ?_
       exact ⟨_,rfl,(by show 2<=sizeLine; decide),stop ⟨T.x.trans (SX2.of s7),T.e.same s7,s7 _ _ T.u,s7 _ _ T.g,T.ng⟩ eF'⟩
      ·rw [if_pos (.inr hg)] at eF'
       refine .inr ⟨lg,l0,_,_,rfl,rfl,s7 _ _ T.g,upd_same,by rw [List.length_map,natI_len]; simpa using hg,_,rfl,?_⟩
       refine iteT ?_
       have T7:TI K L H (upd H3 l0 (.lst [])) le lu lg es' us' gs' d:=⟨T.x.trans (SX2.of s7),T.e.same s7,s7 _ _ T.u,s7 _ _ T.g,T.ng⟩
       generalize upd H3 l0 (.lst []) = H7 at s7 T7 |-
       refine ⟨_,rfl,.inl ⟨rfl,_,SqL.of T7.g⟩,_,rfl,lg,_,_,rfl,rfl,T7.g,small1000 (by rw [List.length_map,natI_len]; omega),?_⟩
       have Tg:TI K L H (upd H7 lg (.lst ((natI gs').map V.int ++ [.int (i:Nat)]))) le lu lg es' us' (gs' ++ [i]) d:=⟨fun c o e n m=>by rw [upd_ne (ne_of_none e T7.ng)]; exact T7.x c o e n m,EsAt.put T7.e T7.g List.mem_cons_self (Ne.symm nge),by rw [upd_ne (Ne.symm ngu)]; exact T7.u,by rw [upd_same,natI_app,List.map_append]; rfl,T7.ng⟩
       generalize upd H7 lg (.lst ((natI gs').map V.int ++ [.int (i:Nat)])) = H8 at Tg |-
       refine ⟨_,rfl,lg,_,rfl,.inl (SqL.of Tg.g),fun l9 hl9=>?_⟩
       have s9:=same_new hl9 (.lst ((natI (gs' ++ [i])).map V.int))
       have e9:upd H8 l9 (.lst ((natI (gs' ++ [i])).map V.int)) l9 = some (.lst ((natI (gs' ++ [i])).map V.int)):=upd_same
       have n9:okL (lg :: L) l9:=fun hm=>by
        rcases List.mem_cons.mp hm with rfl | hm
        ·rw [Tg.g] at hl9; cases hl9
        ·obtain ⟨o,ho⟩:=hL l9 hm
         by_cases h1:l9 = le
         ·obtain ⟨xs9,h9,_⟩:=Tg.e; rw [h1,h9] at hl9; cases hl9
         ·by_cases h2:l9 = lu
          ·rw [h2,Tg.u] at hl9; cases hl9
          ·rw [Tg.x _ _ ho h1 h2] at hl9; cases hl9
       have T9:TI K L H (upd H8 l9 (.lst ((natI (gs' ++ [i])).map V.int))) le lu lg es' us' (gs' ++ [i]) d:=⟨Tg.x.trans (SX2.of s9),Tg.e.same s9,s9 _ _ Tg.u,s9 _ _ Tg.g,Tg.ng⟩
       generalize upd H8 l9 (.lst ((natI (gs' ++ [i])).map V.int)) = H9 at s9 e9 T9 |-
       refine ⟨(by show 2<=sizeLine; decide),fun u hu'=>?_⟩
       have s10:=same_new hu' (.tup [.str "names",.ref l9])
       have e10:EnO K (okL (lg :: L)) (upd H9 u (.tup [.str "names",.ref l9])) (.ref u) (some (.many "names" (gs' ++ [i]))):=⟨u,l9,rfl,SqT.of upd_same,n9,s10 _ _ e9⟩
       have T10:TI K L H (upd H9 u (.tup [.str "names",.ref l9])) le lu lg es' us' (gs' ++ [i]) d:=⟨T9.x.trans (SX2.of s10),T9.e.same s10,s10 _ _ T9.u,s10 _ _ T9.g,T9.ng⟩
       generalize upd H9 u (.tup [.str "names",.ref l9]) = H10 at s10 e10 T10 |-
       obtain ⟨xs10,hxs10,hps10⟩:=T10.e
       refine ⟨_,rfl,_,rfl,le,xs10,_,b,rfl,rfl,hxs10,ixN_nat (by rw [hps10.length]; omega),?_⟩
       have T11:TI K L H (upd H10 le (.lst (xs10.set b (.ref u)))) le lu lg (es'.set b (some (.many "names" (gs' ++ [i])))) us' (gs' ++ [i]) d:=⟨T10.x.l,EsAt.set hxs10 hps10 e10 (List.mem_cons_of_mem _ leL),by rw [upd_ne (Ne.symm neu)]; exact T10.u,by rw [upd_ne nge]; exact T10.g,T10.ng⟩
       generalize upd H10 le (.lst (xs10.set b (.ref u))) = H11 at T11 |-
       refine ⟨_,rfl,.inl ⟨rfl,_,SqL.of T11.u⟩,_,rfl,lu,_,_,rfl,rfl,T11.u,small1000 (by rw [List.length_map,natI_len]; omega),?_⟩
       exact ⟨_,us' ++ [i],gs' ++ [i],_,_,rfl,⟨T11.x.r,EsAt.put T11.e T11.u (List.mem_cons_of_mem _ luL) neu,by rw [upd_same,natI_app,List.map_append]; rfl,by rw [upd_ne ngu]; exact T11.g,T11.ng⟩,(by rw [hq'] at eF'; exact eF'),by rw [List.length_set]; exact lE,by rw [List.length_append,List.length_singleton]; omega,by rw [List.length_append,List.length_singleton]; omega⟩
  ·rintro σ H2 ⟨es',us',gs',v6,v7,rfl,T,eF,lE,lU,lG⟩
   rw [List.length_map,List.drop_length] at eF
   exact key _ _ ⟨es',us',gs',_,_,rfl,T,eF,lE⟩
 rintro σ2 H2 ⟨es',us',gs',v6,v7,rfl,T,eF,lE⟩
 have ea:=fin0 eF
 refine ⟨_,rfl,_,rfl,?_⟩
 cases hq':q with
 | none=>
  refine iteF ?_
  refine iteF ?_
  refine Qk _ _ T.x ?_ ?_ ?_
  ·rw [ea,hq']; exact back T.e
  ·rw [ea]; exact T.u
  ·rw [ea]; exact rfl
 | some b=>
  have hb:=hq b hq'
  obtain ⟨xs,hxs,hps⟩:=T.e
  obtain ⟨x,hx',hxn⟩:=es_at hps (q:=b) (by omega)
  refine iteT ?_
  refine ⟨_,rfl,_,rfl,le,_,_,x,rfl,rfl,SqL.of hxs,atI_nat hx',_,rfl,?_⟩
  by_cases hn:noE es' b = true
  ·refine iteB (by rw [hxn]; exact hn) ?_
   refine ⟨(by show 0<=sizeLine; decide),fun l9 hl9=>?_⟩
   have s9:=same_new hl9 (.lst [])
   have e9:upd H2 l9 (.lst []) l9 = some (.lst ((natI []).map V.int)):=upd_same
   have n9:okL (lg :: L) l9:=fun hm=>by
    rcases List.mem_cons.mp hm with rfl | hm
    ·rw [T.g] at hl9; cases hl9
    ·obtain ⟨o,ho⟩:=hL l9 hm
     by_cases h1:l9 = le
     ·rw [h1,hxs] at hl9; cases hl9
     ·by_cases h2:l9 = lu
      ·rw [h2,T.u] at hl9; cases hl9
      ·rw [T.x _ _ ho h1 h2] at hl9; cases hl9
   have hxs9:=s9 _ _ hxs
   have hps9:=Paired.imp' (fun _ _ z=>EnO.same z s9) hps
   have u9:=s9 _ _ T.u
   have x9:=T.x.trans (SX2.of (a:=le) (b:=lu) s9)
   generalize upd H2 l9 (.lst []) = H9 at s9 e9 hxs9 hps9 u9 x9 |-
   refine ⟨(by show 2<=sizeLine; decide),fun u hu'=>?_⟩
   have s10:=same_new hu' (.tup [.str "names",.ref l9])
   have e10:EnO K (okL (lg :: L)) (upd H9 u (.tup [.str "names",.ref l9])) (.ref u) (some (.many "names" [])):=⟨u,l9,rfl,SqT.of upd_same,n9,s10 _ _ e9⟩
   have hxs10:=s10 _ _ hxs9
   have hps10:=Paired.imp' (fun _ _ z=>EnO.same z s10) hps9
   have u10:=s10 _ _ u9
   have x10:=x9.trans (SX2.of (a:=le) (b:=lu) s10)
   generalize upd H9 u (.tup [.str "names",.ref l9]) = H10 at s10 e10 hxs10 hps10 u10 x10 |-
   refine ⟨_,rfl,_,rfl,le,xs,_,b,rfl,rfl,hxs10,ixN_nat (by rw [hps.length]; omega),?_⟩
   refine Qk _ _ x10.l ?_ ?_ ?_
   ·rw [ea,hq']
    show EsAt K L _ le (if noE es' b = true then es'.set b (some (.many "names" [])) else es')
    rw [if_pos hn]
    exact back (EsAt.set hxs10 hps10 e10 (List.mem_cons_of_mem _ leL))
   ·rw [ea,upd_ne (Ne.symm neu)]; exact u10
   ·rw [ea]; exact rfl
  ·refine iteC (by rw [hxn]; simpa using hn) ?_
   refine Qk _ _ T.x ?_ ?_ ?_
   ·rw [ea,hq']
    show EsAt K L _ le (if noE es' b = true then es'.set b (some (.many "names" [])) else es')
    rw [if_neg hn]
    exact back ⟨xs,hxs,hps⟩
   ·rw [ea]; exact T.u
   ·rw [ea]; exact rfl
end
def isStep:Mv->Prop
 | .fin=>True | .need _=>True | .take _=>True | .gather _=>True | .free _=>True | _=>False
def mvW:Mv->Str
 | .take _=>"take" | .gather _=>"gather" | .fin=>"end" | .door _ _=>"door" | .bar _=>"bar" | .names _=>"names" | .need _=>"need" | .free _=>"free"
theorem mv_0 (m:Mv):atI (mvV m) 0 = some (.str (mvW m)):=by
 cases m <;> try rfl
 rename_i o; cases o <;> rfl
theorem neqS {a b:Str} (h:a ≠ b):¬ (V.str a = V.str b):=fun e=>h (V.str.inj e)
theorem mv_l:∀ m:Mv,∃ v,atI (mvV m) (-1) = some v:=by
 intro m
 cases m <;> try exact ⟨_,rfl⟩
 rename_i o; cases o <;> exact ⟨_,rfl⟩
def spStep (K:PySem.W.Frag):Sp:=fun vs H Q _=>∃ (le um ll:Addr) (m:Mv) (L:List Addr) (es:List (Option En)) (l:List Nat),vs = [.ref le,.ref um,.ref ll]/\MvAt K H um m/\isStep m/\MvOk es.length m/\EsAt K L H le es/\le ∈ L/\ll ∈ L/\(∀ a ∈ L,∃ o,H a = some o)/\le ≠ ll/\H ll = some (.lst ((natI l).map V.int))/\l.length<=100/\
 ∀ (v:V) (H':Hp),SX2 le ll H H'->EsAt K L H' le (stF m es l).2.1->H' ll = some (.lst ((natI (stF m es l).2.2).map V.int))->RsAt H' v (stF m es l).1->Q v H'
section
variable {P:Program} {w:World} {K:PySem.W.Frag} {mg:Str->Option Value} {base:Heap} {f:Addr} {fd:FuncData}
theorem scStep:FnScope ["_law_entries","_law_move_here","_law_left","_law_q"] ["_law_entries","_law_move_here","_law_left"] (defScope sStep):=⟨rfl,rfl,rfl,by decide +kernel,rfl,by decide +kernel,by decide +kernel⟩
theorem ok_step (F:Fun K "_law_step" "_law_step" sStep f fd) (U:TxtL mg):FnOk P w K mg base CX0 1 f fd ["_law_entries","_law_move_here","_law_left"] (spStep K):=by
 refine F.ok scStep (fun vs H Q E h=>?_) (fun cdv A outer s H vs Q E hr h=>?_)
 ·obtain ⟨le,um,ll,m,L,es,l,rfl,_⟩:=h
  rfl
 obtain ⟨le,um,ll,m,L,es,l,rfl,hm,hst,hmo,hE,leL,llL,hL,nel,hll,lll,Qk⟩:=h
 have hU:=hr.units
 have hU0:=hr.units0
 refine ⟨_,pss_cons (ps_set (i:=3) scStep.nd rfl (Or.inl rfl) (pe_ix ix_tup (pv 1) (pe_un un_neg pe_int) (fun _ _=>rfl)))
  (pss_cons (ps_if (PW.pt (pw_and (pt_cmpR op_eq (pe_ix ix_tup (pv 1) pe_int (fun _ _=>rfl)) pe_str (nomark _)) (pw_and1 (pt_cmpR (OpR.or (op_neS hU) (op_neLen hU0)) (pv 2) (pe_lst pa_nil) (nomark _))))) (pss_one (ps_ret (pe_tup (ac pe_str (ac (pe_ix ix_list (pv 2) pe_int (fun _ _=>rfl)) pa_nil))))) pss_nil)
  (pss_cons (ps_if (PW.pt (pw_and (pt_cmpR op_eq (pe_ix ix_tup (pv 1) pe_int (fun _ _=>rfl)) pe_str (nomark _)) (pw_and1 (pt_cmp (pc_isN (pe_ix ix_list (pv 0) (pv 3) (fun _ _=>rfl))))))) (pss_one (ps_ret (pe_tup (ac pe_str (ac (pv 3) pa_nil))))) pss_nil)
  (pss_cons (ps_if (PW.pt (pw_and (pt_cmpR op_eq (pe_ix ix_tup (pv 1) pe_int (fun _ _=>rfl)) pe_str (nomark _)) (pw_and (pt_cmp (pc_isN (pe_ix ix_list (pv 0) (pv 3) (fun _ _=>rfl)))) (pw_and1 (pt_cmpR (OpR.or (op_neS hU) (op_neLen hU0)) (pv 2) (pe_lst pa_nil) (nomark _)))))) (pss_one (ps_asg (pe_tup (ac pe_str (ac (pe_bm PySem.F.plainAttrs_list PySem.F.slot_list_pop PySem.F.type_list_pop mt_popAt (pv 2) (ac pe_int pa_nil)) pa_nil))) (pg_sub (pv 0) (pv 3) set_list))) pss_nil)
  (pss_cons (ps_if (PW.pt (pw_and (pt_cmpR op_eq (pe_ix ix_tup (pv 1) pe_int (fun _ _=>rfl)) pe_str (nomark _)) (pw_and1 (pt_cmp (pc_isN (pe_ix ix_list (pv 0) (pv 3) (fun _ _=>rfl))))))) (pss_cons (ps_asg (pe_tup (ac pe_str (ac (cTy call_list_of U.list PyProof.Rows.boot_list (ac (pv 2) pa_nil)) pa_nil))) (pg_sub (pv 0) (pv 3) set_list)) (pss_one (ps_expr (pe_bm0 PySem.F.plainAttrs_list PySem.F.slot_list_clear PySem.F.type_list_clear mt_clear (pv 2))))) pss_nil)
  (pss_cons (ps_if (PW.pt (pw_and (pt_cmpR op_eq (pe_ix ix_tup (pv 1) pe_int (fun _ _=>rfl)) pe_str (nomark _)) (pw_and1 (pt_cmp (pc_isN (pe_ix ix_list (pv 0) (pv 3) (fun _ _=>rfl))))))) (pss_one (ps_asg (pe_tup (ac pe_str pa_nil)) (pg_sub (pv 0) (pv 3) set_list))) pss_nil)
  (pss_one (ps_ret pe_non))))))),?_⟩
 have hmT:SqT K H um (mvV m):=hm
 obtain ⟨xs,hxs,hps⟩:=id hE
 have mv0:=mv_0 m
 obtain ⟨vl,hvl⟩:=mv_l m
 refine ⟨_,rfl,_,rfl,um,_,_,vl,rfl,rfl,hmT,hvl,?_⟩
 have freshL:∀ {H':Hp},SX2 le ll H H'->(∃ o,H' le = some o)->(∃ o,H' ll = some o)->∀ {a:Addr},H' a = none->okL L a:=fun {H'} x h1 h2 {a} ha hm=>by
  obtain ⟨o,ho⟩:=hL a hm
  by_cases e1:a = le
  ·obtain ⟨o,h1⟩:=h1; rw [e1,h1] at ha; cases ha
  ·by_cases e2:a = ll
   ·obtain ⟨o,h2⟩:=h2; rw [e2,h2] at ha; cases ha
   ·rw [x _ _ ho e1 e2] at ha; cases ha
 have done:∀ {H':Hp},SX2 le ll H H'->EsAt K L H' le (stF m es l).2.1->H' ll = some (.lst ((natI (stF m es l).2.2).map V.int))->(stF m es l).1 = none->Q .non H':=fun x e1 e2 e3=>Qk _ _ x e1 e2 (by rw [e3]; exact rfl)
 cases m with
 | door z q=>exact hst.elim
 | bar z=>exact hst.elim
 | names o=>exact hst.elim
 | fin=>
  refine ⟨_,rfl,um,_,0,_,rfl,rfl,hmT,mv0,rfl,_,rfl,?_⟩
  refine dT rfl ?_
  refine ⟨_,rfl,(by show 0<=sizeLine; decide),fun l0 hl0=>?_⟩
  have s1:=same_new hl0 (.lst [])
  cases l with
  | nil=>
   refine .inl ⟨ll,l0,0,.lst [],fun _=>True,fun _=>True,rfl,rfl,by decide,.lst True.intro (s1 _ _ hll) .nil,.lst True.intro upd_same .nil,_,rfl,?_⟩
   refine iteF ?_
   have hm1:=s1.sqT hmT
   have e1:=hE.same s1
   have l1:=s1 _ _ hll
   generalize upd H l0 (.lst []) = H1 at s1 hm1 e1 l1 |-
   refine ⟨_,rfl,um,_,0,_,rfl,rfl,hm1,mv0,rfl,_,rfl,?_⟩
   refine dF (neqS (by decide +kernel)) ?_
   refine iteF ?_
   refine ⟨_,rfl,um,_,0,_,rfl,rfl,hm1,mv0,rfl,_,rfl,?_⟩
   refine dF (neqS (by decide +kernel)) ?_
   refine iteF ?_
   refine ⟨_,rfl,um,_,0,_,rfl,rfl,hm1,mv0,rfl,_,rfl,?_⟩
   refine dF (neqS (by decide +kernel)) ?_
   refine iteF ?_
   refine ⟨_,rfl,um,_,0,_,rfl,rfl,hm1,mv0,rfl,_,rfl,?_⟩
   refine dF (neqS (by decide +kernel)) ?_
   refine iteF ?_
   exact done (SX2.of s1) e1 l1 rfl
  | cons y ys=>
   refine .inr ⟨ll,l0,_,_,rfl,rfl,s1 _ _ hll,upd_same,by rw [List.length_map,natI_len]; exact Nat.succ_ne_zero _,_,rfl,?_⟩
   refine iteT ?_
   refine ⟨_,rfl,ll,_,0,.int (y:Nat),rfl,rfl,SqL.of (s1 _ _ hll),atI_nat (j:=0) rfl,(by show 2<=sizeLine; decide),fun u hu=>?_⟩
   have s2:=same_new hu (.tup [.str "over",.int (y:Nat)])
   have s12:=s1.trans s2
   exact Qk _ _ (SX2.of s12) (hE.same s12) (s12 _ _ hll) ⟨u,rfl,upd_same⟩
 | need q=>
  cases hvl
  have mv0:atI (mvV (.need q)) 0 = some (.str "need"):=mv0
  have hq:q < es.length:=hmo
  obtain ⟨x,hx',hxn⟩:=es_at hps hq
  refine ⟨_,rfl,um,_,0,_,rfl,rfl,hmT,mv0,rfl,_,rfl,?_⟩
  refine dF (neqS (by decide +kernel)) ?_
  refine iteF ?_
  refine ⟨_,rfl,um,_,0,_,rfl,rfl,hmT,mv0,rfl,_,rfl,?_⟩
  refine dT rfl ?_
  refine ⟨_,rfl,_,rfl,le,_,_,x,rfl,rfl,SqL.of hxs,atI_nat hx',_,rfl,?_⟩
  by_cases hn:noE es q = true
  ·have ef:stF (.need q) es l = (some (("lacking" : Str),q),es,l):=if_pos hn
   rw [ef] at Qk
   refine iteB (by rw [hxn]; exact hn) ?_
   refine ⟨_,rfl,(by show 2<=sizeLine; decide),fun u hu=>?_⟩
   have s2:=same_new hu (.tup [.str "lacking",.int (q:Nat)])
   exact Qk _ _ (SX2.of s2) (hE.same s2) (s2 _ _ hll) ⟨u,rfl,upd_same⟩
  ·have ef:stF (.need q) es l = (none,es,l):=if_neg hn
   rw [ef] at done
   refine iteC (by rw [hxn]; simpa using hn) ?_
   refine ⟨_,rfl,um,_,0,_,rfl,rfl,hmT,mv0,rfl,_,rfl,?_⟩
   refine dF (neqS (by decide +kernel)) ?_
   refine iteF ?_
   refine ⟨_,rfl,um,_,0,_,rfl,rfl,hmT,mv0,rfl,_,rfl,?_⟩
   refine dF (neqS (by decide +kernel)) ?_
   refine iteF ?_
   refine ⟨_,rfl,um,_,0,_,rfl,rfl,hmT,mv0,rfl,_,rfl,?_⟩
   refine dF (neqS (by decide +kernel)) ?_
   refine iteF ?_
   exact done SX2.refl hE hll rfl
 | take q=>
  cases hvl
  have mv0:atI (mvV (.take q)) 0 = some (.str "take"):=mv0
  have hq:q < es.length:=hmo
  obtain ⟨x,hx',hxn⟩:=es_at hps hq
  refine ⟨_,rfl,um,_,0,_,rfl,rfl,hmT,mv0,rfl,_,rfl,?_⟩
  refine dF (neqS (by decide +kernel)) ?_
  refine iteF ?_
  refine ⟨_,rfl,um,_,0,_,rfl,rfl,hmT,mv0,rfl,_,rfl,?_⟩
  refine dF (neqS (by decide +kernel)) ?_
  refine iteF ?_
  refine ⟨_,rfl,um,_,0,_,rfl,rfl,hmT,mv0,rfl,_,rfl,?_⟩
  refine dT rfl ?_
  refine ⟨_,rfl,_,rfl,le,_,_,x,rfl,rfl,SqL.of hxs,atI_nat hx',_,rfl,?_⟩
  have rest:∀ {H':Hp},SX2 le ll H H'->SqT K H' um (mvV (.take q))->EsAt K L H' le (stF (.take q) es l).2.1->H' ll = some (.lst ((natI (stF (.take q) es l).2.2).map V.int))->(stF (.take q) es l).1 = none->∃ x1,V.ref um = x1/\True:=fun _ _ _ _ _=>⟨_,rfl,trivial⟩
  clear rest
  by_cases hn:noE es q = true
  ·refine iteB (by rw [hxn]; exact hn) ?_
   refine ⟨_,rfl,(by show 0<=sizeLine; decide),fun l0 hl0=>?_⟩
   have s1:=same_new hl0 (.lst [])
   cases l with
   | nil=>
    have ef:stF (.take q) es [] = (none,es,[]):=if_pos hn
    rw [ef] at done
    refine .inl ⟨ll,l0,0,.lst [],fun _=>True,fun _=>True,rfl,rfl,by decide,.lst True.intro (s1 _ _ hll) .nil,.lst True.intro upd_same .nil,_,rfl,?_⟩
    refine iteF ?_
    have hm1:=s1.sqT hmT
    have e1:=hE.same s1
    have l1:=s1 _ _ hll
    generalize upd H l0 (.lst []) = H1 at s1 hm1 e1 l1 |-
    refine ⟨_,rfl,um,_,0,_,rfl,rfl,hm1,mv0,rfl,_,rfl,?_⟩
    refine dF (neqS (by decide +kernel)) ?_
    refine iteF ?_
    refine ⟨_,rfl,um,_,0,_,rfl,rfl,hm1,mv0,rfl,_,rfl,?_⟩
    refine dF (neqS (by decide +kernel)) ?_
    refine iteF ?_
    exact done (SX2.of s1) e1 l1 rfl
   | cons y ys=>
    have ef:stF (.take q) es (y :: ys) = (none,es.set q (some (.one "place" y)),ys):=if_pos hn
    rw [ef] at done
    refine .inr ⟨ll,l0,_,_,rfl,rfl,s1 _ _ hll,upd_same,by rw [List.length_map,natI_len]; exact Nat.succ_ne_zero _,_,rfl,?_⟩
    refine iteT ?_
    have l1:=s1 _ _ hll
    have hxs1:=s1 _ _ hxs
    have hps1:=Paired.imp' (fun _ _ z=>EnO.same z s1) hps
    have hm1:=s1.sqT hmT
    have x1:SX2 le ll H (upd H l0 (.lst [])):=SX2.of s1
    generalize upd H l0 (.lst []) = H1 at s1 l1 hxs1 hps1 hm1 x1 |-
    refine ⟨_,rfl,.inl ⟨rfl,_,SqL.of l1⟩,ll,_,0,0,.int (y:Nat),rfl,rfl,l1,by decide,by decide,(ixN_seq (ixN_nat (i:=0) (by rw [List.length_map,natI_len]; exact Nat.succ_pos _))).1,rfl,?_⟩
    have l2:upd H1 ll (.lst (((natI (y :: ys)).map V.int).eraseIdx 0)) ll = some (.lst ((natI ys).map V.int)):=upd_same
    have hxs2:upd H1 ll (.lst (((natI (y :: ys)).map V.int).eraseIdx 0)) le = some (.lst xs):=by rw [upd_ne nel]; exact hxs1
    have hps2:Paired (EnO K (okL L) (upd H1 ll (.lst (((natI (y :: ys)).map V.int).eraseIdx 0)))) xs es:=Paired.imp' (fun _ _ z=>EnO.put z l1 llL) hps1
    have hm2:SqT K (upd H1 ll (.lst (((natI (y :: ys)).map V.int).eraseIdx 0))) um (mvV (.take q)):=sqT_upd hm1 l1
    have x2:=x1.r (v:=.lst (((natI (y :: ys)).map V.int).eraseIdx 0))
    generalize upd H1 ll (.lst (((natI (y :: ys)).map V.int).eraseIdx 0)) = H2 at l2 hxs2 hps2 hm2 x2 |-
    refine ⟨(by show 2<=sizeLine; decide),fun u hu=>?_⟩
    have s3:=same_new hu (.tup [.str "place",.int (y:Nat)])
    have e3:EnO K (okL L) (upd H2 u (.tup [.str "place",.int (y:Nat)])) (.ref u) (some (.one "place" y)):=⟨u,rfl,SqT.of upd_same⟩
    have hxs3:=s3 _ _ hxs2
    have hps3:=Paired.imp' (fun _ _ z=>EnO.same z s3) hps2
    have l3:=s3 _ _ l2
    have hm3:=s3.sqT hm2
    have x3:=x2.trans (SX2.of (a:=le) (b:=ll) s3)
    generalize upd H2 u (.tup [.str "place",.int (y:Nat)]) = H3 at s3 e3 hxs3 hps3 l3 hm3 x3 |-
    refine ⟨_,rfl,_,rfl,le,xs,_,q,rfl,rfl,hxs3,ixN_nat (by rw [hps.length]; exact hq),?_⟩
    have E4:EsAt K L (upd H3 le (.lst (xs.set q (.ref u)))) le (es.set q (some (.one "place" y))):=EsAt.set hxs3 hps3 e3 leL
    have l4:upd H3 le (.lst (xs.set q (.ref u))) ll = some (.lst ((natI ys).map V.int)):=by rw [upd_ne (Ne.symm nel)]; exact l3
    have hm4:SqT K (upd H3 le (.lst (xs.set q (.ref u)))) um (mvV (.take q)):=sqT_upd hm3 hxs3
    have x4:=x3.l (v:=.lst (xs.set q (.ref u)))
    generalize upd H3 le (.lst (xs.set q (.ref u))) = H4 at E4 l4 hm4 x4 |-
    refine ⟨_,rfl,um,_,0,_,rfl,rfl,hm4,mv0,rfl,_,rfl,?_⟩
    refine dF (neqS (by decide +kernel)) ?_
    refine iteF ?_
    refine ⟨_,rfl,um,_,0,_,rfl,rfl,hm4,mv0,rfl,_,rfl,?_⟩
    refine dF (neqS (by decide +kernel)) ?_
    refine iteF ?_
    exact done x4 E4 l4 rfl
  ·have ef:stF (.take q) es l = (none,es,l):=if_neg hn
   rw [ef] at done
   refine iteC (by rw [hxn]; simpa using hn) ?_
   refine iteF ?_
   refine ⟨_,rfl,um,_,0,_,rfl,rfl,hmT,mv0,rfl,_,rfl,?_⟩
   refine dF (neqS (by decide +kernel)) ?_
   refine iteF ?_
   refine ⟨_,rfl,um,_,0,_,rfl,rfl,hmT,mv0,rfl,_,rfl,?_⟩
   refine dF (neqS (by decide +kernel)) ?_
   refine iteF ?_
   exact done SX2.refl hE hll rfl
 | gather q=>
  cases hvl
  have mv0:atI (mvV (.gather q)) 0 = some (.str "gather"):=mv0
  have hq:q < es.length:=hmo
  obtain ⟨x,hx',hxn⟩:=es_at hps hq
  refine ⟨_,rfl,um,_,0,_,rfl,rfl,hmT,mv0,rfl,_,rfl,?_⟩
  refine dF (neqS (by decide +kernel)) ?_
  refine iteF ?_
  refine ⟨_,rfl,um,_,0,_,rfl,rfl,hmT,mv0,rfl,_,rfl,?_⟩
  refine dF (neqS (by decide +kernel)) ?_
  refine iteF ?_
  refine ⟨_,rfl,um,_,0,_,rfl,rfl,hmT,mv0,rfl,_,rfl,?_⟩
  refine dF (neqS (by decide +kernel)) ?_
  refine iteF ?_
  refine ⟨_,rfl,um,_,0,_,rfl,rfl,hmT,mv0,rfl,_,rfl,?_⟩
  refine dT rfl ?_
  refine ⟨_,rfl,_,rfl,le,_,_,x,rfl,rfl,SqL.of hxs,atI_nat hx',_,rfl,?_⟩
  by_cases hn:noE es q = true
  ·have ef:stF (.gather q) es l = (none,es.set q (some (.many "places" l)),[]):=if_pos hn
   rw [ef] at done
   refine iteB (by rw [hxn]; exact hn) ?_
   refine ⟨_,rfl,ll,_,rfl,.inl (SqL.of hll),fun l9 hl9=>?_⟩
   have s1:=same_new hl9 (.lst ((natI l).map V.int))
   have e1:upd H l9 (.lst ((natI l).map V.int)) l9 = some (.lst ((natI l).map V.int)):=upd_same
   have n1:okL L l9:=freshL SX2.refl ⟨_,hxs⟩ ⟨_,hll⟩ hl9
   generalize upd H l9 (.lst ((natI l).map V.int)) = H1 at s1 e1 |-
   refine ⟨(by show 2<=sizeLine; decide),fun u hu=>?_⟩
   have s2:=same_new hu (.tup [.str "places",.ref l9])
   have e2:EnO K (okL L) (upd H1 u (.tup [.str "places",.ref l9])) (.ref u) (some (.many "places" l)):=⟨u,l9,rfl,SqT.of upd_same,n1,s2 _ _ e1⟩
   have s12:=s1.trans s2
   have hxs2:=s12 _ _ hxs
   have hps2:=Paired.imp' (fun _ _ z=>EnO.same z s12) hps
   have l2:=s12 _ _ hll
   have hm2:=s12.sqT hmT
   have x2:SX2 le ll H (upd H1 u (.tup [.str "places",.ref l9])):=SX2.of s12
   generalize upd H1 u (.tup [.str "places",.ref l9]) = H2 at s2 s12 e2 hxs2 hps2 l2 hm2 x2 |-
   refine ⟨_,rfl,_,rfl,le,xs,_,q,rfl,rfl,hxs2,ixN_nat (by rw [hps.length]; exact hq),?_⟩
   have E4:EsAt K L (upd H2 le (.lst (xs.set q (.ref u)))) le (es.set q (some (.many "places" l))):=EsAt.set hxs2 hps2 e2 leL
   have l4:upd H2 le (.lst (xs.set q (.ref u))) ll = some (.lst ((natI l).map V.int)):=by rw [upd_ne (Ne.symm nel)]; exact l2
   have hm4:SqT K (upd H2 le (.lst (xs.set q (.ref u)))) um (mvV (.gather q)):=sqT_upd hm2 hxs2
   have x4:=x2.l (v:=.lst (xs.set q (.ref u)))
   generalize upd H2 le (.lst (xs.set q (.ref u))) = H4 at E4 l4 hm4 x4 |-
   refine ⟨_,rfl,.inl ⟨rfl,_,SqL.of l4⟩,ll,_,rfl,rfl,l4,?_⟩
   have E5:EsAt K L (upd H4 ll (.lst [])) le (es.set q (some (.many "places" l))):=EsAt.put E4 l4 llL nel
   have l5:upd H4 ll (.lst []) ll = some (.lst ((natI []).map V.int)):=upd_same
   have hm5:SqT K (upd H4 ll (.lst [])) um (mvV (.gather q)):=sqT_upd hm4 l4
   have x5:=x4.r (v:=.lst [])
   generalize upd H4 ll (.lst []) = H5 at E5 l5 hm5 x5 |-
   refine ⟨_,rfl,um,_,0,_,rfl,rfl,hm5,mv0,rfl,_,rfl,?_⟩
   refine dF (neqS (by decide +kernel)) ?_
   refine iteF ?_
   exact done x5 E5 l5 rfl
  ·have ef:stF (.gather q) es l = (none,es,l):=if_neg hn
   rw [ef] at done
   refine iteC (by rw [hxn]; simpa using hn) ?_
   refine ⟨_,rfl,um,_,0,_,rfl,rfl,hmT,mv0,rfl,_,rfl,?_⟩
   refine dF (neqS (by decide +kernel)) ?_
   refine iteF ?_
   exact done SX2.refl hE hll rfl
 | free q=>
  cases hvl
  have mv0:atI (mvV (.free q)) 0 = some (.str "free"):=mv0
  have hq:q < es.length:=hmo
  obtain ⟨x,hx',hxn⟩:=es_at hps hq
  refine ⟨_,rfl,um,_,0,_,rfl,rfl,hmT,mv0,rfl,_,rfl,?_⟩
  refine dF (neqS (by decide +kernel)) ?_
  refine iteF ?_
  refine ⟨_,rfl,um,_,0,_,rfl,rfl,hmT,mv0,rfl,_,rfl,?_⟩
  refine dF (neqS (by decide +kernel)) ?_
  refine iteF ?_
  refine ⟨_,rfl,um,_,0,_,rfl,rfl,hmT,mv0,rfl,_,rfl,?_⟩
  refine dF (neqS (by decide +kernel)) ?_
  refine iteF ?_
  refine ⟨_,rfl,um,_,0,_,rfl,rfl,hmT,mv0,rfl,_,rfl,?_⟩
  refine dF (neqS (by decide +kernel)) ?_
  refine iteF ?_
  refine ⟨_,rfl,um,_,0,_,rfl,rfl,hmT,mv0,rfl,_,rfl,?_⟩
  refine dT rfl ?_
  refine ⟨_,rfl,_,rfl,le,_,_,x,rfl,rfl,SqL.of hxs,atI_nat hx',_,rfl,?_⟩
  by_cases hn:noE es q = true
  ·have ef:stF (.free q) es l = (none,es.set q (some .free),l):=if_pos hn
   rw [ef] at done
   refine iteB (by rw [hxn]; exact hn) ?_
   refine ⟨(by show 1<=sizeLine; decide),fun u hu=>?_⟩
   have s2:=same_new hu (.tup [.str "free"])
   have e2:EnO K (okL L) (upd H u (.tup [.str "free"])) (.ref u) (some .free):=⟨u,rfl,SqT.of upd_same⟩
   have hxs2:=s2 _ _ hxs
   have hps2:=Paired.imp' (fun _ _ z=>EnO.same z s2) hps
   have l2:=s2 _ _ hll
   have x2:SX2 le ll H (upd H u (.tup [.str "free"])):=SX2.of s2
   generalize upd H u (.tup [.str "free"]) = H2 at s2 e2 hxs2 hps2 l2 x2 |-
   refine ⟨_,rfl,_,rfl,le,xs,_,q,rfl,rfl,hxs2,ixN_nat (by rw [hps.length]; exact hq),?_⟩
   exact done x2.l (EsAt.set hxs2 hps2 e2 leL) (by rw [upd_ne (Ne.symm nel)]; exact l2) rfl
  ·have ef:stF (.free q) es l = (none,es,l):=if_neg hn
   rw [ef] at done
   refine iteC (by rw [hxn]; simpa using hn) ?_
   exact done SX2.refl hE hll rfl
end
end K52
namespace L2
open PySem PyProof.Rows
def uAll (X:Cx) (ss:List Stmt):TS:=fun D σ H=>∃ t,PSs X ss t/\t D σ H
theorem pss_all {X:Cx} {ss:List Stmt}:PSs X ss (uAll X ss):=⟨fun pins s σ H D I ⟨_,p,h⟩=>p pins s σ H D I h⟩
theorem pss_go {X:Cx} {st:Stmt} {rest:List Stmt} {t:TS} {D:L2.Ends} {σ : L2.St} {H:Hp} (p:PS X st t) (h:tSeq t (uAll X rest) D σ H):uAll X (st :: rest) D σ H:=⟨_,pss_cons p pss_all,h⟩
end L2
namespace K52
open PySem L2 PyProof.Rows
def isNm:Mv->Bool
 | .names _=>true
 | _=>false
def ResAt (K:PySem.W.Frag) (H:Hp) (p:Addr):Sum (Str × Nat) (List (Option En))->Prop
 | .inl r=>∃ u,H p = some (.tup [.str "refused",.ref u])/\H u = some (.tup [.str r.1,.int (r.2:Nat)])
 | .inr es=>∃ le L,H p = some (.tup [.str "told",.ref le])/\EsAt K L H le es
def NoD (zs:List Str) (k:Nat):Prop:=∀ i y,i < k->zs[i]? = some y->y ∉ zs.take i
def runZ (n:Nat) (ms:List Mv) (c:Nat) (zs:List Str):Sum (Str × Nat) (List (Option En)):=runM ms zs [] (List.replicate n none) [] (List.range c)
def spRun (K:PySem.W.Frag):Sp:=fun vs H Q _=>∃ (n c:Nat) (lm ln:Addr) (us:List Addr) (ms:List Mv) (zs:List Str),vs = [.int (n:Nat),.ref lm,.int (c:Nat),.ref ln]/\H lm = some (.lst (us.map V.ref))/\Paired (MvAt K H) us ms/\(∀ m ∈ ms,MvOk n m)/\H ln = some (.lst (zs.map V.str))/\n<=100/\c<=100/\zs.length<=8/\ms.length<=800/\(ms.filter isNm).length<=100/\
 (∀ j z,zs[j]? = some z->z ∈ zs.take j->NoD zs j->∀ (p:Addr) (H':Hp),Same H H'->ResAt K H' p (.inl ("doubled",j))->Q (.ref p) H')/\
 (NoD zs zs.length->∀ (p:Addr) (H':Hp),Same H H'->ResAt K H' p (runZ n ms c zs)->Q (.ref p) H')
structure MI (K:PySem.W.Frag) (H H':Hp) (le ll lu ld:Addr) (d:Doors) (es:List (Option En)) (us l:List Nat):Prop where
 s:Same H H'
 e:EsAt K [le,lu,ll] H' le es
 u:H' lu = some (.lst ((natI us).map V.int))
 l:H' ll = some (.lst ((natI l).map V.int))
 d:H' ld = some (.dK d)
theorem MI.same {K:PySem.W.Frag} {H H' H2:Hp} {le ll lu ld:Addr} {d:Doors} {es:List (Option En)} {us l:List Nat} (h:MI K H H' le ll lu ld d es us l) (s:Same H' H2):MI K H H2 le ll lu ld d es us l:=⟨h.s.trans s,h.e.same s,s _ _ h.u,s _ _ h.l,s _ _ h.d⟩
theorem MI.all {K:PySem.W.Frag} {H H':Hp} {le ll lu ld:Addr} {d:Doors} {es:List (Option En)} {us l:List Nat} (h:MI K H H' le ll lu ld d es us l):∀ a ∈ [le,lu,ll],∃ o,H' a = some o:=fun a ha=>by
 obtain ⟨xs,h1,_⟩:=h.e
 rcases List.mem_cons.mp ha with rfl | ha
 ·exact ⟨_,h1⟩
 ·rcases List.mem_cons.mp ha with rfl | ha
  ·exact ⟨_,h.u⟩
  ·rw [List.mem_singleton.mp ha]; exact ⟨_,h.l⟩
theorem EsAt.dict {K:PySem.W.Frag} {L:List Addr} {H:Hp} {le ld:Addr} {es:List (Option En)} {d d':Doors} (h:EsAt K L H le es) (hd:H ld = some (.dK d)):EsAt K L (upd H ld (.dK d')) le es:=by
 obtain ⟨xs,h1,h2⟩:=h
 have sq:∀ {u:Addr} {vs:List V},SqT K H u vs->SqT K (upd H ld (.dK d')) u vs:=fun {u vs} h=>by
  rcases h with (h | ⟨o,h⟩) | h
  ·exact .inl (.inl (by rw [upd_ne (fun e=>by rw [e,hd] at h; cases h)]; exact h))
  ·exact .inl (.inr ⟨o,by rw [upd_ne (fun e=>by rw [e,hd] at h; cases h)]; exact h⟩)
  ·exact .inr h
 refine ⟨xs,by rw [upd_ne (fun e=>by rw [e,hd] at h1; cases h1)]; exact h1,Paired.imp' (fun x o z=>?_) h2⟩
 cases o with
 | none=>exact z
 | some e=>
  cases e with
  | one wd n=>obtain ⟨u,e,h1⟩:=z; exact ⟨u,e,sq h1⟩
  | many wd ns=>
   obtain ⟨u,l,e,h1,h2,h3⟩:=z
   exact ⟨u,l,e,sq h1,h2,by rw [upd_ne (fun e=>by rw [e,hd] at h3; cases h3)]; exact h3⟩
  | free=>obtain ⟨u,e,h1⟩:=z; exact ⟨u,e,sq h1⟩
theorem stF_len {m:Mv} {es:List (Option En)} {l:List Nat}:(stF m es l).2.1.length = es.length/\(stF m es l).2.2.length<=l.length:=by
 cases m with
 | fin=>cases l <;> exact ⟨rfl,Nat.le_refl _⟩
 | need q=>
  by_cases hn:noE es q = true
  ·have e:stF (.need q) es l = (some (("lacking" : Str),q),es,l):=if_pos hn
   rw [e]; exact ⟨rfl,Nat.le_refl _⟩
  ·have e:stF (.need q) es l = (none,es,l):=if_neg hn
   rw [e]; exact ⟨rfl,Nat.le_refl _⟩
 | take q=>
  by_cases hn:noE es q = true
  ·cases l with
   | nil=>
    have e:stF (.take q) es [] = (none,es,[]):=if_pos hn
    rw [e]; exact ⟨rfl,Nat.le_refl _⟩
   | cons x xs=>
    have e:stF (.take q) es (x :: xs) = (none,es.set q (some (.one "place" x)),xs):=if_pos hn
    rw [e]; exact ⟨List.length_set,Nat.le_succ _⟩
  ·have e:stF (.take q) es l = (none,es,l):=if_neg hn
   rw [e]; exact ⟨rfl,Nat.le_refl _⟩
 | gather q=>
  by_cases hn:noE es q = true
  ·have e:stF (.gather q) es l = (none,es.set q (some (.many "places" l)),[]):=if_pos hn
   rw [e]; exact ⟨List.length_set,Nat.zero_le _⟩
  ·have e:stF (.gather q) es l = (none,es,l):=if_neg hn
   rw [e]; exact ⟨rfl,Nat.le_refl _⟩
 | free q=>
  by_cases hn:noE es q = true
  ·have e:stF (.free q) es l = (none,es.set q (some .free),l):=if_pos hn
   rw [e]; exact ⟨List.length_set,Nat.le_refl _⟩
  ·have e:stF (.free q) es l = (none,es,l):=if_neg hn
   rw [e]; exact ⟨rfl,Nat.le_refl _⟩
 | door z q=>exact ⟨rfl,Nat.le_refl _⟩
 | bar z=>exact ⟨rfl,Nat.le_refl _⟩
 | names o=>exact ⟨rfl,Nat.le_refl _⟩
theorem run_step {m:Mv} (h:isStep m) {ms:List Mv} {zs:List Str} {d:Doors} {es:List (Option En)} {us l:List Nat}:runM (m :: ms) zs d es us l = match stF m es l with
   | (some r,_,_)=>.inl r
   | (none,es',l')=>runM ms zs d es' us l':=by
 cases m with
 | door z q=>exact h.elim
 | bar z=>exact h.elim
 | names o=>exact h.elim
 | fin=>rfl
 | need q=>rfl
 | take q=>rfl
 | gather q=>rfl
 | free q=>rfl
theorem step_word {m:Mv} (h:isStep m):mvW m ≠ "door"/\mvW m ≠ "bar"/\mvW m ≠ "names":=by
 cases m with
 | door z q=>exact h.elim
 | bar z=>exact h.elim
 | names o=>exact h.elim
 | fin=>exact ⟨by decide +kernel,by decide +kernel,by decide +kernel⟩
 | need q=>exact ⟨(by show ("need" : Str) ≠ "door"; decide +kernel),(by show ("need" : Str) ≠ "bar"; decide +kernel),(by show ("need" : Str) ≠ "names"; decide +kernel)⟩
 | take q=>exact ⟨(by show ("take" : Str) ≠ "door"; decide +kernel),(by show ("take" : Str) ≠ "bar"; decide +kernel),(by show ("take" : Str) ≠ "names"; decide +kernel)⟩
 | gather q=>exact ⟨(by show ("gather" : Str) ≠ "door"; decide +kernel),(by show ("gather" : Str) ≠ "bar"; decide +kernel),(by show ("gather" : Str) ≠ "names"; decide +kernel)⟩
 | free q=>exact ⟨(by show ("free" : Str) ≠ "door"; decide +kernel),(by show ("free" : Str) ≠ "bar"; decide +kernel),(by show ("free" : Str) ≠ "names"; decide +kernel)⟩
theorem rep_flat:∀ n:Nat,(List.replicate n [V.non]).flatten = List.replicate n V.non
 | 0=>rfl
 | n + 1=>by rw [List.replicate_succ,List.flatten_cons,rep_flat n,List.replicate_succ]; rfl
theorem rep_paired {K:PySem.W.Frag} {ok:Addr->Prop} {H:Hp}:∀ n:Nat,Paired (EnO K ok H) (List.replicate n V.non) (List.replicate n none)
 | 0=>.nil
 | n + 1=>by rw [List.replicate_succ,List.replicate_succ]; exact .cons rfl (rep_paired n)
theorem DOk.put {n:Nat} {d:Doors} (h:DOk n d) {k:Key} {v:V} (hv:v = .str "shut"\/∃ p:Nat,v = .int (p:Nat)/\p < n):DOk n (putK d k v):=fun k' v' e=>by
 rw [valV_put] at e
 split at e
 ·cases e; exact hv
 ·exact h k' v' e
section
variable {P:Program} {w:World} {K:PySem.W.Frag} {mg:Str->Option Value} {base:Heap} {f:Addr} {fd:FuncData}
theorem scRun:FnScope ["_law_many","_law_moves","_law_count","_law_names","_law_entries","_law_left","_law_used","_law_doors","_law_j","_law_name","_law_move_here","_law_wrong"] ["_law_many","_law_moves","_law_count","_law_names"] (defScope sRun):=⟨rfl,rfl,rfl,by decide +kernel,rfl,by decide +kernel,by decide +kernel⟩
theorem ok_run {g1 g2:Addr} {d1 d2:FuncData} (F:Fun K "_law_run" "_law_run" sRun f fd) (U:TxtL mg) (cTh:Callee P w K mg base 1 "_law_through" g1 d1 ["_law_entries","_law_names","_law_used","_law_doors","_law_q"] (spThrough K)) (cSt:Callee P w K mg base 1 "_law_step" g2 d2 ["_law_entries","_law_move_here","_law_left"] (spStep K)):FnOk P w K mg base CX0 2 f fd ["_law_many","_law_moves","_law_count","_law_names"] (spRun K):=by
 refine F.ok scRun (fun vs H Q E h=>?_) (fun cdv A outer s H vs Q E hr h=>?_)
 ·obtain ⟨n,c,lm,ln,us,ms,zs,rfl,_⟩:=h
  rfl
 obtain ⟨n,c,lm,ln,us,ms,zs,rfl,hlm,hms,hmo,hln,bn,bc,bz,bm,bN,q1,q2⟩:=h
 have hU:=hr.units
 have hu1:=hu_of hr
 refine pss_go (ps_set (i:=4) scRun.nd rfl (Or.inl rfl) (pe_op op_rep (pe_lst (ac pe_non pa_nil)) (pv 0))) ?_
 refine ⟨(by show 1<=sizeLine; decide),fun l0 hl0=>?_⟩
 have s0:=same_new hl0 (.lst [.non])
 have e0:upd H l0 (.lst [.non]) l0 = some (.lst [.non]):=upd_same
 generalize upd H l0 (.lst [.non]) = H0 at s0 e0 |-
 refine ⟨_,rfl,l0,(n:Nat),_,rfl,rfl,e0,by omega,by omega,le1000 (by show 1 * ((n:Nat):Int).toNat<=1000; omega),fun le hle=>?_⟩
 have en:(List.replicate ((n:Nat):Int).toNat [V.non]).flatten = List.replicate n V.non:=by rw [show ((n:Nat):Int).toNat = n by omega,rep_flat]
 rw [en]
 have s1:=s0.trans (same_new hle (.lst (List.replicate n V.non)))
 have e1:upd H0 le (.lst (List.replicate n V.non)) le = some (.lst (List.replicate n V.non)):=upd_same
 have nle:H le = none:=s0.free hle
 dsimp only [gName]
 generalize upd H0 le (.lst (List.replicate n V.non)) = H1 at s1 e1 |-
 refine pss_go (ps_set (i:=5) scRun.nd rfl (Or.inl rfl) (cTy (call_listR rfl) U.list PyProof.Rows.boot_list (ac (cTy call_rng U.range PyProof.Rows.boot_range (ac (pv 2) pa_nil)) pa_nil))) ?_
 refine ⟨_,rfl,c,rfl,fun r hr'=>?_⟩
 have sr:=same_new hr' (.rng 0 (c:Nat))
 refine ⟨r,c,rfl,upd_same,by omega,fun ll hll=>?_⟩
 have s2:=same_new hll (.lst ((L2.intsTo c).map V.int))
 have e2:upd (upd H1 r (.rng 0 (c:Nat))) ll (.lst ((L2.intsTo c).map V.int)) ll = some (.lst ((natI (List.range c)).map V.int)):=upd_same
 have s12:=sr.trans s2
 have nll:H ll = none:=(s1.trans sr).free hll
 have nel:le ≠ ll:=fun e=>by rw [<- e,sr _ _ e1] at hll; cases hll
 dsimp only [gName]
 generalize upd (upd H1 r (.rng 0 (c:Nat))) ll (.lst ((L2.intsTo c).map V.int)) = H2 at s2 e2 s12 |-
 refine pss_go (ps_set (i:=6) scRun.nd rfl (Or.inl rfl) (pe_lst pa_nil)) ?_
 refine ⟨(by show 0<=sizeLine; decide),fun lu hlu=>?_⟩
 have s3:=same_new hlu (.lst [])
 have e3:upd H2 lu (.lst []) lu = some (.lst ((natI []).map V.int)):=upd_same
 have nlu:H lu = none:=(s1.trans s12).free hlu
 have neu:le ≠ lu:=fun e=>by rw [<- e,s12 _ _ e1] at hlu; cases hlu
 have nlul:lu ≠ ll:=fun e=>by rw [e,e2] at hlu; cases hlu
 dsimp only [gName]
 generalize upd H2 lu (.lst []) = H3 at s3 e3 |-
 refine pss_go (ps_set (i:=7) scRun.nd rfl (Or.inl rfl) pe_dnewK) ?_
 intro ld hld
 have s4:=same_new hld (.dK [])
 have e4:upd H3 ld (.dK []) ld = some (.dK []):=upd_same
 have nld:H ld = none:=(s1.trans (s12.trans s3)).free hld
 have s14:=s12.trans (s3.trans s4)
 have M0:MI K H (upd H3 ld (.dK [])) le ll lu ld [] (List.replicate n none) [] (List.range c):=⟨s1.trans s14,⟨_,s14 _ _ e1,rep_paired n⟩,s4 _ _ e3,(s3.trans s4) _ _ e2,e4⟩
 dsimp only [gName]
 generalize upd H3 ld (.dK []) = H4 at s4 e4 s14 M0 |-
 clear e0 e1 e2 e3 e4 s0 s1 s2 s3 s4 s12 s14 sr hle hll hlu hld hl0 hr' en
 refine pss_go (ps_for PassesOwn.never rfl (pi_enum rfl U.en (ac (pv 3) pa_nil)) (pg_tup rfl (pgs_cons (pg_name (i:=8) scRun.nd rfl (Or.inl rfl)) (pgs_cons (pg_name (i:=9) scRun.nd rfl (Or.inl rfl)) pgs_nil)))
   (pss_one (ps_if (pt_cmpR op_in_seq (pv 9) (pe_slice sl_list (pv 3) po_none (po_some (pv 8))) (by with_unfolding_all rfl)) (pss_one (ps_ret (pe_tup (ac pe_str (ac (pe_tup (ac pe_str (ac (pv 8) pa_nil))) pa_nil))))) pss_nil))) ?_
 refine seq_via (fun σ' H'=>∃ (v8 v9:Option V),σ' = [some (.int (n:Nat)),some (.ref lm),some (.int (c:Nat)),some (.ref ln),some (.ref le),some (.ref ll),some (.ref lu),some (.ref ld),v8,v9,none,none]/\MI K H H' le ll lu ld [] (List.replicate n none) [] (List.range c)/\NoD zs zs.length) ?_ (fun key=>?_)
 rotate_left
 ·refine ⟨_,rfl,ln,rfl,⟨_,SqL.of (M0.s _ _ hln)⟩,for_enum (K:=K) (a:=ln) (xs:=zs.map V.str) (fun i σ H'=>∃ (v8 v9:Option V),σ = [some (.int (n:Nat)),some (.ref lm),some (.int (c:Nat)),some (.ref ln),some (.ref le),some (.ref ll),some (.ref lu),some (.ref ld),v8,v9,none,none]/\MI K H H' le ll lu ld [] (List.replicate n none) [] (List.range c)/\NoD zs i) ⟨_,_,rfl,M0,fun i y hi=>absurd hi (by omega)⟩ (fun i σ H' _ ⟨_,_,_,M,_⟩=>SqL.of (M.s _ _ hln)) ?_ ?_⟩
  ·rintro i x tn σ H5 hx ⟨v8,v9,rfl,M,nd⟩ htn
   obtain ⟨z,hz,rfl⟩:=strs_at hx
   have sp:=same_new htn (.tup [.int (i:Nat),.str z])
   refine ⟨tn,_,rfl,SqT.of upd_same,rfl,_,_,rfl,_,_,rfl,rfl,?_⟩
   have M:=M.same sp
   generalize upd H5 tn (.tup [.int (i:Nat),.str z]) = H6 at sp M |-
   refine ⟨_,rfl,_,rfl,_,rfl,_,rfl,ln,_,rfl,SqL.of (M.s _ _ hln),fun p hp=>?_⟩
   rw [show cutV (zs.map V.str) none (some (i:Int)) = (zs.take i).map V.str from (cut_takeN).trans (List.map_take ..).symm]
   have s7:=same_new hp (.lst ((zs.take i).map V.str))
   have e7:upd H6 p (.lst ((zs.take i).map V.str)) p = some (.lst ((zs.take i).map V.str)):=upd_same
   have M:=M.same s7
   generalize upd H6 p (.lst ((zs.take i).map V.str)) = H7 at s7 e7 M |-
   refine ⟨p,_,rfl,.inl (SqL.of e7),rfl,flatStrs,_,rfl,?_⟩
   rw [if_neg Bool.false_ne_true,inStrs]
   by_cases hd:z ∈ zs.take i
   ·refine dT hd ?_
    refine ⟨_,rfl,(by show 2<=sizeLine; decide),fun u hu=>?_⟩
    have s8:=same_new hu (.tup [.str "doubled",.int (i:Nat)])
    refine ⟨(by show 2<=sizeLine; decide),fun t ht=>?_⟩
    have s9:=same_new ht (.tup [.str "refused",.ref u])
    exact q1 i z hz hd nd t _ (M.s.trans (s8.trans s9)) ⟨u,upd_same,s9 _ _ upd_same⟩
   ·refine dF hd ?_
    refine ⟨_,_,rfl,M,fun k y hk hy=>?_⟩
    by_cases hki:k = i
    ·subst hki
     rw [hz] at hy
     cases hy
     exact hd
    ·exact nd k y (by omega) hy
  ·rintro σ H5 ⟨v8,v9,rfl,M,nd⟩
   rw [List.length_map] at nd
   exact key _ _ ⟨_,_,rfl,M,nd⟩
 clear M0
 rintro σ5 H5 ⟨v8,v9,rfl,M0,nd⟩
 have q2:=q2 nd
 generalize hR:runZ n ms c zs = R at q2
 have hR:R = runM (ms.drop 0) zs [] (List.replicate n none) [] (List.range c):=hR.symm
 refine pss_go (ps_for PassesOwn.never rfl (pi_list (pv 1)) (pg_name (i:=10) scRun.nd rfl (Or.inl rfl)) pss_all) ?_
 refine ⟨_,rfl,lm,rfl,⟨_,SqL.of (M0.s _ _ hlm)⟩,for_list (K:=K) (a:=lm) (xs:=us.map V.ref) (fun i σ H'=>∃ (d:Doors) (es:List (Option En)) (us' l:List Nat) (v10 v11:Option V),σ = [some (.int (n:Nat)),some (.ref lm),some (.int (c:Nat)),some (.ref ln),some (.ref le),some (.ref ll),some (.ref lu),some (.ref ld),v8,v9,v10,v11]/\MI K H H' le ll lu ld d es us' l/\R = runM (ms.drop i) zs d es us' l/\es.length = n/\DOk n d/\d.length<=i/\l.length<=100/\us'.length + 8 * ((ms.drop i).filter isNm).length<=800) ⟨[],_,[],_,_,_,rfl,M0,hR,List.length_replicate,(fun k v e=>by cases e),Nat.le_refl _,by rw [List.length_range]; exact bc,by rw [List.drop_zero]; show 0 + _<=_; omega⟩ (fun i σ H' _ ⟨_,_,_,_,_,_,_,M,_⟩=>SqL.of (M.s _ _ hlm)) ?_ ?_⟩
 ·rintro i x σ H6 hx ⟨d,es,us',l,v10,v11,rfl,M,eR,lE,hD,lD,lL,lU⟩
  obtain ⟨um,hum,rfl⟩:=refs_at hx
  obtain ⟨m,hm,hmu⟩:=paired_at hms hum
  have hi:i < ms.length:=(List.getElem?_eq_some_iff.mp hm).1
  have ed:ms.drop i = m :: ms.drop (i + 1):=by
   rw [List.drop_eq_getElem_cons hi]
   congr 1
   exact (List.getElem?_eq_some_iff.mp hm).2
  rw [ed] at eR lU
  have hmok:=hmo m (List.mem_of_getElem? hm)
  have hmu6:MvAt K H6 um m:=M.s.sqT hmu
  have hmT:SqT K H6 um (mvV m):=hmu6
  have mv0:=mv_0 m
  have nleu:ld ≠ le:=fun e=>by obtain ⟨xs,h1,_⟩:=M.e; rw [<- e,M.d] at h1; cases h1
  have nldu:ld ≠ lu:=fun e=>by have:=M.u; rw [<- e,M.d] at this; cases this
  have nldl:ld ≠ ll:=fun e=>by have:=M.l; rw [<- e,M.d] at this; cases this
  have put:∀ (k:Key) (v:V),MI K H (upd H6 ld (.dK (putK d k v))) le ll lu ld (putK d k v) es us' l:=fun k v=>⟨fun b o e=>by rw [upd_ne (ne_of_none e nld)]; exact M.s _ _ e,EsAt.dict M.e M.d,by rw [upd_ne (Ne.symm nldu)]; exact M.u,by rw [upd_ne (Ne.symm nldl)]; exact M.l,upd_same⟩
  dsimp only [gName]
  refine pss_go (ps_set (i:=11) scRun.nd rfl (Or.inl rfl) pe_non) ?_
  refine seq_via (fun σ' H'=>σ' = [some (.int (n:Nat)),some (.ref lm),some (.int (c:Nat)),some (.ref ln),some (.ref le),some (.ref ll),some (.ref lu),some (.ref ld),v8,v9,some (.ref um),some .non]/\H' = H6) ?_ (fun key=>key _ _ ⟨rfl,rfl⟩)
  rintro σ7 H7 ⟨rfl,rfl⟩
  refine pss_go (ps_if (PW.pt (pw_and (pt_cmpR op_eq (pe_ix ix_tup (pv 10) pe_int (fun _ _=>rfl)) pe_str (nomark _)) (pw_and1 (pt_cmpR op_ne (pe_dget1 hu1 (pv 7) (pe_ix ix_tup (pv 10) pe_int (fun _ _=>rfl)) ⟨rfl,rfl,rfl,rfl⟩) pe_str (nomark _)))))
     (pss_one (ps_dput hu1 (pv 7) (pe_ix ix_tup (pv 10) pe_int (fun _ _=>rfl)) (pe_ix ix_tup (pv 10) pe_int (fun _ _=>rfl)) rfl))
     (pss_one (ps_if (pt_cmpR op_eq (pe_ix ix_tup (pv 10) pe_int (fun _ _=>rfl)) pe_str (nomark _)) (pss_one (ps_dput hu1 (pv 7) (pe_ix ix_tup (pv 10) pe_int (fun _ _=>rfl)) pe_str rfl))
      (pss_one (ps_if (pt_cmpR op_eq (pe_ix ix_tup (pv 10) pe_int (fun _ _=>rfl)) pe_str (nomark _)) (pss_one (ps_set (i:=11) scRun.nd rfl (Or.inl rfl) (cF cTh hr (ac (pv 4) (ac (pv 3) (ac (pv 6) (ac (pv 7) (ac (pe_ix ix_tup (pe_op op_catT (pv 10) (pe_tup (ac pe_non pa_nil))) pe_int (fun _ _=>rfl)) pa_nil))))))))
       (pss_one (ps_if (pt_cmpR op_ne (pe_ix ix_tup (pv 10) pe_int (fun _ _=>rfl)) pe_str (nomark _)) (pss_one (ps_set (i:=11) scRun.nd rfl (Or.inl rfl) (cF cSt hr (ac (pv 4) (ac (pv 10) (ac (pv 5) pa_nil)))))) pss_nil))))))) ?_
  refine seq_via (fun σ' H'=>∃ (d:Doors) (es:List (Option En)) (us' l:List Nat) (v:V) (r:Option (Str × Nat)),σ' = [some (.int (n:Nat)),some (.ref lm),some (.int (c:Nat)),some (.ref ln),some (.ref le),some (.ref ll),some (.ref lu),some (.ref ld),v8,v9,some (.ref um),some v]/\MI K H H' le ll lu ld d es us' l/\RsAt H' v r/\(∀ w,r = some w->R = .inl w)/\(r = none->R = runM (ms.drop (i + 1)) zs d es us' l)/\es.length = n/\DOk n d/\d.length<=i + 1/\l.length<=100/\us'.length + 8 * ((ms.drop (i + 1)).filter isNm).length<=800) ?_ (fun key=>?_)
  rotate_left
  ·have lU':us'.length + 8 * ((ms.drop (i + 1)).filter isNm).length<=800:=by
    rw [List.filter_cons] at lU
    split at lU
    ·rw [List.length_cons] at lU; omega
    ·exact lU
   by_cases hst:isStep m
   ·obtain ⟨w1,w2,w3⟩:=step_word hst
    refine ⟨_,rfl,um,_,0,_,rfl,rfl,hmT,mv0,rfl,_,rfl,?_⟩
    refine dF (neqS w1) ?_
    refine iteF ?_
    refine ⟨_,rfl,um,_,0,_,rfl,rfl,hmT,mv0,rfl,_,rfl,?_⟩
    refine dF (neqS w2) ?_
    refine ⟨_,rfl,um,_,0,_,rfl,rfl,hmT,mv0,rfl,_,rfl,?_⟩
    refine dF (neqS w3) ?_
    refine ⟨_,rfl,um,_,0,_,rfl,rfl,hmT,mv0,rfl,_,rfl,?_⟩
    refine iteB (by rw [decide_eq_false (neqS w1)]; rfl) ?_
    refine ⟨_,rfl,_,rfl,_,rfl,le,um,ll,m,[le,lu,ll],es,l,rfl,hmu6,hst,by rw [lE]; exact hmok,M.e,by simp,by simp,M.all,nel,M.l,lL,fun v H8 x8 e8 l8 r8=>?_⟩
    obtain ⟨k1,k2⟩:=stF_len (m:=m) (es:=es) (l:=l)
    rw [run_step hst] at eR
    have M8:MI K H H8 le ll lu ld d (stF m es l).2.1 us' (stF m es l).2.2:=⟨fun b o e=>x8 _ _ (M.s _ _ e) (ne_of_none e nle) (ne_of_none e nll),e8,x8 _ _ M.u (Ne.symm neu) nlul,l8,x8 _ _ M.d nleu nldl⟩
    generalize stF m es l = T at eR e8 l8 r8 k1 k2 M8
    obtain ⟨o,es2,l2⟩:=T
    have k2:l2.length<=l.length:=k2
    refine key _ _ ⟨d,es2,us',l2,v,o,rfl,M8,r8,fun w hw=>?_,fun hn=>?_,by rw [<- lE]; exact k1,hD,by omega,by omega,lU'⟩
    ·have hw:o = some w:=hw
     subst hw
     exact eR
    ·have hn:o = none:=hn
     subst hn
     exact eR
   ·cases m with
    | fin=>exact absurd True.intro hst
    | need q=>exact absurd True.intro hst
    | take q=>exact absurd True.intro hst
    | gather q=>exact absurd True.intro hst
    | free q=>exact absurd True.intro hst
    | door z q=>
     have hq:q < n:=hmok
     refine ⟨_,rfl,um,_,0,_,rfl,rfl,hmT,rfl,rfl,_,rfl,?_⟩
     refine dT rfl ?_
     have dg:DGet H7 ld (.str z) (valV d (.inr z)):=DGet.k (k:=.inr z) M.d
     refine ⟨_,rfl,ld,rfl,.inl ⟨d,.inl M.d⟩,_,rfl,um,_,1,_,rfl,rfl,hmT,rfl,_,dg,?_,_,rfl,?_⟩
     ·cases hv:valV d (.inr z) with
      | none=>rfl
      | some v=>
       rcases hD _ _ hv with rfl | ⟨p,rfl,_⟩
       ·rfl
       ·rfl
     by_cases hs:dShut d z = true
     ·have eR:R = runM (ms.drop (i + 1)) zs d es us' l:=by rw [eR]; exact if_pos hs
      refine iteC (by rw [show decide ((valV d (.inr z)).getD .non = V.str "shut") = true from hs]; rfl) ?_
      refine ⟨_,rfl,um,_,0,_,rfl,rfl,hmT,rfl,rfl,_,rfl,?_⟩
      refine dF (neqS (by decide +kernel)) ?_
      refine ⟨_,rfl,um,_,0,_,rfl,rfl,hmT,rfl,rfl,_,rfl,?_⟩
      refine dF (neqS (by decide +kernel)) ?_
      refine ⟨_,rfl,um,_,0,_,rfl,rfl,hmT,rfl,rfl,_,rfl,?_⟩
      refine iteF ?_
      exact key _ _ ⟨d,es,us',l,.non,none,rfl,M,rfl,(fun w hw=>by cases hw),fun _=>eR,lE,hD,by omega,lL,lU'⟩
     ·have eR:R = runM (ms.drop (i + 1)) zs (putK d (.inr z) (.int (q:Nat))) es us' l:=by rw [eR]; exact if_neg hs
      have hs:dShut d z = false:=by simpa using hs
      refine iteB (by rw [show decide ((valV d (.inr z)).getD .non = V.str "shut") = false from hs]; rfl) ?_
      refine ⟨_,rfl,um,_,2,_,rfl,rfl,hmT,rfl,_,rfl,_,rfl,um,_,1,_,rfl,rfl,hmT,rfl,ld,_,rfl,DPut.k (k:=.inr z) M.d (small1000 (by omega)),?_⟩
      have:=length_putK d (.inr z) (.int (q:Nat))
      exact key _ _ ⟨_,es,us',l,.non,none,rfl,put _ _,rfl,(fun w hw=>by cases hw),fun _=>eR,lE,hD.put (.inr ⟨q,rfl,hq⟩),by omega,lL,lU'⟩
    | bar z=>
     refine ⟨_,rfl,um,_,0,_,rfl,rfl,hmT,rfl,rfl,_,rfl,?_⟩
     refine dF (neqS (by decide +kernel)) ?_
     refine iteF ?_
     refine ⟨_,rfl,um,_,0,_,rfl,rfl,hmT,rfl,rfl,_,rfl,?_⟩
     refine dT rfl ?_
     refine ⟨_,rfl,_,rfl,um,_,1,_,rfl,rfl,hmT,rfl,ld,_,rfl,DPut.k (k:=.inr z) M.d (small1000 (by omega)),?_⟩
     have:=length_putK d (.inr z) (.str "shut")
     exact key _ _ ⟨_,es,us',l,.non,none,rfl,put _ _,rfl,(fun w hw=>by cases hw),fun _=>eR,lE,hD.put (.inl rfl),by omega,lL,lU'⟩
    | names o=>
     have mv0':atI (mvV (.names o)) 0 = some (.str "names"):=mv0
     refine ⟨_,rfl,um,_,0,_,rfl,rfl,hmT,mv0',rfl,_,rfl,?_⟩
     refine dF (neqS (by decide +kernel)) ?_
     refine iteF ?_
     refine ⟨_,rfl,um,_,0,_,rfl,rfl,hmT,mv0',rfl,_,rfl,?_⟩
     refine dF (neqS (by decide +kernel)) ?_
     refine ⟨_,rfl,um,_,0,_,rfl,rfl,hmT,mv0',rfl,_,rfl,?_⟩
     refine dT rfl ?_
     refine ⟨_,rfl,_,rfl,_,rfl,_,rfl,_,rfl,(by show 1<=sizeLine; decide),fun p1 hp1=>?_⟩
     have t1:=same_new hp1 (.tup [.non])
     have f1:upd H7 p1 (.tup [.non]) p1 = some (.tup [.non]):=upd_same
     have hmT1:=t1.sqT hmT
     have M1:=M.same t1
     generalize upd H7 p1 (.tup [.non]) = H8 at t1 f1 hmT1 M1 |-
     have lmv:(mvV (.names o)).length<=2/\mvV (.names o) ≠ []:=by
      cases o
      ·exact ⟨(by show 1<=2; decide),(by intro h; cases h)⟩
      ·exact ⟨Nat.le_refl 2,(by intro h; cases h)⟩
     refine ⟨um,p1,_,_,rfl,rfl,hmT1,SqT.of f1,lmv.2,le1000 (by show (mvV (.names o)).length + 1<=1000; omega),(fun h=>by cases h),fun _ p2 hp2=>?_⟩
     have t2:=same_new hp2 (.tup (mvV (.names o) ++ [.non]))
     have f2:upd H8 p2 (.tup (mvV (.names o) ++ [.non])) p2 = some (.tup (mvV (.names o) ++ [.non])):=upd_same
     have M2:=M1.same t2
     generalize upd H8 p2 (.tup (mvV (.names o) ++ [.non])) = H9 at t2 f2 M2 |-
     have hqo:atI (mvV (.names o) ++ [.non]) 1 = some (qV o):=by cases o <;> rfl
     refine ⟨p2,_,1,_,rfl,rfl,SqT.of f2,hqo,?_⟩
     have hob:∀ b,o = some b->b < es.length:=fun b hb=>by subst hb; rw [lE]; exact hmok
     have hlnM:H9 ln = some (.lst (zs.map V.str)):=M2.s _ _ hln
     refine ⟨le,ln,lu,ld,o,[le,lu,ll],es,zs,us',d,rfl,M2.e,by simp,by simp,M2.all,neu,M2.u,hlnM,(fun e=>by rw [e,nle] at hln; cases hln),(fun e=>by rw [e,nlu] at hln; cases hln),M2.d,by rw [lE]; exact hD,hob,by omega,by omega,fun v H10 x10 e10 u10 r10=>?_⟩
     have k1:=thAll_len (d:=d) (q:=o) (zs:=zs) (es:=es) (us:=us')
     have k2:=thAll_used (d:=d) (q:=o) (zs:=zs) (es:=es) (us:=us')
     have eR:R = (match thAll d o zs es us' with | (some r,_,_)=>.inl r | (none,es',us'')=>runM (ms.drop (i + 1)) zs d es' us'' l):=eR
     have M10:MI K H H10 le ll lu ld d (thAll d o zs es us').2.1 (thAll d o zs es us').2.2 l:=⟨fun b o' e=>x10 _ _ (M2.s _ _ e) (ne_of_none e nle) (ne_of_none e nlu),e10,u10,x10 _ _ M2.l (Ne.symm nel) (Ne.symm nlul),x10 _ _ M2.d nleu nldu⟩
     have lU2:us'.length + 8 + 8 * ((ms.drop (i + 1)).filter isNm).length<=800:=by
      rw [List.filter_cons,if_pos (show isNm (.names o) = true from rfl),List.length_cons] at lU; omega
     generalize thAll d o zs es us' = T at eR e10 u10 r10 k1 k2 M10
     obtain ⟨ro,es2,us2⟩:=T
     have k2:us2.length<=us'.length + zs.length:=k2
     refine key _ _ ⟨d,es2,us2,l,v,ro,rfl,M10,r10,fun w hw=>?_,fun hn=>?_,by rw [<- lE]; exact k1,hD,by omega,lL,by omega⟩
     ·have hw:ro = some w:=hw
      subst hw
      exact eR
     ·have hn:ro = none:=hn
      subst hn
      exact eR
  rintro σ8 H8 ⟨d2,es2,us2,l2,v,r,rfl,M2,r2,hr1',hr2',lE2,hD2,lD2,lL2,lU2⟩
  refine ⟨_,pss_one (ps_if (pt_cmp (pc_notN (pv 11))) (pss_one (ps_ret (pe_tup (ac pe_str (ac (pv 11) pa_nil))))) pss_nil),?_⟩
  refine ⟨_,rfl,_,rfl,?_⟩
  cases r with
  | none=>
   have r2:v = .non:=r2
   subst r2
   refine iteF ?_
   exact ⟨d2,es2,us2,l2,_,_,rfl,M2,hr2' rfl,lE2,hD2,lD2,lL2,lU2⟩
  | some w=>
   obtain ⟨u,rfl,hu⟩:=r2
   refine iteT ?_
   refine ⟨_,rfl,(by show 2<=sizeLine; decide),fun t ht=>?_⟩
   have s9:=same_new ht (.tup [.str "refused",.ref u])
   refine q2 t _ (M2.s.trans s9) ?_
   rw [hr1' w rfl]
   exact ⟨u,upd_same,s9 _ _ hu⟩
 ·rintro σ H6 ⟨d,es,us',l,v10,v11,rfl,M,eR,lE,hD,lD,lL,lU⟩
  rw [List.length_map,hms.length,List.drop_length] at eR
  have eR:R = .inr es:=eR
  refine ⟨_,pss_one (ps_ret (pe_tup (ac pe_str (ac (pv 4) pa_nil)))),?_⟩
  refine ⟨_,rfl,(by show 2<=sizeLine; decide),fun t ht=>?_⟩
  have s9:=same_new ht (.tup [.str "told",.ref le])
  refine q2 t _ (M.s.trans s9) ?_
  rw [eR]
  exact ⟨le,[le,lu,ll],upd_same,M.e.same s9⟩
end
def misI (z:Str):Nat:=if z = "doubled" then 0 else if z = "over" then 1 else if z = "barred" then 2 else if z = "again" then 3 else if z = "strange" then 4 else 5
theorem misI_lt (z:Str):misI z < 6:=by
 unfold misI
 repeat' split
 all_goals decide
def spIsInt:Sp:=fun vs H Q _=>∃ i:Int,vs = [.int i]/\Q (.bl true) H
def wordS:Nat->Str
 | 0=>"doubled"
 | 1=>"over"
 | 2=>"barred"
 | 3=>"again"
 | 4=>"strange"
 | _=>"lacking"
structure TxtW (mg:Str->Option Value) (cl oc:Nat->Addr) (MI CE:Addr):Prop where
 isi:mg "isinstance" = none
 ve:mg "ValueError" = none
 mi:mg "Misfit" = some (.ref MI)
 ce:mg "CallError" = some (.ref CE)
 m0:mg "Doubled" = some (.ref (cl 0))
 m1:mg "Over" = some (.ref (cl 1))
 m2:mg "Barred" = some (.ref (cl 2))
 m3:mg "Again" = some (.ref (cl 3))
 m4:mg "Strange" = some (.ref (cl 4))
 m5:mg "Lacking" = some (.ref (cl 5))
 o0:mg "BadOrder" = some (.ref (oc 0))
 o1:mg "NoChange" = some (.ref (oc 1))
 o2:mg "NoDefault" = some (.ref (oc 2))
 o3:mg "NoName" = some (.ref (oc 3))
 o4:mg "NoRow" = some (.ref (oc 4))
 o5:mg "NoText" = some (.ref (oc 5))
 o6:mg "TooMany" = some (.ref (oc 6))
 o7:mg "Twice" = some (.ref (oc 7))
 o8:mg "Unknown" = some (.ref (oc 8))
structure SortW (K:PySem.W.Frag) (cl oc:Nat->Addr) (MI CE:Addr) (i:Nat):Prop where
 ex:ExcCls K (cl i)
 set:XSet K (cl i)
 no:NoAttr K (cl i) "number"
 k:∀ j,j < 6->PySem.W.kitOne K (.ref (cl i)) (.ref (cl j)) = some (decide (j = i))
 oth:PySem.W.kitAny K (.ref (cl i)) ([oc 0,oc 1,oc 2,oc 3,oc 4,oc 5,oc 6,oc 7,oc 8].map Value.ref) = some false
 mi:PySem.W.kitOne K (.ref (cl i)) (.ref MI) = some true
 ve:PySem.W.kitOne K (.ref (cl i)) (.type "ValueError") = some true
 ce:PySem.W.exmOne K (.ref (cl i)) (.ref CE) = some true
abbrev rG (K:PySem.W.Frag):List V->Hp->VK->Prop:=fun xs H Q=>∃ (ea D C:Addr) (b:Bool),xs = [.ref ea,.ref C]/\ExcH H ea D/\ExcCls K D/\PySem.W.kitOne K (.ref D) (.ref C) = some b/\Q (.bl b) H
abbrev rGT (K:PySem.W.Frag):List V->Hp->VK->Prop:=fun xs H Q=>∃ (ea D:Addr) (T:String) (b:Bool),xs = [.ref ea,.ty T]/\ExcH H ea D/\ExcCls K D/\PySem.W.kitOne K (.ref D) (.type T) = some b/\Q (.bl b) H
abbrev rGs (K:PySem.W.Frag):List V->Hp->VK->Prop:=fun xs H Q=>∃ (ea D tp:Addr) (cs:List Addr) (b:Bool),xs = [.ref ea,.ref tp]/\ExcH H ea D/\ExcCls K D/\H tp = some (.tup (cs.map V.ref))/\PySem.W.kitAny K (.ref D) (cs.map Value.ref) = some b/\Q (.bl b) H
def spWords (K:PySem.W.Frag) (cl oc:Nat->Addr) (MI CE:Addr) (ea:Addr):Sp:=fun vs H Q _=>∃ (i n:Nat) (d t:Addr),vs = [.ref ea]/\i < 6/\SortW K cl oc MI CE i/\H ea = some (excC ea (cl i) (some d) t)/\H d = some (.xd [("number",.int (n:Nat))])/\
 ∀ (l u:Addr) (H':Hp),Same H H'->H' l = some (.lst [.ref u])->H' u = some (.tup [.str (wordS i),.int (n:Nat)])->Q (.ref l) H'
def WdOk (z:Str):Prop:=wordS (misI z) = z
theorem wd0:WdOk "doubled":=by unfold WdOk; decide +kernel
theorem wd1:WdOk "over":=by unfold WdOk; decide +kernel
theorem wd2:WdOk "barred":=by unfold WdOk; decide +kernel
theorem wd3:WdOk "again":=by unfold WdOk; decide +kernel
theorem wd4:WdOk "strange":=by unfold WdOk; decide +kernel
theorem wd5:WdOk "lacking":=by unfold WdOk; decide +kernel
def spXI (K:PySem.W.Frag) (nm:Str):Sp:=fun vs H Q _=>∃ (x C t:Addr) (v:V),vs = [.ref x,v]/\H x = some (excX x C none t)/\XSet K C/\NoAttr K C nm/\∀ dx,H dx = none->Q .non (upd (upd H x (excX x C (some dx) t)) dx (.xd [(nm,v)]))
section
variable {P:Program} {w:World} {K:PySem.W.Frag} {mg:Str->Option Value} {base:Heap} {f MI CE:Addr} {fd:FuncData} {cl oc:Nat->Addr}
theorem scXMis:FnScope ["self","number"] ["self","number"] (defScope sXMis):=⟨rfl,rfl,rfl,by decide +kernel,rfl,by decide +kernel,by decide +kernel⟩
theorem ok_xmis (F:Fun K "__init__" "Misfit.__init__" sXMis f fd):FnOk P w K mg base CX0 1 f fd ["self","number"] (spXI K "number"):=by
 refine F.ok scXMis (fun vs H Q E h=>?_) (fun cdv A outer s H vs Q E hr h=>?_)
 ·obtain ⟨x,C,t,v,rfl,_⟩:=h
  rfl
 obtain ⟨x,C,t,v,rfl,hx,m,n,q⟩:=h
 refine ⟨_,pss_one (ps_fldX (pv 0) (pv 1) rfl),?_⟩
 exact ⟨_,rfl,_,rfl,x,C,t,rfl,hx,m,n,q⟩
theorem same_drop2 {H H2:Hp} {x d:Addr} {o o' o'':HO} (s:Same H H2) (hx:H2 x = none) (hd:upd H2 x o d = none):Same H (drop (upd (upd (upd H2 x o) x o') d o'') x):=fun b u e=>by
 have nx:b ≠ x:=ne_of_none (s _ _ e) hx
 have e2:upd H2 x o b = some u:=by rw [upd_ne nx]; exact s _ _ e
 rw [drop_ne nx,upd_ne (ne_of_none e2 hd),upd_ne nx]
 exact e2
theorem drop_at2 {H2:Hp} {x d:Addr} {o o' o'':HO} (hd:upd H2 x o d = none):drop (upd (upd (upd H2 x o) x o') d o'') x d = some o'':=by
 have:d ≠ x:=fun z=>by rw [z,upd_same] at hd; cases hd
 rw [drop_ne this,upd_same]
structure XCls (P:Program) (w:World) (K:PySem.W.Frag) (mg:Str->Option Value) (base:Heap) (x:Str) (C g:Addr) (gd:FuncData) (a nm:Str):Prop where
 call:XCall K C g
 set:XSet K C
 no:NoAttr K C nm
 ex:ExcCls K C
 gl:mg x = some (.ref C)
 ok:FnOk P w K mg base CX0 1 g gd ["self",a] (spXI K nm)
 bd:Binds K gd ["self",a] []
structure X6 (P:Program) (w:World) (K:PySem.W.Frag) (mg:Str->Option Value) (base:Heap) (cl:Nat->Addr) (g:Addr) (gd:FuncData):Prop where
 x0:XCls P w K mg base "Doubled" (cl 0) g gd "number" "number"
 x1:XCls P w K mg base "Over" (cl 1) g gd "number" "number"
 x2:XCls P w K mg base "Barred" (cl 2) g gd "number" "number"
 x3:XCls P w K mg base "Again" (cl 3) g gd "number" "number"
 x4:XCls P w K mg base "Strange" (cl 4) g gd "number" "number"
 x5:XCls P w K mg base "Lacking" (cl 5) g gd "number" "number"
theorem rz_go {g:Addr} {gd:FuncData} {x:Str} {C:Addr} {H0 H1:Hp} {v:V} {E:XK} (X':XCls P w K mg base x C g gd "number" "number") (fr:∀ b,H1 b = none->H0 b = none) (q:∀ (d:Addr) (H':Hp),Same H1 H'->H' d = some (.xd [("number",v)])->E (.ref C) (some d) H') :
  [v].length<=sizeLine/\∀ x tu,H1 x = none->H1 tu = none->tu ≠ x->spXI K "number" (.ref x :: [v]) (upd H1 x (excX x C none tu)) (fun v' H2=>v' = .non/\∃ (ea C:Addr) (od:Option Addr) (t:Addr),V.ref x = .ref ea/\H2 ea = some (excX ea C od t)/\ExcCls K C/\xmIn K C = true/\H0 ea = none/\E (.ref C) od (drop H2 ea)) E0:=by
 refine ⟨by show 1<=sizeLine; decide,fun x tu hxn htn hne=>?_⟩
 refine ⟨x,_,tu,_,rfl,upd_same,X'.set,X'.no,fun d hd=>⟨rfl,x,_,some d,tu,rfl,?_,X'.ex,X'.call.ob,fr _ hxn,?_⟩⟩
 ·have:x ≠ d:=fun z=>by rw [<- z,upd_same] at hd; cases hd
  rw [upd_ne this,upd_same]
 ·exact q d _ (same_drop2 (Same.refl _) hxn hd) (drop_at2 hd)
theorem scIsInt:FnScope ["_law_found"] ["_law_found"] (defScope sIsInt):=⟨rfl,rfl,rfl,by decide +kernel,rfl,by decide +kernel,by decide +kernel⟩
theorem ok_isIntM (F:Fun K "_law_is_int" "_law_is_int" sIsInt f fd) (T:Txt2 K mg):FnOkM P w K mg base 1 f fd ["_law_found"] spIsInt:=by
 refine F.okM scIsInt (fun vs H Q E h=>?_) (fun cdv A outer s H vs Q hr h=>?_)
 ·obtain ⟨i,rfl,_⟩:=h
  rfl
 obtain ⟨i,rfl,q⟩:=h
 refine ⟨_,pss_one (ps_ret (pe_and (pe_not (cB call_isinst T.isi boot_isinstance (ac (pv 0) (ac (pe_bltn (v:=.ty "bool") rfl T.bool PyProof.Rows.boot_bool rfl) pa_nil))))
  (pe_one (cB call_isinst T.isi boot_isinstance (ac (pv 0) (ac (pe_bltn (v:=.ty "int") rfl T.int PyProof.Rows.boot_int rfl) pa_nil)))))),?_⟩
 refine ⟨_,rfl,_,_,_,_,rfl,.int i,kt_int_bool K,_,rfl,_,rfl,?_⟩
 refine iteT ?_
 exact ⟨_,rfl,_,_,_,_,rfl,.int i,kt_int_int K,q⟩
theorem ndWd:([Str.ofString "_law_word",Str.ofString "_law_truth",Str.ofString "_law_e"]:List Str).Nodup:=by decide +kernel
theorem scWords:FnScope ["_law_e","_law_some","_law_others"] ["_law_e"] (defScope sWords):=⟨rfl,rfl,rfl,by decide +kernel,rfl,by decide +kernel,by decide +kernel⟩
theorem ok_words {g1:Addr} {d1:FuncData} (F:Fun K "_law_words" "_law_words" sWords f fd) (U:TxtW mg cl oc MI CE) (cI:CalleeM P w K mg base 1 "_law_is_int" g1 d1 ["_law_found"] spIsInt) (ea:Addr):FnOkH P w K mg base ea 2 f fd ["_law_e"] (spWords K cl oc MI CE ea):=by
 refine F.okH scWords (fun vs H Q E h=>?_) (fun cdv A outer s H vs Q hA hr h=>?_)
 ·obtain ⟨i,n,d,t,rfl,_⟩:=h
  rfl
 obtain ⟨i,n,d,t,rfl,hi,so,hea,hd,q⟩:=h
 refine ⟨_,pss_cons (ps_set (i:=1) scWords.nd rfl (Or.inl rfl) (pe_lst (ac (pe_tup (ac pe_str (ac (cB (r:=rG K) call_isinstG U.isi boot_isinstance (ac (pv 0) (ac (pe_glob (v:=.ref (cl 0)) rfl U.m0 rfl) pa_nil))) pa_nil))) (ac (pe_tup (ac pe_str (ac (cB (r:=rG K) call_isinstG U.isi boot_isinstance (ac (pv 0) (ac (pe_glob (v:=.ref (cl 1)) rfl U.m1 rfl) pa_nil))) pa_nil))) (ac (pe_tup (ac pe_str (ac (cB (r:=rG K) call_isinstG U.isi boot_isinstance (ac (pv 0) (ac (pe_glob (v:=.ref (cl 2)) rfl U.m2 rfl) pa_nil))) pa_nil))) pa_nil)))))
  (pss_cons (ps_set (i:=1) scWords.nd rfl (Or.inl rfl) (pe_op op_cat (pv 1) (pe_lst (ac (pe_tup (ac pe_str (ac (cB (r:=rG K) call_isinstG U.isi boot_isinstance (ac (pv 0) (ac (pe_glob (v:=.ref (cl 3)) rfl U.m3 rfl) pa_nil))) pa_nil))) (ac (pe_tup (ac pe_str (ac (cB (r:=rG K) call_isinstG U.isi boot_isinstance (ac (pv 0) (ac (pe_glob (v:=.ref (cl 4)) rfl U.m4 rfl) pa_nil))) pa_nil))) pa_nil)))))
  (pss_cons (ps_set (i:=1) scWords.nd rfl (Or.inl rfl) (pe_op op_cat (pv 1) (pe_lst (ac (pe_tup (ac pe_str (ac (cB (r:=rG K) call_isinstG U.isi boot_isinstance (ac (pv 0) (ac (pe_glob (v:=.ref (cl 5)) rfl U.m5 rfl) pa_nil))) pa_nil))) pa_nil))))
  (pss_cons (ps_set (i:=2) scWords.nd rfl (Or.inl rfl) (cB (r:=rGs K) call_isinstGs U.isi boot_isinstance (ac (pv 0) (ac (pe_tup (ac (pe_glob (v:=.ref (oc 0)) rfl U.o0 rfl) (ac (pe_glob (v:=.ref (oc 1)) rfl U.o1 rfl) (ac (pe_glob (v:=.ref (oc 2)) rfl U.o2 rfl) (ac (pe_glob (v:=.ref (oc 3)) rfl U.o3 rfl) (ac (pe_glob (v:=.ref (oc 4)) rfl U.o4 rfl) (ac (pe_glob (v:=.ref (oc 5)) rfl U.o5 rfl) (ac (pe_glob (v:=.ref (oc 6)) rfl U.o6 rfl) (ac (pe_glob (v:=.ref (oc 7)) rfl U.o7 rfl) (ac (pe_glob (v:=.ref (oc 8)) rfl U.o8 rfl) pa_nil)))))))))) pa_nil))))
  (pss_cons (ps_if (PW.pt (pw_or (pt_val (pv 2)) (pw_or (pt_not (pt_val (cB (r:=rG K) call_isinstG U.isi boot_isinstance (ac (pv 0) (ac (pe_glob (v:=.ref MI) rfl U.mi rfl) pa_nil))))) (pw_or (pt_not (pt_val (cB (r:=rGT K) call_isinstGT U.isi boot_isinstance (ac (pv 0) (ac (pe_bltn (v:=.ty "ValueError") rfl U.ve (by decide +kernel:bootBuiltins "ValueError" = some (.type "ValueError")) rfl) pa_nil))))) (pw_or1 (pt_not (pt_val (cM cI hr (ac (pe_fldCK (K:=K) rfl (pv 0) rfl) pa_nil))))))))) (pss_one ps_dead) pss_nil)
  (pss_one (ps_ret (pe_lcH (ea:=ea) ["_law_e"] ["_law_word","_law_truth","_law_e"] [none,none,some 0] hA ⟨rfl,rfl,rfl,rfl⟩ (pi_listH (pv 1)) (gown_tup2H (K:=K) (n:=2) (ea:=ea) 0 1) rfl rfl rfl
   (fun pins fp s H C=>⟨pg_tupH (K:=K) rfl hA (pgs_cons (pg_name (i:=0) ndWd rfl (Or.inl rfl) (.inr rfl)) (pgs_cons (pg_name (i:=1) ndWd rfl (Or.inl rfl) (.inr rfl)) pgs_nil)),pif_one (pt_val (pv 1)),pe_tup (ac (pv 0) (ac (pe_fldCK (K:=K) rfl (pv 2) rfl) pa_nil))⟩)))))))),?_⟩
 have he:ExcH H ea (cl i):=.inl ⟨_,_,hea⟩
 refine ⟨_,rfl,ea,cl i,cl 0,_,rfl,he,so.ex,so.k 0 (by decide),(by show 2<=sizeLine; decide),fun u0 hu0=>?_⟩
 have s0:=same_new hu0 (.tup [.str "doubled",.bl (decide (0 = i))])
 have w0:upd H u0 (.tup [.str "doubled",.bl (decide (0 = i))]) u0 = some (.tup [.str "doubled",.bl (decide (0 = i))]):=upd_same
 generalize upd H u0 (.tup [.str "doubled",.bl (decide (0 = i))]) = H0 at s0 w0 |-
 have he:=he.same s0
 refine ⟨_,rfl,ea,cl i,cl 1,_,rfl,he,so.ex,so.k 1 (by decide),(by show 2<=sizeLine; decide),fun u1 hu1=>?_⟩
 have s1:=same_new hu1 (.tup [.str "over",.bl (decide (1 = i))])
 have w1:upd H0 u1 (.tup [.str "over",.bl (decide (1 = i))]) u1 = some (.tup [.str "over",.bl (decide (1 = i))]):=upd_same
 generalize upd H0 u1 (.tup [.str "over",.bl (decide (1 = i))]) = H1 at s1 w1 |-
 have he:=he.same s1
 have w0:=s1 _ _ w0
 refine ⟨_,rfl,ea,cl i,cl 2,_,rfl,he,so.ex,so.k 2 (by decide),(by show 2<=sizeLine; decide),fun u2 hu2=>?_⟩
 have s2:=same_new hu2 (.tup [.str "barred",.bl (decide (2 = i))])
 have w2:upd H1 u2 (.tup [.str "barred",.bl (decide (2 = i))]) u2 = some (.tup [.str "barred",.bl (decide (2 = i))]):=upd_same
 generalize upd H1 u2 (.tup [.str "barred",.bl (decide (2 = i))]) = H2 at s2 w2 |-
 have he:=he.same s2
 have w0:=s2 _ _ w0
 have w1:=s2 _ _ w1
 refine ⟨(by show 3<=sizeLine; decide),fun la hla=>?_⟩
 have sla:=same_new hla (.lst [.ref u0,.ref u1,.ref u2])
 have gla:upd H2 la (.lst [.ref u0,.ref u1,.ref u2]) la = some (.lst [.ref u0,.ref u1,.ref u2]):=upd_same
 try dsimp only [gName]
 generalize upd H2 la (.lst [.ref u0,.ref u1,.ref u2]) = Hla at sla gla |-
 have he:=he.same sla
 have w0:=sla _ _ w0
 have w1:=sla _ _ w1
 have w2:=sla _ _ w2
 refine ⟨_,rfl,?_⟩
 refine ⟨_,rfl,ea,cl i,cl 3,_,rfl,he,so.ex,so.k 3 (by decide),(by show 2<=sizeLine; decide),fun u3 hu3=>?_⟩
 have s3:=same_new hu3 (.tup [.str "again",.bl (decide (3 = i))])
 have w3:upd Hla u3 (.tup [.str "again",.bl (decide (3 = i))]) u3 = some (.tup [.str "again",.bl (decide (3 = i))]):=upd_same
 generalize upd Hla u3 (.tup [.str "again",.bl (decide (3 = i))]) = H3 at s3 w3 |-
 have he:=he.same s3
 have w0:=s3 _ _ w0
 have w1:=s3 _ _ w1
 have w2:=s3 _ _ w2
 have gla:=s3 _ _ gla
 refine ⟨_,rfl,ea,cl i,cl 4,_,rfl,he,so.ex,so.k 4 (by decide),(by show 2<=sizeLine; decide),fun u4 hu4=>?_⟩
 have s4:=same_new hu4 (.tup [.str "strange",.bl (decide (4 = i))])
 have w4:upd H3 u4 (.tup [.str "strange",.bl (decide (4 = i))]) u4 = some (.tup [.str "strange",.bl (decide (4 = i))]):=upd_same
 generalize upd H3 u4 (.tup [.str "strange",.bl (decide (4 = i))]) = H4 at s4 w4 |-
 have he:=he.same s4
 have w0:=s4 _ _ w0
 have w1:=s4 _ _ w1
 have w2:=s4 _ _ w2
 have w3:=s4 _ _ w3
 have gla:=s4 _ _ gla
 refine ⟨(by show 2<=sizeLine; decide),fun lb hlb=>?_⟩
 have slb:=same_new hlb (.lst [.ref u3,.ref u4])
 have glb:upd H4 lb (.lst [.ref u3,.ref u4]) lb = some (.lst [.ref u3,.ref u4]):=upd_same
 try dsimp only [gName]
 generalize upd H4 lb (.lst [.ref u3,.ref u4]) = Hlb at slb glb |-
 have he:=he.same slb
 have w0:=slb _ _ w0
 have w1:=slb _ _ w1
 have w2:=slb _ _ w2
 have w3:=slb _ _ w3
 have w4:=slb _ _ w4
 have gla:=slb _ _ gla
 refine ⟨la,lb,_,_,rfl,rfl,gla,glb,(by show 5<=sizeLine; decide),fun lc hlc=>?_⟩
 rw [show ([.ref u0,.ref u1,.ref u2] ++ [.ref u3,.ref u4]:List V) = [.ref u0,.ref u1,.ref u2,.ref u3,.ref u4] from rfl]
 have slc:=same_new hlc (.lst [.ref u0,.ref u1,.ref u2,.ref u3,.ref u4])
 have glc:upd Hlb lc (.lst [.ref u0,.ref u1,.ref u2,.ref u3,.ref u4]) lc = some (.lst [.ref u0,.ref u1,.ref u2,.ref u3,.ref u4]):=upd_same
 try dsimp only [gName]
 generalize upd Hlb lc (.lst [.ref u0,.ref u1,.ref u2,.ref u3,.ref u4]) = Hlc at slc glc |-
 have he:=he.same slc
 have w0:=slc _ _ w0
 have w1:=slc _ _ w1
 have w2:=slc _ _ w2
 have w3:=slc _ _ w3
 have w4:=slc _ _ w4
 refine ⟨_,rfl,?_⟩
 refine ⟨_,rfl,ea,cl i,cl 5,_,rfl,he,so.ex,so.k 5 (by decide),(by show 2<=sizeLine; decide),fun u5 hu5=>?_⟩
 have s5:=same_new hu5 (.tup [.str "lacking",.bl (decide (5 = i))])
 have w5:upd Hlc u5 (.tup [.str "lacking",.bl (decide (5 = i))]) u5 = some (.tup [.str "lacking",.bl (decide (5 = i))]):=upd_same
 generalize upd Hlc u5 (.tup [.str "lacking",.bl (decide (5 = i))]) = H5 at s5 w5 |-
 have he:=he.same s5
 have w0:=s5 _ _ w0
 have w1:=s5 _ _ w1
 have w2:=s5 _ _ w2
 have w3:=s5 _ _ w3
 have w4:=s5 _ _ w4
 have glc:=s5 _ _ glc
 refine ⟨(by show 1<=sizeLine; decide),fun ld hld=>?_⟩
 have sld:=same_new hld (.lst [.ref u5])
 have gld:upd H5 ld (.lst [.ref u5]) ld = some (.lst [.ref u5]):=upd_same
 try dsimp only [gName]
 generalize upd H5 ld (.lst [.ref u5]) = Hld at sld gld |-
 have he:=he.same sld
 have w0:=sld _ _ w0
 have w1:=sld _ _ w1
 have w2:=sld _ _ w2
 have w3:=sld _ _ w3
 have w4:=sld _ _ w4
 have w5:=sld _ _ w5
 have glc:=sld _ _ glc
 refine ⟨lc,ld,_,_,rfl,rfl,glc,gld,(by show 6<=sizeLine; decide),fun le hle=>?_⟩
 rw [show ([.ref u0,.ref u1,.ref u2,.ref u3,.ref u4] ++ [.ref u5]:List V) = [.ref u0,.ref u1,.ref u2,.ref u3,.ref u4,.ref u5] from rfl]
 have sle:=same_new hle (.lst [.ref u0,.ref u1,.ref u2,.ref u3,.ref u4,.ref u5])
 have gle:upd Hld le (.lst [.ref u0,.ref u1,.ref u2,.ref u3,.ref u4,.ref u5]) le = some (.lst [.ref u0,.ref u1,.ref u2,.ref u3,.ref u4,.ref u5]):=upd_same
 try dsimp only [gName]
 generalize upd Hld le (.lst [.ref u0,.ref u1,.ref u2,.ref u3,.ref u4,.ref u5]) = Hle at sle gle |-
 have he:=he.same sle
 have w0:=sle _ _ w0
 have w1:=sle _ _ w1
 have w2:=sle _ _ w2
 have w3:=sle _ _ w3
 have w4:=sle _ _ w4
 have w5:=sle _ _ w5
 have sA:Same H Hle:=s0.trans (s1.trans (s2.trans (sla.trans (s3.trans (s4.trans (slb.trans (slc.trans (s5.trans (sld.trans (sle))))))))))
 refine ⟨_,rfl,(by show 9<=sizeLine; decide),fun tp htp=>?_⟩
 have st:=same_new htp (.tup [.ref (oc 0),.ref (oc 1),.ref (oc 2),.ref (oc 3),.ref (oc 4),.ref (oc 5),.ref (oc 6),.ref (oc 7),.ref (oc 8)])
 have gt:upd Hle tp (.tup [.ref (oc 0),.ref (oc 1),.ref (oc 2),.ref (oc 3),.ref (oc 4),.ref (oc 5),.ref (oc 6),.ref (oc 7),.ref (oc 8)]) tp = some (.tup ([oc 0,oc 1,oc 2,oc 3,oc 4,oc 5,oc 6,oc 7,oc 8].map V.ref)):=upd_same
 generalize upd Hle tp (.tup [.ref (oc 0),.ref (oc 1),.ref (oc 2),.ref (oc 3),.ref (oc 4),.ref (oc 5),.ref (oc 6),.ref (oc 7),.ref (oc 8)]) = HT at st gt |-
 have he:=he.same st
 have sB:=sA.trans st
 refine ⟨ea,cl i,tp,_,false,rfl,he,so.ex,gt,so.oth,?_⟩
 refine ⟨_,rfl,_,rfl,?_⟩
 refine iteF ?_
 refine ⟨_,rfl,ea,cl i,MI,true,rfl,he,so.ex,so.mi,_,rfl,?_⟩
 refine iteF ?_
 refine ⟨_,rfl,ea,cl i,"ValueError",true,rfl,he,so.ex,so.ve,_,rfl,?_⟩
 refine iteF ?_
 refine ⟨_,rfl,ea,cl i,t,d,_,.int (n:Nat),rfl,sB _ _ hea,sB _ _ hd,so.ex,so.set,so.no,rfl,_,rfl,_,rfl,?_⟩
 refine iteF ?_
 refine ⟨_,rfl,le,cl i,some d,t,rfl,⟨_,SqL.of (st _ _ gle)⟩,fun D hD=>?_⟩
 have w0:=st _ _ w0
 have w1:=st _ _ w1
 have w2:=st _ _ w2
 have w3:=st _ _ w3
 have w4:=st _ _ w4
 have w5:=st _ _ w5
 have gle:=st _ _ gle
 have hw:∀ k x,([.ref u0,.ref u1,.ref u2,.ref u3,.ref u4,.ref u5]:List V)[k]? = some x->∃ u,x = .ref u/\HT u = some (.tup [.str (wordS k),.bl (decide (k = i))]):=fun k x hx=>by
  match k,hx with
  | 0,hx=>cases hx; exact ⟨u0,rfl,w0⟩
  | 1,hx=>cases hx; exact ⟨u1,rfl,w1⟩
  | 2,hx=>cases hx; exact ⟨u2,rfl,w2⟩
  | 3,hx=>cases hx; exact ⟨u3,rfl,w3⟩
  | 4,hx=>cases hx; exact ⟨u4,rfl,w4⟩
  | 5,hx=>cases hx; exact ⟨u5,rfl,w5⟩
  | k + 6,hx=>cases hx
 refine lc_listH (K:=K) (xs:=[.ref u0,.ref u1,.ref u2,.ref u3,.ref u4,.ref u5]) (fun k ys H'=>Same HT H'/\H' D = some (.lst ys)/\((k<=i/\ys = [])\/(i < k/\∃ u,ys = [.ref u]/\H' u = some (.tup [.str (wordS i),.int (n:Nat)])))) ⟨same_new hD _,upd_same,.inl ⟨Nat.zero_le _,rfl⟩⟩ (fun k ys H' h=>SqL.of (h.1 _ _ gle)) (fun k ys H' h=>h.1 _ _ (sB _ _ hea)) ?_ ?_
 ·rintro k x ys H' hk hx ⟨sH,hDy,hys⟩
  obtain ⟨u,rfl,hu⟩:=hw k x hx
  have sH2:=(sB.trans sH)
  refine ⟨u,_,cl i,some d,t,rfl,SqT.of (sH _ _ hu),rfl,sH2 _ _ hea,_,_,rfl,_,_,rfl,rfl,_,rfl,_,rfl,?_⟩
  by_cases hki:k = i
  ·subst hki
   refine ⟨fun _=>?_,fun e=>by rw [decide_eq_true rfl] at e; cases e⟩
   rcases hys with ⟨_,rfl⟩ | ⟨z,_⟩
   ·refine ⟨_,rfl,_,rfl,ea,cl k,t,d,_,.int (n:Nat),rfl,sH2 _ _ hea,sH2 _ _ hd,so.ex,so.set,so.no,rfl,(by show 2<=sizeLine; decide),fun v hv=>?_⟩
    have s9:=same_new hv (.tup [.str (wordS k),.int (n:Nat)])
    refine lcN.mk hk (by show 6<=sizeLine; decide) (s9 _ _ hDy) (Nat.zero_le _) ⟨fun b' u' e=>?_,upd_same,.inr ⟨Nat.lt_succ_self _,v,rfl,?_⟩⟩
    ·rw [upd_ne (ne_of_none e hD)]
     exact s9 _ _ (sH _ _ e)
    ·rw [upd_ne (ne_of_none hDy hv).symm,upd_same]
   ·omega
  ·refine ⟨fun e=>absurd (of_decide_eq_true e) hki,fun _=>lcS.mk hk ⟨sH,hDy,?_⟩⟩
   rcases hys with ⟨h1,rfl⟩ | ⟨h1,h2⟩
   ·exact .inl ⟨by omega,rfl⟩
   ·exact .inr ⟨by omega,h2⟩
 ·rintro ys H' ⟨sH,hDy,hys⟩
  rcases hys with ⟨h1,_⟩ | ⟨_,u,rfl,hu⟩
  ·exact absurd h1 (by show ¬ 6<=i; omega)
  ·exact q D u H' (sB.trans sH) hDy hu
end
end K52
namespace L2
open PySem PySem.Spec PyProof.Rows
def tCallV (i:Nat) (I:Type) (ad:I->Addr) (sp:I->Sp) (E:XK) (t:TA):TE:=fun σ H Q=>∃ j,σ[i]? = some (some (.ref (ad j)))/\t σ H fun vs H1=>sp j vs H1 Q E
structure Deeds (P:Program) (w:World) (K:PySem.W.Frag) (mg:Str->Option Value) (base:Heap) (CX:CXT) (k:Nat) (I:Type) (ad:I->Addr) (fd:I->FuncData) (ps:List Str) (sp:I->Sp):Prop where
 ok:∀ j,FnOk P w K mg base CX k (ad j) (fd j) ps (sp j)
 kp:∀ j,PySem.W.keepIn K (.ref (ad j)) = true
 bd:∀ j,Binds K (fd j) ps []
section
variable {X:Cx} {CX:CXT} {k:Nat} {I:Type} {ad:I->Addr} {fd:I->FuncData} {ps:List Str} {sp:I->Sp} {E:XK} {x:Str} {p pos:Pos} {e:Expr} {es:List Expr} {t:TA}
theorem pe_callV (i:Nat) (F:Deeds X.prog X.w X.K X.mg X.base CX k I ad fd ps sp) (hr:Room k X.A) (hx:Passes CX X E) (ha:PA X (e :: es) t) (hN:X.N[i]? = some x:=by rfl)
  (hv:Vis X.env.scope x:=by first | exact Or.inl rfl | exact Or.inr (Or.inl rfl) | exact Or.inr (Or.inr rfl)) (hd:(x == ("__debug__" : Str)) = false:=by decide) (hcd:(x == ("__classdict__" : Str)) = false:=by decide)
  (he:starEach (e :: es) X.env = (false,eval e X.env) :: starEach es X.env:=by rfl) (hpl:(backTo pos (starEach es X.env)).any (·.1) = false:=by rfl) :
  PE X (.Call (.Name x p) (e :: es) [] pos) (tCallV i I ad sp E t):=by
 refine ⟨?_⟩
 intro pins s σ H Q Iv h
 obtain ⟨j,hj,h⟩:=h
 refine wpAny_Call_Name_kw (thn ((pe_var (pos:=p) hN hv hd hcd).run pins s σ H (fun y H1=>y = .ref (ad j)/\H1 = H) Iv ⟨_,hj,rfl,rfl⟩) fun u s1 ⟨y,H1,I1,r,ey,eH⟩=>?_)
 subst ey eH
 cases r
 refine PySem.W.callWith_K (h₀:=X.base) I1.ok.mod.kin (F.kp j) (thn (ha pos pins s1 σ H1 _ I1 h) fun us s2 ⟨vs,H2,I2,r2,q⟩=>⟨I2.kIn,?_⟩) he hpl
 exact run_fn (F.ok j) hr (F.bd j) .nil hx I2 r2 (by rw [List.append_nil]; exact q)
end
end L2
namespace K52
open PySem L2 PyProof.Rows
theorem SX.upd {f:Addr} {H H1:Hp} {o:HO} (x:SX f H H1):SX f H (L2.upd H1 f o):=fun b u e n=>by rw [upd_ne n]; exact x b u e n
theorem SX.refl {f:Addr} {H:Hp}:SX f H H:=fun _ _ e _=>e
structure WA where
 (dx le lp ln lu ld lb:Addr)
def wf (a:WA):List (Str × V):=[("entries",.ref a.le),("unused_places",.ref a.lp),("names",.ref a.ln),("unused_names",.ref a.lu),("doors",.ref a.ld),("barred",.ref a.lb)]
theorem wf_1 {a:WA}:(wf a).lookup ("entries" : Str) = some (.ref a.le):=rfl
theorem wf_2 {a:WA}:(wf a).lookup ("unused_places" : Str) = some (.ref a.lp):=rfl
theorem wf_3 {a:WA}:(wf a).lookup ("names" : Str) = some (.ref a.ln):=rfl
theorem wf_4 {a:WA}:(wf a).lookup ("unused_names" : Str) = some (.ref a.lu):=rfl
theorem wf_5 {a:WA}:(wf a).lookup ("doors" : Str) = some (.ref a.ld):=rfl
theorem wf_6 {a:WA}:(wf a).lookup ("barred" : Str) = some (.ref a.lb):=rfl
theorem wf_p {a:WA} {x:Addr}:putF "unused_places" (.ref x) (wf a) = wf { a with lp:=x }:=rfl
theorem wf_u {a:WA} {x:Addr}:putF "unused_names" (.ref x) (wf a) = wf { a with lu:=x }:=rfl
theorem wf_all {a:WA}:putF "barred" (.ref a.lb) (putF "doors" (.ref a.ld) (putF "unused_names" (.ref a.lu) (putF "names" (.ref a.ln) (putF "unused_places" (.ref a.lp) (putF "entries" (.ref a.le) []))))) = wf a:=rfl
structure WC (K:PySem.W.Frag) (CW:Addr):Prop where
 cl:Cls K CW
 n1:NoAttr K CW "entries"
 n2:NoAttr K CW "unused_places"
 n3:NoAttr K CW "names"
 n4:NoAttr K CW "unused_names"
 n5:NoAttr K CW "doors"
 n6:NoAttr K CW "barred"
structure MS where
 (d d1 d2:Doors) (es:List (Option En)) (us un l:List Nat)
structure MR (zs:List Str) (s:MS):Prop where
 sh:∀ z,(valV s.d2 (.inr z)).isSome = dShut s.d z
 op:∀ z,dShut s.d z = false->valV s.d1 (.inr z) = valV s.d (.inr z)
 un:(s.us = []/\s.un = List.range zs.length)\/((∀ j,j < zs.length->j ∈ s.us)/\s.un = [])
 dk:DOk s.es.length s.d
def MX (K:PySem.W.Frag) (H0:Hp) (le:Addr) (B:Nat) (H:Hp) (x:V):Prop:=x = .non\/∃ u,x = .ref u/\((∃ (wd:Str) (n:Nat),SqT K H u [.str wd,.int (n:Nat)]/\(wd = "place"\/wd = "name"))\/SqT K H u [.str "free"]\/∃ (wd:Str) (l:Addr) (ys:List V),SqT K H u [.str wd,.ref l]/\(wd = "places"\/wd = "names")/\H0 l = none/\l ≠ le/\H l = some (.lst ys)/\ys.length<=B)
theorem MX.map {K:PySem.W.Frag} {H0 H H':Hp} {le:Addr} {B B':Nat} {x:V} (h:MX K H0 le B H x) (t:∀ u vs,SqT K H u vs->SqT K H' u vs) (tl:∀ l ys,l ≠ le->H l = some (.lst ys)->ys.length<=B->∃ ys',H' l = some (.lst ys')/\ys'.length<=B'):MX K H0 le B' H' x:=by
 rcases h with h | ⟨u,e,⟨wd,n,a,b⟩ | a | ⟨wd,l,ys,a,b,c,d,f,g⟩⟩
 ·exact .inl h
 ·exact .inr ⟨u,e,.inl ⟨wd,n,t _ _ a,b⟩⟩
 ·exact .inr ⟨u,e,.inr (.inl (t _ _ a))⟩
 ·obtain ⟨ys',f',g'⟩:=tl l ys d f g
  exact .inr ⟨u,e,.inr (.inr ⟨wd,l,ys',t _ _ a,b,c,d,f',g'⟩)⟩
theorem sqT_d {K:PySem.W.Frag} {H:Hp} {u l:Addr} {vs:List V} {d d':Doors} (h:SqT K H u vs) (hl:H l = some (.dK d)):SqT K (upd H l (.dK d')) u vs:=by
 rcases h with (h | ⟨o,h⟩) | h
 ·exact .inl (.inl (by rw [upd_ne (fun e=>by rw [e,hl] at h; cases h)]; exact h))
 ·exact .inl (.inr ⟨o,by rw [upd_ne (fun e=>by rw [e,hl] at h; cases h)]; exact h⟩)
 ·exact .inr h
theorem sqT_w {K:PySem.W.Frag} {H:Hp} {u wk:Addr} {vs:List V} {C dx:Addr} {fs fs':List (Str × V)} (h:SqT K H u vs) (hw:H wk = some (.ins C dx fs)):SqT K (upd H wk (.ins C dx fs')) u vs:=by
 rcases h with (h | ⟨o,h⟩) | h
 ·exact .inl (.inl (by rw [upd_ne (fun e=>by rw [e,hw] at h; cases h)]; exact h))
 ·exact .inl (.inr ⟨o,by rw [upd_ne (fun e=>by rw [e,hw] at h; cases h)]; exact h⟩)
 ·exact .inr h
def FrE (K:PySem.W.Frag) (H0 H:Hp) (le:Addr):Prop:=∀ xs,H le = some (.lst xs)->∀ x ∈ xs,MX K H0 le 100 H x
theorem FrE.same {K:PySem.W.Frag} {H0 H H':Hp} {le:Addr} {xs:List V} (h:FrE K H0 H le) (e:H le = some (.lst xs)) (t:Same H H'):FrE K H0 H' le:=fun ys ey y hy=>by
 rw [t _ _ e] at ey
 cases ey
 exact (h _ e y hy).map (fun _ _ z=>t.sqT z) fun l ys _ hl g=>⟨ys,t _ _ hl,g⟩
theorem FrE.set {K:PySem.W.Frag} {H0 H:Hp} {le:Addr} {xs:List V} {q:Nat} {x:V} (h:FrE K H0 H le) (e:H le = some (.lst xs)) (hx:MX K H0 le 100 H x):FrE K H0 (upd H le (.lst (xs.set q x))) le:=fun ys ey y hy=>by
 rw [upd_same] at ey
 cases ey
 refine MX.map ?_ (fun _ _ z=>sqT_upd z e) fun l ys n hl g=>⟨ys,by rw [upd_ne n]; exact hl,g⟩
 rcases List.mem_or_eq_of_mem_set hy with hy | rfl
 ·exact h _ e y hy
 ·exact hx
structure WI (K:PySem.W.Frag) (CW:Addr) (H0 H:Hp) (wk:Addr) (zs:List Str) (B:Nat) (a:WA) (s:MS):Prop where
 o:Same H0 H
 w:H wk = some (.ins CW a.dx (wf a))
 e:EsAt K [a.le,a.lp] H a.le s.es
 p:H a.lp = some (.lst ((natI s.l).map V.int))
 n:H a.ln = some (.lst (zs.map V.str))
 u:H a.lu = some (.lst ((natI s.un).map V.int))
 d:H a.ld = some (.dK s.d1)
 b:H a.lb = some (.dK s.d2)
 z:H0 wk = none/\H0 a.le = none/\H0 a.lp = none/\H0 a.ld = none/\H0 a.lb = none
 ne:a.le ≠ a.lp/\a.ln ≠ a.le/\a.ln ≠ a.lp/\a.lu ≠ a.le/\a.lu ≠ a.lp/\a.ld ≠ a.lb
 r:MR zs s
 bd:s.d1.length<=B/\s.d2.length<=B/\s.l.length<=100/\zs.length<=8/\s.es.length<=100
 fr:FrE K H0 H a.le
section
variable {K:PySem.W.Frag} {CW:Addr} {H0 H H':Hp} {wk:Addr} {zs:List Str} {B:Nat} {a:WA} {s:MS}
theorem WI.same (W:WI K CW H0 H wk zs B a s) (t:Same H H'):WI K CW H0 H' wk zs B a s:=
 ⟨W.o.trans t,t _ _ W.w,W.e.same t,t _ _ W.p,t _ _ W.n,t _ _ W.u,t _ _ W.d,t _ _ W.b,W.z,W.ne,W.r,W.bd,let ⟨_,h,_⟩:=W.e; W.fr.same h t⟩
theorem WI.more (W:WI K CW H0 H wk zs B a s):WI K CW H0 H wk zs (B + 1) a s:=
 ⟨W.o,W.w,W.e,W.p,W.n,W.u,W.d,W.b,W.z,W.ne,W.r,⟨Nat.le_succ_of_le W.bd.1,Nat.le_succ_of_le W.bd.2.1,W.bd.2.2⟩,W.fr⟩
theorem same_out {x:Addr} {o:HO} (t:Same H0 H) (h:H0 x = none):Same H0 (upd H x o):=fun b u e=>by rw [upd_ne (ne_of_none e h)]; exact t _ _ e
theorem WI.setE (W:WI K CW H0 H wk zs B a s) {xs:List V} {q:Nat} {x:V} {o:Option En} (h1:H a.le = some (.lst xs)) (h2:Paired (EnO K (okL [a.le,a.lp]) H) xs s.es) (hx:EnO K (okL [a.le,a.lp]) H x o) (hf:MX K H0 a.le 100 H x):WI K CW H0 (upd H a.le (.lst (xs.set q x))) wk zs B a { s with es:=s.es.set q o }:=by
 obtain ⟨z1,z2,z3,z4,z5⟩:=W.z
 obtain ⟨e1,e2,e3,e4,e5,e6⟩:=W.ne
 refine ⟨same_out W.o z2,by rw [upd_ne (ne_of W.w h1 (by intro z; cases z))]; exact W.w,EsAt.set h1 h2 hx List.mem_cons_self,by rw [upd_ne (Ne.symm e1)]; exact W.p,by rw [upd_ne e2]; exact W.n,by rw [upd_ne e4]; exact W.u,by rw [upd_ne (ne_of W.d h1 (by intro z; cases z))]; exact W.d,by rw [upd_ne (ne_of W.b h1 (by intro z; cases z))]; exact W.b,W.z,W.ne,⟨W.r.sh,W.r.op,W.r.un,by show DOk (s.es.set q o).length s.d; rw [List.length_set]; exact W.r.dk⟩,⟨W.bd.1,W.bd.2.1,W.bd.2.2.1,W.bd.2.2.2.1,by show (s.es.set q o).length<=100; rw [List.length_set]; exact W.bd.2.2.2.2⟩,W.fr.set h1 hf⟩
theorem WI.setP (W:WI K CW H0 H wk zs B a s) {l:List Nat} (hl:l.length<=100):WI K CW H0 (upd H a.lp (.lst ((natI l).map V.int))) wk zs B a { s with l:=l }:=by
 obtain ⟨z1,z2,z3,z4,z5⟩:=W.z
 obtain ⟨e1,e2,e3,e4,e5,e6⟩:=W.ne
 exact ⟨same_out W.o z3,by rw [upd_ne (ne_of W.w W.p (by intro z; cases z))]; exact W.w,EsAt.put W.e W.p (List.mem_cons_of_mem _ List.mem_cons_self) e1,upd_same,by rw [upd_ne e3]; exact W.n,by rw [upd_ne e5]; exact W.u,by rw [upd_ne (ne_of W.d W.p (by intro z; cases z))]; exact W.d,by rw [upd_ne (ne_of W.b W.p (by intro z; cases z))]; exact W.b,W.z,W.ne,⟨W.r.sh,W.r.op,W.r.un,W.r.dk⟩,⟨W.bd.1,W.bd.2.1,hl,W.bd.2.2.2⟩,fun ys ey y hy=>by
  rw [upd_ne e1] at ey
  exact (W.fr _ ey y hy).map (fun _ _ z=>sqT_upd z W.p) fun l' ys n hl' g=>by
   by_cases e:l' = a.lp
   ·exact ⟨_,by rw [e]; exact upd_same,by rw [List.length_map,natI_len]; exact hl⟩
   ·exact ⟨ys,by rw [upd_ne e]; exact hl',g⟩⟩
theorem upd_w {x:Addr} {o o':HO} {C dx:Addr} {fs:List (Str × V)} (h:H x = some o) (n:∀ C d f,o ≠ .ins C d f) (hw:H wk = some (.ins C dx fs)):upd H wk o' x = some o:=by
 rw [upd_ne (ne_of h hw (n _ _ _))]; exact h
theorem esAt_w {L:List Addr} {le:Addr} {es:List (Option En)} {C dx:Addr} {fs fs':List (Str × V)} (h:EsAt K L H le es) (hw:H wk = some (.ins C dx fs)):EsAt K L (upd H wk (.ins C dx fs')) le es:=by
 obtain ⟨xs,h1,h2⟩:=h
 have sq:∀ {u:Addr} {vs:List V},SqT K H u vs->SqT K (upd H wk (.ins C dx fs')) u vs:=fun {u vs} h=>by
  rcases h with (h | ⟨o,h⟩) | h
  ·exact .inl (.inl (by rw [upd_ne (fun e=>by rw [e,hw] at h; cases h)]; exact h))
  ·exact .inl (.inr ⟨o,by rw [upd_ne (fun e=>by rw [e,hw] at h; cases h)]; exact h⟩)
  ·exact .inr h
 refine ⟨xs,by rw [upd_ne (fun e=>by rw [e,hw] at h1; cases h1)]; exact h1,Paired.imp' (fun x o z=>?_) h2⟩
 cases o with
 | none=>exact z
 | some e=>
  cases e with
  | one wd n=>obtain ⟨u,e,h1⟩:=z; exact ⟨u,e,sq h1⟩
  | many wd ns=>
   obtain ⟨u,l,e,h1,h2,h3⟩:=z
   exact ⟨u,l,e,sq h1,h2,by rw [upd_ne (fun e=>by rw [e,hw] at h3; cases h3)]; exact h3⟩
  | free=>obtain ⟨u,e,h1⟩:=z; exact ⟨u,e,sq h1⟩
end
def nxt (m:Mv) (zs:List Str) (s s':MS):Prop:=s'.es.length = s.es.length/\∀ ms,runM (m :: ms) zs s.d s.es s.us s.l = runM ms zs s'.d s'.es s'.us s'.l
def bad (m:Mv) (zs:List Str) (s:MS) (r:Str × Nat):Prop:=∀ ms,runM (m :: ms) zs s.d s.es s.us s.l = .inl r
def kindM:Mv->Nat
 | .take _=>0 | .gather _=>1 | .fin=>2 | .door _ _=>3 | .bar _=>4 | .names _=>5 | .need _=>6 | .free _=>7
def spDeed (K:PySem.W.Frag) (CW:Addr) (cl:Nat->Addr) (i:Nat):Sp:=fun vs H Q E=>∃ (wk um:Addr) (m:Mv) (H0:Hp) (zs:List Str) (B:Nat) (a:WA) (s:MS),vs = [.ref wk,.ref um]/\SqT K H um (mvV m)/\kindM m = i/\MvOk s.es.length m/\WI K CW H0 H wk zs B a s/\B<=900/\
 (∀ (H':Hp) (a':WA) (s':MS),WI K CW H0 H' wk zs (B + 1) a' s'->nxt m zs s s'->Q .non H')/\
 ∀ (r:Str × Nat) (dd:Addr) (H':Hp),bad m zs s r->Same H0 H'->H' dd = some (.xd [("number",.int (r.2:Nat))])->E (.ref (cl (misI r.1))) (some dd) H'
def spWInit (CW:Addr):Sp:=fun vs H Q _=>∃ (wk dx ln:Addr) (n c:Nat) (zs:List Str),vs = [.ref wk,.int (n:Nat),.int (c:Nat),.ref ln]/\H wk = some (.ins CW dx [])/\H ln = some (.lst (zs.map V.str))/\n<=100/\c<=100/\zs.length<=8/\
 ∀ (H':Hp) (a:WA),SX wk H H'->H' wk = some (.ins CW a.dx (wf a))->a.ln = ln->H' a.le = some (.lst (List.replicate n .non))->H' a.lp = some (.lst ((natI (List.range c)).map V.int))->H' a.lu = some (.lst ((natI (List.range zs.length)).map V.int))->H' a.ld = some (.dK [])->H' a.lb = some (.dK [])->(H a.le = none/\H a.lp = none/\H a.lu = none/\H a.ld = none/\H a.lb = none)->(a.le ≠ a.lp/\a.lu ≠ a.le/\a.lu ≠ a.lp/\a.ld ≠ a.lb)->Q .non H'
section
variable {P:Program} {w:World} {K:PySem.W.Frag} {mg:Str->Option Value} {base:Heap} {f CW:Addr} {fd:FuncData} {cl:Nat->Addr}
theorem sx_free {x b:Addr} {H H':Hp} (t:SX x H H') (h:H' b = none) (n:b ≠ x):H b = none:=by
 cases e:H b with
 | none=>rfl
 | some u=>rw [t _ _ e n] at h; cases h
theorem scWInit:FnScope ["self","parameter_count","many","names"] ["self","parameter_count","many","names"] (defScope sWInit):=⟨rfl,rfl,rfl,by decide +kernel,rfl,by decide +kernel,by decide +kernel⟩
theorem ok_winit (F:Fun K "__init__" "Work.__init__" sWInit f fd) (U:TxtL mg) (C:WC K CW):FnOk P w K mg base CX0 1 f fd ["self","parameter_count","many","names"] (spWInit CW):=by
 refine F.ok scWInit (fun vs H Q E h=>?_) (fun cdv A outer s H vs Q E hr h=>?_)
 ·obtain ⟨wk,dx,ln,n,c,zs,rfl,_⟩:=h
  rfl
 obtain ⟨wk,dx,ln,n,c,zs,rfl,hw,hln,bn,bc,bz,q⟩:=h
 refine pss_go (ps_fld (pv 0) (pe_op op_rep (pe_lst (ac pe_non pa_nil)) (pv 1)) rfl) ?_
 refine ⟨(by show 1<=sizeLine; decide),fun l0 hl0=>?_⟩
 have s0:=same_new hl0 (.lst [.non])
 have e0:upd H l0 (.lst [.non]) l0 = some (.lst [.non]):=upd_same
 generalize upd H l0 (.lst [.non]) = H1 at s0 e0 |-
 refine ⟨_,rfl,l0,(n:Nat),_,rfl,rfl,e0,by omega,by omega,le1000 (by show 1 * ((n:Nat):Int).toNat<=1000; omega),fun le hle=>?_⟩
 rw [show (List.replicate ((n:Nat):Int).toNat [V.non]).flatten = List.replicate n V.non by rw [show ((n:Nat):Int).toNat = n by omega,rep_flat]]
 have s1:=s0.trans (same_new hle (.lst (List.replicate n V.non)))
 have g1:upd H1 le (.lst (List.replicate n V.non)) le = some (.lst (List.replicate n V.non)):=upd_same
 have nle:H le = none:=s0.free hle
 generalize upd H1 le (.lst (List.replicate n V.non)) = H2 at s1 g1 |-
 refine ⟨_,rfl,wk,CW,dx,[],rfl,s1 _ _ hw,C.cl,C.n1,by decide,?_⟩
 have x2:SX wk H (upd H2 wk (.ins CW dx (putF "entries" (.ref le) []))):=(SX.refl.same s1).upd
 have w2:upd H2 wk (.ins CW dx (putF "entries" (.ref le) [])) wk = some (.ins CW dx (putF "entries" (.ref le) [])):=upd_same
 have g2:upd H2 wk (.ins CW dx (putF "entries" (.ref le) [])) le = some (.lst (List.replicate n V.non)):=upd_w g1 (by intro _ _ _ z; cases z) (s1 _ _ hw)
 generalize upd H2 wk (.ins CW dx (putF "entries" (.ref le) [])) = H3 at x2 w2 g2 |-
 clear s0 s1 e0 g1 hl0 hle
 refine pss_go (ps_fld (pv 0) (cTy (call_listR rfl) U.list PyProof.Rows.boot_list (ac (cTy call_rng U.range PyProof.Rows.boot_range (ac (pv 2) pa_nil)) pa_nil)) rfl) ?_
 refine ⟨_,rfl,c,rfl,fun r hr'=>?_⟩
 have sr:=same_new hr' (.rng 0 (c:Nat))
 refine ⟨r,c,rfl,upd_same,by omega,fun lp hlp=>?_⟩
 have s4:=sr.trans (same_new hlp (.lst ((L2.intsTo c).map V.int)))
 have p4:upd (upd H3 r (.rng 0 (c:Nat))) lp (.lst ((L2.intsTo c).map V.int)) lp = some (.lst ((natI (List.range c)).map V.int)):=upd_same
 have g4:=s4 _ _ g2
 have nlep:le ≠ lp:=fun e=>by rw [<- e,sr _ _ g2] at hlp; cases hlp
 have nlpw:lp ≠ wk:=fun e=>by rw [e,sr _ _ w2] at hlp; cases hlp
 have nlp:H lp = none:=sx_free (x2.same sr) hlp nlpw
 have w4:=s4 _ _ w2
 have x4:=x2.same s4
 generalize upd (upd H3 r (.rng 0 (c:Nat))) lp (.lst ((L2.intsTo c).map V.int)) = H4 at s4 p4 g4 w4 x4 |-
 refine ⟨_,rfl,wk,CW,dx,_,rfl,w4,C.cl,C.n2,by show 1 < 1000; decide,?_⟩
 have x5:SX wk H (upd H4 wk (.ins CW dx (putF "unused_places" (.ref lp) (putF "entries" (.ref le) [])))):=x4.upd
 have w5:upd H4 wk (.ins CW dx (putF "unused_places" (.ref lp) (putF "entries" (.ref le) []))) wk = some (.ins CW dx (putF "unused_places" (.ref lp) (putF "entries" (.ref le) []))):=upd_same
 have g5:upd H4 wk (.ins CW dx (putF "unused_places" (.ref lp) (putF "entries" (.ref le) []))) le = _:=upd_w g4 (by intro _ _ _ z; cases z) w4
 have p5:upd H4 wk (.ins CW dx (putF "unused_places" (.ref lp) (putF "entries" (.ref le) []))) lp = _:=upd_w p4 (by intro _ _ _ z; cases z) w4
 generalize upd H4 wk (.ins CW dx (putF "unused_places" (.ref lp) (putF "entries" (.ref le) []))) = H5 at x5 w5 g5 p5 |-
 clear s4 p4 g4 w4 x4 x2 w2 g2 sr hr' hlp
 refine pss_go (ps_fld (pv 0) (pv 3) rfl) ?_
 refine ⟨_,rfl,_,rfl,wk,CW,dx,_,rfl,w5,C.cl,C.n3,by show 2 < 1000; decide,?_⟩
 have x6:SX wk H (upd H5 wk (.ins CW dx (putF "names" (.ref ln) (putF "unused_places" (.ref lp) (putF "entries" (.ref le) []))))):=x5.upd
 have w6:upd H5 wk (.ins CW dx (putF "names" (.ref ln) (putF "unused_places" (.ref lp) (putF "entries" (.ref le) [])))) wk = some (.ins CW dx (putF "names" (.ref ln) (putF "unused_places" (.ref lp) (putF "entries" (.ref le) [])))):=upd_same
 have g6:upd H5 wk (.ins CW dx (putF "names" (.ref ln) (putF "unused_places" (.ref lp) (putF "entries" (.ref le) [])))) le = _:=upd_w g5 (by intro _ _ _ z; cases z) w5
 have p6:upd H5 wk (.ins CW dx (putF "names" (.ref ln) (putF "unused_places" (.ref lp) (putF "entries" (.ref le) [])))) lp = _:=upd_w p5 (by intro _ _ _ z; cases z) w5
 generalize upd H5 wk (.ins CW dx (putF "names" (.ref ln) (putF "unused_places" (.ref lp) (putF "entries" (.ref le) [])))) = H6 at x6 w6 g6 p6 |-
 clear x5 w5 g5 p5
 have nlnw:ln ≠ wk:=ne_of hln hw (by intro z; cases z)
 refine pss_go (ps_fld (pv 0) (cTy (call_listR rfl) U.list PyProof.Rows.boot_list (ac (cTy call_rng U.range PyProof.Rows.boot_range (ac (cB call_len_seq U.len PySem.boot_len (ac (pv 3) pa_nil)) pa_nil)) pa_nil)) rfl) ?_
 refine ⟨_,rfl,ln,_,rfl,.inl (SqL.of (x6 _ _ hln nlnw)),zs.length,by rw [List.length_map],fun r hr'=>?_⟩
 have sr:=same_new hr' (.rng 0 (zs.length:Nat))
 refine ⟨r,zs.length,rfl,upd_same,by omega,fun lu hlu=>?_⟩
 have s7:=sr.trans (same_new hlu (.lst ((L2.intsTo zs.length).map V.int)))
 have u7:upd (upd H6 r (.rng 0 (zs.length:Nat))) lu (.lst ((L2.intsTo zs.length).map V.int)) lu = some (.lst ((natI (List.range zs.length)).map V.int)):=upd_same
 have g7:=s7 _ _ g6
 have p7:=s7 _ _ p6
 have nlue:lu ≠ le:=fun e=>by rw [e,sr _ _ g6] at hlu; cases hlu
 have nlup:lu ≠ lp:=fun e=>by rw [e,sr _ _ p6] at hlu; cases hlu
 have nluw:lu ≠ wk:=fun e=>by rw [e,sr _ _ w6] at hlu; cases hlu
 have nlu:H lu = none:=sx_free (x6.same sr) hlu nluw
 have w7:=s7 _ _ w6
 have x7:=x6.same s7
 generalize upd (upd H6 r (.rng 0 (zs.length:Nat))) lu (.lst ((L2.intsTo zs.length).map V.int)) = H7 at s7 u7 g7 p7 w7 x7 |-
 refine ⟨_,rfl,wk,CW,dx,_,rfl,w7,C.cl,C.n4,by show 3 < 1000; decide,?_⟩
 generalize hfs:putF "unused_names" (.ref lu) (putF "names" (.ref ln) (putF "unused_places" (.ref lp) (putF "entries" (.ref le) []))) = fs
 have lfs:fs.length = 4:=by rw [<- hfs]; rfl
 have x8:SX wk H (upd H7 wk (.ins CW dx fs)):=x7.upd
 have w8:upd H7 wk (.ins CW dx fs) wk = some (.ins CW dx fs):=upd_same
 have g8:upd H7 wk (.ins CW dx fs) le = _:=upd_w g7 (by intro _ _ _ z; cases z) w7
 have p8:upd H7 wk (.ins CW dx fs) lp = _:=upd_w p7 (by intro _ _ _ z; cases z) w7
 have u8:upd H7 wk (.ins CW dx fs) lu = _:=upd_w u7 (by intro _ _ _ z; cases z) w7
 generalize upd H7 wk (.ins CW dx fs) = H8 at x8 w8 g8 p8 u8 |-
 clear s7 u7 g7 p7 w7 x7 x6 w6 g6 p6 sr hr' hlu
 refine pss_go (ps_fld (pv 0) pe_dnewK rfl) ?_
 intro ld hld
 have s9:=same_new hld (.dK [])
 have d9:upd H8 ld (.dK []) ld = some (.dK []):=upd_same
 have g9:=s9 _ _ g8
 have p9:=s9 _ _ p8
 have u9:=s9 _ _ u8
 have w9:=s9 _ _ w8
 have x9:=x8.same s9
 have nld:H ld = none:=sx_free x8 hld (fun e=>by rw [e,w8] at hld; cases hld)
 generalize upd H8 ld (.dK []) = H9 at s9 d9 g9 p9 u9 w9 x9 |-
 refine ⟨_,rfl,wk,CW,dx,_,rfl,w9,C.cl,C.n5,by omega,?_⟩
 have x10:SX wk H (upd H9 wk (.ins CW dx (putF "doors" (.ref ld) fs))):=x9.upd
 have w10:upd H9 wk (.ins CW dx (putF "doors" (.ref ld) fs)) wk = some (.ins CW dx (putF "doors" (.ref ld) fs)):=upd_same
 have g10:upd H9 wk (.ins CW dx (putF "doors" (.ref ld) fs)) le = _:=upd_w g9 (by intro _ _ _ z; cases z) w9
 have p10:upd H9 wk (.ins CW dx (putF "doors" (.ref ld) fs)) lp = _:=upd_w p9 (by intro _ _ _ z; cases z) w9
 have u10:upd H9 wk (.ins CW dx (putF "doors" (.ref ld) fs)) lu = _:=upd_w u9 (by intro _ _ _ z; cases z) w9
 have d10:upd H9 wk (.ins CW dx (putF "doors" (.ref ld) fs)) ld = _:=upd_w d9 (by intro _ _ _ z; cases z) w9
 have l10:(putF "doors" (.ref ld) fs).length < 1000:=by rw [<- hfs]; show 5 < 1000; decide
 generalize upd H9 wk (.ins CW dx (putF "doors" (.ref ld) fs)) = H10 at x10 w10 g10 p10 u10 d10 |-
 clear s9 d9 g9 p9 u9 w9 x9 x8 w8 g8 p8 u8 hld
 refine ⟨_,pss_one (ps_fld (pv 0) pe_dnewK rfl),?_⟩
 intro lb hlb
 have s9:=same_new hlb (.dK [])
 have nldb:ld ≠ lb:=fun e=>by rw [<- e,d10] at hlb; cases hlb
 have nlb:H lb = none:=sx_free x10 hlb (fun e=>by rw [e,w10] at hlb; cases hlb)
 have w11:=s9 _ _ w10
 refine ⟨_,rfl,wk,CW,dx,_,rfl,w11,C.cl,C.n6,l10,?_⟩
 refine q _ ⟨dx,le,lp,ln,lu,ld,lb⟩ (x10.same s9).upd ?_ rfl (upd_w (s9 _ _ g10) (by intro _ _ _ z; cases z) w11) (upd_w (s9 _ _ p10) (by intro _ _ _ z; cases z) w11) (upd_w (s9 _ _ u10) (by intro _ _ _ z; cases z) w11) (upd_w (s9 _ _ d10) (by intro _ _ _ z; cases z) w11) (upd_w upd_same (by intro _ _ _ z; cases z) w11) ⟨nle,nlp,nlu,nld,nlb⟩ ⟨nlep,nlue,nlup,nldb⟩
 rw [upd_same,<- hfs]
 exact congrArg (fun z=>some (HO.ins CW dx z)) (wf_all (a:=⟨dx,le,lp,ln,lu,ld,lb⟩))
end
theorem mv_take {m:Mv} (h:kindM m = 0):∃ q,m = .take q:=by cases m <;> first | exact ⟨_,rfl⟩ | cases h
theorem mv_gather {m:Mv} (h:kindM m = 1):∃ q,m = .gather q:=by cases m <;> first | exact ⟨_,rfl⟩ | cases h
theorem mv_end {m:Mv} (h:kindM m = 2):m = .fin:=by cases m <;> first | exact rfl | cases h
theorem mv_door {m:Mv} (h:kindM m = 3):∃ z q,m = .door z q:=by cases m <;> first | exact ⟨_,_,rfl⟩ | cases h
theorem mv_bar {m:Mv} (h:kindM m = 4):∃ z,m = .bar z:=by cases m <;> first | exact ⟨_,rfl⟩ | cases h
theorem mv_names {m:Mv} (h:kindM m = 5):∃ o,m = .names o:=by cases m <;> first | exact ⟨_,rfl⟩ | cases h
theorem mv_need {m:Mv} (h:kindM m = 6):∃ q,m = .need q:=by cases m <;> first | exact ⟨_,rfl⟩ | cases h
theorem mv_free {m:Mv} (h:kindM m = 7):∃ q,m = .free q:=by cases m <;> first | exact ⟨_,rfl⟩ | cases h
theorem nxt_step {m:Mv} (h:isStep m) {zs:List Str} {s:MS} {es':List (Option En)} {l':List Nat} (e:stF m s.es s.l = (none,es',l')):nxt m zs s { s with es:=es',l:=l' }:=by
 refine ⟨?_,fun ms=>?_⟩
 ·have:=(stF_len (m:=m) (es:=s.es) (l:=s.l)).1
  rw [e] at this
  exact this
 ·rw [run_step h,e]
theorem bad_step {m:Mv} (h:isStep m) {zs:List Str} {s:MS} {r:Str × Nat} {es':List (Option En)} {l':List Nat} (e:stF m s.es s.l = (some r,es',l')):bad m zs s r:=fun ms=>by rw [run_step h,e]
section
variable {P:Program} {w:World} {K:PySem.W.Frag} {mg:Str->Option Value} {base:Heap} {f CW g:Addr} {fd gd:FuncData} {cl:Nat->Addr}
theorem scTake:FnScope ["work","move","q"] ["work","move"] (defScope sTake):=⟨rfl,rfl,rfl,by decide +kernel,rfl,by decide +kernel,by decide +kernel⟩
theorem ok_take (F:Fun K "do_take" "do_take" sTake f fd) (C:WC K CW):FnOk P w K mg base (CXs P w) 4 f fd ["work","move"] (spDeed K CW cl 0):=by
 refine F.okS scTake (fun vs H Q E h=>?_) (fun cdv A outer s H vs Q E hr h=>?_)
 ·obtain ⟨wk,um,m,H0,zs,B,a,s,rfl,_⟩:=h
  rfl
 obtain ⟨wk,um,m,H0,zs,B,a,s,rfl,hm,hw,hmo,W,hB,q1,q2⟩:=h
 obtain ⟨q,rfl⟩:=mv_take hw
 have hm:SqT K H um [.str "take",.int (q:Nat)]:=hm
 have hq:q < s.es.length:=hmo
 refine pss_go (ps_set (i:=2) scTake.nd rfl (Or.inl rfl) (pe_ix ix_tup (pv 1) pe_int (fun _ _=>rfl))) ?_
 refine ⟨_,rfl,um,_,1,.int (q:Nat),rfl,rfl,hm,rfl,?_⟩
 dsimp only [gName]
 obtain ⟨xs,hxs,hps⟩:=W.e
 obtain ⟨x,hx',hxn⟩:=es_at hps hq
 refine ⟨_,pss_one (ps_if (PW.pt (pw_and (pt_cmp (pc_isN (pe_ix ix_list (pe_fld (pv 0) rfl) (pv 2) (fun _ _=>rfl)))) (pw_and1 (pt_truth (pe_fld (pv 0) rfl) (fun _=>rfl))))) (pss_one (ps_asg (pe_tup (ac pe_str (ac (pe_bm PySem.F.plainAttrs_list PySem.F.slot_list_pop PySem.F.type_list_pop mt_popAt (pe_fld (pv 0) rfl) (ac pe_int pa_nil)) pa_nil))) (pg_sub (pe_fld (pv 0) rfl) (pv 2) set_list))) pss_nil),?_⟩
 refine ⟨_,rfl,wk,CW,a.dx,_,_,rfl,W.w,C.cl,C.n1,wf_1,_,rfl,a.le,_,_,x,rfl,rfl,SqL.of hxs,atI_nat hx',_,rfl,?_⟩
 by_cases hn:noE s.es q = true
 ·refine iteB (by rw [hxn]; exact hn) ?_
  refine ⟨_,rfl,wk,CW,a.dx,_,_,rfl,W.w,C.cl,C.n2,wf_2,_,.inl ⟨_,SqL.of W.p,rfl⟩,?_⟩
  obtain ⟨d,d1,d2,es,us,un,l⟩:=s
  cases l with
  | nil=>
   refine iteF ?_
   exact q1 _ _ _ W.more (nxt_step (m:=.take q) True.intro (s:=⟨d,d1,d2,es,us,un,[]⟩) (if_pos hn))
  | cons y ys=>
   refine iteT ?_
   refine ⟨_,rfl,wk,CW,a.dx,_,_,rfl,W.w,C.cl,C.n2,wf_2,.inl ⟨rfl,_,SqL.of W.p⟩,a.lp,_,0,0,.int (y:Nat),rfl,rfl,W.p,by decide,by decide,(ixN_seq (ixN_nat (i:=0) (by rw [List.length_map,natI_len]; exact Nat.succ_pos _))).1,rfl,?_⟩
   have W2:WI K CW H0 (upd H a.lp (.lst (((natI (y :: ys)).map V.int).eraseIdx 0))) wk zs B a ⟨d,d1,d2,es,us,un,ys⟩:=W.setP (l:=ys) (Nat.le_of_succ_le W.bd.2.2.1)
   generalize upd H a.lp (.lst (((natI (y :: ys)).map V.int).eraseIdx 0)) = H2 at W2 |-
   refine ⟨(by show 2<=sizeLine; decide),fun u hu=>?_⟩
   have W3:=W2.same (same_new hu (.tup [.str "place",.int (y:Nat)]))
   have e3:EnO K (okL [a.le,a.lp]) (upd H2 u (.tup [.str "place",.int (y:Nat)])) (.ref u) (some (.one "place" y)):=⟨u,rfl,SqT.of upd_same⟩
   have f3:MX K H0 a.le 100 (upd H2 u (.tup [.str "place",.int (y:Nat)])) (.ref u):=.inr ⟨u,rfl,.inl ⟨_,y,SqT.of upd_same,.inl rfl⟩⟩
   generalize upd H2 u (.tup [.str "place",.int (y:Nat)]) = H3 at W3 e3 f3 |-
   obtain ⟨xs3,hxs3,hps3⟩:=W3.e
   refine ⟨_,rfl,wk,CW,a.dx,_,_,rfl,W3.w,C.cl,C.n1,wf_1,_,rfl,a.le,xs3,_,q,rfl,rfl,hxs3,ixN_nat (by rw [hps3.length]; exact hq),?_⟩
   exact q1 _ _ _ (W3.setE hxs3 hps3 e3 f3).more (nxt_step (m:=.take q) True.intro (s:=⟨d,d1,d2,es,us,un,y :: ys⟩) (if_pos hn))
 ·refine iteC (by rw [hxn]; simpa using hn) ?_
  refine iteF ?_
  exact q1 _ _ _ W.more (nxt_step (m:=.take q) True.intro (s:=s) (if_neg hn))
theorem scFreeD:FnScope ["work","move","q"] ["work","move"] (defScope sDFree):=⟨rfl,rfl,rfl,by decide +kernel,rfl,by decide +kernel,by decide +kernel⟩
theorem ok_free (F:Fun K "do_free" "do_free" sDFree f fd) (C:WC K CW):FnOk P w K mg base (CXs P w) 4 f fd ["work","move"] (spDeed K CW cl 7):=by
 refine F.okS scFreeD (fun vs H Q E h=>?_) (fun cdv A outer s H vs Q E hr h=>?_)
 ·obtain ⟨wk,um,m,H0,zs,B,a,s,rfl,_⟩:=h
  rfl
 obtain ⟨wk,um,m,H0,zs,B,a,s,rfl,hm,hw,hmo,W,hB,q1,q2⟩:=h
 obtain ⟨q,rfl⟩:=mv_free hw
 have hm:SqT K H um [.str "free",.int (q:Nat)]:=hm
 have hq:q < s.es.length:=hmo
 refine pss_go (ps_set (i:=2) scFreeD.nd rfl (Or.inl rfl) (pe_ix ix_tup (pv 1) pe_int (fun _ _=>rfl))) ?_
 refine ⟨_,rfl,um,_,1,.int (q:Nat),rfl,rfl,hm,rfl,?_⟩
 dsimp only [gName]
 obtain ⟨xs,hxs,hps⟩:=W.e
 obtain ⟨x,hx',hxn⟩:=es_at hps hq
 refine ⟨_,pss_one (ps_if (pt_cmp (pc_isN (pe_ix ix_list (pe_fld (pv 0) rfl) (pv 2) (fun _ _=>rfl)))) (pss_one (ps_asg (pe_tup (ac pe_str pa_nil)) (pg_sub (pe_fld (pv 0) rfl) (pv 2) set_list))) pss_nil),?_⟩
 refine ⟨_,rfl,wk,CW,a.dx,_,_,rfl,W.w,C.cl,C.n1,wf_1,_,rfl,a.le,_,_,x,rfl,rfl,SqL.of hxs,atI_nat hx',_,rfl,?_⟩
 by_cases hn:noE s.es q = true
 ·refine iteB (by rw [hxn]; exact hn) ?_
  refine ⟨(by show 1<=sizeLine; decide),fun u hu=>?_⟩
  have W3:=W.same (same_new hu (.tup [.str "free"]))
  have e3:EnO K (okL [a.le,a.lp]) (upd H u (.tup [.str "free"])) (.ref u) (some .free):=⟨u,rfl,SqT.of upd_same⟩
  have f3:MX K H0 a.le 100 (upd H u (.tup [.str "free"])) (.ref u):=.inr ⟨u,rfl,.inr (.inl (SqT.of upd_same))⟩
  generalize upd H u (.tup [.str "free"]) = H3 at W3 e3 f3 |-
  obtain ⟨xs3,hxs3,hps3⟩:=W3.e
  refine ⟨_,rfl,wk,CW,a.dx,_,_,rfl,W3.w,C.cl,C.n1,wf_1,_,rfl,a.le,xs3,_,q,rfl,rfl,hxs3,ixN_nat (by rw [hps3.length]; exact hq),?_⟩
  exact q1 _ _ _ (W3.setE hxs3 hps3 e3 f3).more (nxt_step (m:=.free q) True.intro (s:=s) (if_pos hn))
 ·refine iteC (by rw [hxn]; simpa using hn) ?_
  exact q1 _ _ _ W.more (nxt_step (m:=.free q) True.intro (s:=s) (if_neg hn))
theorem scNeed:FnScope ["work","move","q"] ["work","move"] (defScope sNeed):=⟨rfl,rfl,rfl,by decide +kernel,rfl,by decide +kernel,by decide +kernel⟩
theorem ok_need (F:Fun K "do_need" "do_need" sNeed f fd) (C:WC K CW) (X':X6 P w K mg base cl g gd):FnOk P w K mg base (CXs P w) 4 f fd ["work","move"] (spDeed K CW cl 6):=by
 refine F.okS scNeed (fun vs H Q E h=>?_) (fun cdv A outer s H vs Q E hr h=>?_)
 ·obtain ⟨wk,um,m,H0,zs,B,a,s,rfl,_⟩:=h
  rfl
 obtain ⟨wk,um,m,H0,zs,B,a,s,rfl,hm,hw,hmo,W,hB,q1,q2⟩:=h
 have hr2:Room 2 _:=hr.mono (by decide)
 obtain ⟨q,rfl⟩:=mv_need hw
 have hm:SqT K H um [.str "need",.int (q:Nat)]:=hm
 have hq:q < s.es.length:=hmo
 refine pss_go (ps_set (i:=2) scNeed.nd rfl (Or.inl rfl) (pe_ix ix_tup (pv 1) pe_int (fun _ _=>rfl))) ?_
 refine ⟨_,rfl,um,_,1,.int (q:Nat),rfl,rfl,hm,rfl,?_⟩
 dsimp only [gName]
 obtain ⟨xs,hxs,hps⟩:=W.e
 obtain ⟨x,hx',hxn⟩:=es_at hps hq
 refine ⟨_,pss_one (ps_if (pt_cmp (pc_isN (pe_ix ix_list (pe_fld (pv 0) rfl) (pv 2) (fun _ _=>rfl)))) (pss_one (ps_raiseS raisesS_cx rfl (pe_makeX X'.x5.call X'.x5.ok hr2 rfl X'.x5.gl X'.x5.bd pass0 (ac (pv 2) pa_nil)))) pss_nil),?_⟩
 refine ⟨_,rfl,wk,CW,a.dx,_,_,rfl,W.w,C.cl,C.n1,wf_1,_,rfl,a.le,_,_,x,rfl,rfl,SqL.of hxs,atI_nat hx',_,rfl,?_⟩
 by_cases hn:noE s.es q = true
 ·refine iteB (by rw [hxn]; exact hn) ?_
  refine ⟨_,rfl,rz_go X'.x5 (fun _ h=>h) fun d H' s1 hd=>?_⟩
  exact q2 ("lacking",q) d H' (bad_step (m:=.need q) True.intro (if_pos hn)) (W.o.trans s1) hd
 ·refine iteC (by rw [hxn]; simpa using hn) ?_
  exact q1 _ _ _ W.more (nxt_step (m:=.need q) True.intro (s:=s) (if_neg hn))
theorem scEnd:FnScope ["work","move"] ["work","move"] (defScope sEnd):=⟨rfl,rfl,rfl,by decide +kernel,rfl,by decide +kernel,by decide +kernel⟩
theorem ok_end (F:Fun K "do_end" "do_end" sEnd f fd) (C:WC K CW) (X':X6 P w K mg base cl g gd):FnOk P w K mg base (CXs P w) 4 f fd ["work","move"] (spDeed K CW cl 2):=by
 refine F.okS scEnd (fun vs H Q E h=>?_) (fun cdv A outer s H vs Q E hr h=>?_)
 ·obtain ⟨wk,um,m,H0,zs,B,a,s,rfl,_⟩:=h
  rfl
 obtain ⟨wk,um,m,H0,zs,B,a,s,rfl,hm,hw,hmo,W,hB,q1,q2⟩:=h
 have hr2:Room 2 _:=hr.mono (by decide)
 have em:=mv_end hw
 subst em
 refine ⟨_,pss_one (ps_if (pt_truth (pe_fld (pv 0) rfl) (fun _=>rfl)) (pss_one (ps_raiseS raisesS_cx rfl (pe_makeX X'.x1.call X'.x1.ok hr2 rfl X'.x1.gl X'.x1.bd pass0 (ac (pe_ix ix_list (pe_fld (pv 0) rfl) pe_int (fun _ _=>rfl)) pa_nil)))) pss_nil),?_⟩
 refine ⟨_,rfl,wk,CW,a.dx,_,_,rfl,W.w,C.cl,C.n2,wf_2,_,.inl ⟨_,SqL.of W.p,rfl⟩,?_⟩
 obtain ⟨d,d1,d2,es,us,un,l⟩:=s
 cases l with
 | nil=>
  refine iteF ?_
  exact q1 _ _ _ W.more (nxt_step (m:=.fin) True.intro (s:=⟨d,d1,d2,es,us,un,[]⟩) rfl)
 | cons y ys=>
  refine iteT ?_
  refine ⟨_,rfl,wk,CW,a.dx,_,_,rfl,W.w,C.cl,C.n2,wf_2,a.lp,_,0,.int (y:Nat),rfl,rfl,SqL.of W.p,atI_nat (j:=0) rfl,rz_go X'.x1 (fun _ h=>h) fun d H' s1 hd=>?_⟩
  exact q2 ("over",y) d H' (bad_step (m:=.fin) True.intro rfl) (W.o.trans s1) hd
theorem WI.setD {H0 H:Hp} {wk:Addr} {zs:List Str} {B:Nat} {a:WA} {s:MS} (W:WI K CW H0 H wk zs B a s) {d' d1':Doors} (r:MR zs { s with d:=d',d1:=d1' }) (hl:d1'.length<=B + 1):WI K CW H0 (upd H a.ld (.dK d1')) wk zs (B + 1) a { s with d:=d',d1:=d1' }:=by
 obtain ⟨z1,z2,z3,z4,z5⟩:=W.z
 obtain ⟨e1,e2,e3,e4,e5,e6⟩:=W.ne
 exact ⟨same_out W.o z4,by rw [upd_ne (ne_of W.w W.d (by intro z; cases z))]; exact W.w,EsAt.dict W.e W.d,by rw [upd_ne (ne_of W.p W.d (by intro z; cases z))]; exact W.p,by rw [upd_ne (ne_of W.n W.d (by intro z; cases z))]; exact W.n,by rw [upd_ne (ne_of W.u W.d (by intro z; cases z))]; exact W.u,upd_same,by rw [upd_ne (Ne.symm e6)]; exact W.b,W.z,W.ne,r,⟨hl,Nat.le_succ_of_le W.bd.2.1,W.bd.2.2⟩,fun ys ey y hy=>by
  obtain ⟨xs,h1,_⟩:=W.e
  rw [upd_ne (ne_of h1 W.d (by intro z; cases z))] at ey
  exact (W.fr _ ey y hy).map (fun _ _ z=>sqT_d z W.d) fun l ys _ hl g=>⟨ys,by rw [upd_ne (ne_of hl W.d (by intro z; cases z))]; exact hl,g⟩⟩
theorem WI.setB {H0 H:Hp} {wk:Addr} {zs:List Str} {B:Nat} {a:WA} {s:MS} (W:WI K CW H0 H wk zs B a s) {d' d2':Doors} (r:MR zs { s with d:=d',d2:=d2' }) (hl:d2'.length<=B + 1):WI K CW H0 (upd H a.lb (.dK d2')) wk zs (B + 1) a { s with d:=d',d2:=d2' }:=by
 obtain ⟨z1,z2,z3,z4,z5⟩:=W.z
 obtain ⟨e1,e2,e3,e4,e5,e6⟩:=W.ne
 exact ⟨same_out W.o z5,by rw [upd_ne (ne_of W.w W.b (by intro z; cases z))]; exact W.w,EsAt.dict W.e W.b,by rw [upd_ne (ne_of W.p W.b (by intro z; cases z))]; exact W.p,by rw [upd_ne (ne_of W.n W.b (by intro z; cases z))]; exact W.n,by rw [upd_ne (ne_of W.u W.b (by intro z; cases z))]; exact W.u,by rw [upd_ne e6]; exact W.d,upd_same,W.z,W.ne,r,⟨Nat.le_succ_of_le W.bd.1,hl,W.bd.2.2⟩,fun ys ey y hy=>by
  obtain ⟨xs,h1,_⟩:=W.e
  rw [upd_ne (ne_of h1 W.b (by intro z; cases z))] at ey
  exact (W.fr _ ey y hy).map (fun _ _ z=>sqT_d z W.b) fun l ys _ hl g=>⟨ys,by rw [upd_ne (ne_of hl W.b (by intro z; cases z))]; exact hl,g⟩⟩
theorem dShut_put {d:Doors} {z y:Str} {v:V}:dShut (putK d (.inr z) v) y = if y = z then decide (v = V.str "shut") else dShut d y:=by
 unfold dShut
 rw [valV_put]
 by_cases h:y = z
 ·subst h; rw [if_pos rfl,if_pos rfl]; rfl
 ·rw [if_neg (fun e=>h (by injection e)),if_neg h]
theorem scDoor:FnScope ["work","move"] ["work","move"] (defScope sDoor):=⟨rfl,rfl,rfl,by decide +kernel,rfl,by decide +kernel,by decide +kernel⟩
theorem ok_door (F:Fun K "do_door" "do_door" sDoor f fd) (C:WC K CW):FnOk P w K mg base (CXs P w) 4 f fd ["work","move"] (spDeed K CW cl 3):=by
 refine F.okS scDoor (fun vs H Q E h=>?_) (fun cdv A outer s H vs Q E hr h=>?_)
 ·obtain ⟨wk,um,m,H0,zs,B,a,s,rfl,_⟩:=h
  rfl
 obtain ⟨wk,um,m,H0,zs,B,a,s,rfl,hm,hw,hmo,W,hB,q1,q2⟩:=h
 have hu1:=hu_of hr
 obtain ⟨z,q,rfl⟩:=mv_door hw
 have hm:SqT K H um [.str "door",.str z,.int (q:Nat)]:=hm
 have hq:q < s.es.length:=hmo
 refine ⟨_,pss_one (ps_dput hu1 (pe_fld (pv 0) rfl) (pe_ix ix_tup (pv 1) pe_int (fun _ _=>rfl)) (pe_ix ix_tup (pv 1) pe_int (fun _ _=>rfl)) rfl),?_⟩
 have ld:=W.bd.1
 have l1:=length_putK s.d1 (.inr z) (.int (q:Nat))
 refine ⟨_,rfl,um,_,2,.int (q:Nat),rfl,rfl,hm,rfl,_,rfl,wk,CW,a.dx,_,_,rfl,W.w,C.cl,C.n5,wf_5,_,rfl,um,_,1,.str z,rfl,rfl,hm,rfl,a.ld,_,rfl,DPut.k (k:=.inr z) W.d (small1000 (by omega)),?_⟩
 by_cases hs:dShut s.d z = true
 ·have R:MR zs { s with d:=s.d,d1:=putK s.d1 (.inr z) (.int (q:Nat)) }:=⟨W.r.sh,fun y hy=>by
   show valV (putK s.d1 (.inr z) (.int (q:Nat))) (.inr y) = valV s.d (.inr y)
   rw [valV_put,if_neg (fun e=>by injection e with e; rw [e,hs] at hy; cases hy)]
   exact W.r.op y hy,W.r.un,W.r.dk⟩
  exact q1 _ _ _ (W.setD R (by omega)) ⟨rfl,fun ms=>if_pos hs⟩
 ·have R:MR zs { s with d:=putK s.d (.inr z) (.int (q:Nat)),d1:=putK s.d1 (.inr z) (.int (q:Nat)) }:=⟨fun y=>by
   show (valV s.d2 (.inr y)).isSome = dShut (putK s.d (.inr z) (.int (q:Nat))) y
   rw [dShut_put,W.r.sh y]
   split
   ·rename_i e; rw [e]; simpa using hs
   ·rfl,fun y hy=>by
   show valV (putK s.d1 (.inr z) (.int (q:Nat))) (.inr y) = valV (putK s.d (.inr z) (.int (q:Nat))) (.inr y)
   rw [valV_put,valV_put]
   by_cases e:y = z
   ·rw [if_pos (by rw [e]),if_pos (by rw [e])]
   ·rw [if_neg (fun e'=>e (by injection e')),if_neg (fun e'=>e (by injection e'))]
    refine W.r.op y ?_
    have hy:dShut (putK s.d (.inr z) (.int (q:Nat))) y = false:=hy
    rw [dShut_put,if_neg e] at hy
    exact hy,W.r.un,W.r.dk.put (.inr ⟨q,rfl,hq⟩)⟩
  exact q1 _ _ _ (W.setD R (by omega)) ⟨rfl,fun ms=>if_neg hs⟩
theorem scBar:FnScope ["work","move"] ["work","move"] (defScope sBar):=⟨rfl,rfl,rfl,by decide +kernel,rfl,by decide +kernel,by decide +kernel⟩
theorem ok_bar (F:Fun K "do_bar" "do_bar" sBar f fd) (C:WC K CW):FnOk P w K mg base (CXs P w) 4 f fd ["work","move"] (spDeed K CW cl 4):=by
 refine F.okS scBar (fun vs H Q E h=>?_) (fun cdv A outer s H vs Q E hr h=>?_)
 ·obtain ⟨wk,um,m,H0,zs,B,a,s,rfl,_⟩:=h
  rfl
 obtain ⟨wk,um,m,H0,zs,B,a,s,rfl,hm,hw,hmo,W,hB,q1,q2⟩:=h
 have hu1:=hu_of hr
 obtain ⟨z,rfl⟩:=mv_bar hw
 have hm:SqT K H um [.str "bar",.str z]:=hm
 refine ⟨_,pss_one (ps_dput hu1 (pe_fld (pv 0) rfl) (pe_ix ix_tup (pv 1) pe_int (fun _ _=>rfl)) pe_bl rfl),?_⟩
 have ld:=W.bd.2.1
 have l1:=length_putK s.d2 (.inr z) (.bl true)
 refine ⟨_,rfl,wk,CW,a.dx,_,_,rfl,W.w,C.cl,C.n6,wf_6,_,rfl,um,_,1,.str z,rfl,rfl,hm,rfl,a.lb,_,rfl,DPut.k (k:=.inr z) W.b (small1000 (by omega)),?_⟩
 have R:MR zs { s with d:=putK s.d (.inr z) (.str "shut"),d2:=putK s.d2 (.inr z) (.bl true) }:=⟨fun y=>by
  show (valV (putK s.d2 (.inr z) (.bl true)) (.inr y)).isSome = dShut (putK s.d (.inr z) (.str "shut")) y
  rw [dShut_put,valV_put]
  by_cases e:y = z
  ·rw [if_pos (by rw [e]),if_pos e]; rfl
  ·rw [if_neg (fun e'=>e (by injection e')),if_neg e]; exact W.r.sh y,fun y hy=>by
  show valV s.d1 (.inr y) = valV (putK s.d (.inr z) (.str "shut")) (.inr y)
  have hy:dShut (putK s.d (.inr z) (.str "shut")) y = false:=hy
  rw [dShut_put] at hy
  by_cases e:y = z
  ·rw [if_pos e] at hy; exact absurd hy (by decide)
  ·rw [if_neg e] at hy
   rw [valV_put,if_neg (fun e'=>e (by injection e'))]
   exact W.r.op y hy,W.r.un,W.r.dk.put (.inl rfl)⟩
 exact q1 _ _ _ (W.setB R (by omega)) ⟨rfl,fun ms=>rfl⟩
end
def GA (K:PySem.W.Frag) (L:List Addr) (H:Hp) (le:Addr) (es:List (Option En)) (lg:Addr) (ob:Option Nat) (gs:List Nat):Prop:=∃ xs,H le = some (.lst xs)/\xs.length = es.length/\∀ i x o,xs[i]? = some x->es[i]? = some o->EnO K (okL (lg :: L)) H x o\/(gs ≠ []/\ob = some i/\o = some (.many "names" gs)/\∃ u,x = .ref u/\SqT K H u [.str "names",.ref lg])
section
variable {K:PySem.W.Frag} {L:List Addr} {H H':Hp} {le lg:Addr} {es:List (Option En)} {ob:Option Nat} {gs:List Nat}
theorem GA.same (h:GA K L H le es lg ob gs) (s:Same H H'):GA K L H' le es lg ob gs:=by
 obtain ⟨xs,h1,h2,h3⟩:=h
 refine ⟨xs,s _ _ h1,h2,fun i x o hx ho=>?_⟩
 rcases h3 i x o hx ho with h | ⟨a,b,c,u,e,t⟩
 ·exact .inl (h.same s)
 ·exact .inr ⟨a,b,c,u,e,s.sqT t⟩
theorem GA.start (h:EsAt K L H le es) (hg:H lg = none):GA K L H le es lg ob []:=by
 obtain ⟨xs,h1,h2⟩:=h
 refine ⟨xs,h1,h2.length,fun i x o hx ho=>.inl ?_⟩
 obtain ⟨o',ho',hE⟩:=Paired.get h2 hx
 rw [ho] at ho'
 cases ho'
 exact EnO.more hE hg
theorem GA.at (h:GA K L H le es lg ob gs) {q:Nat} (hq:q < es.length):∃ xs x,H le = some (.lst xs)/\xs.length = es.length/\xs[q]? = some x/\decide (x = .non) = noE es q:=by
 obtain ⟨xs,h1,h2,h3⟩:=h
 have hx:xs[q]? = some xs[q]:=List.getElem?_eq_getElem (by omega)
 have ho:es[q]? = some es[q]:=List.getElem?_eq_getElem hq
 refine ⟨xs,_,h1,h2,hx,?_⟩
 unfold noE
 rw [ho]
 rcases h3 q _ _ hx ho with h | ⟨_,_,c,u,e,_⟩
 ·cases e:es[q] with
  | none=>rw [e] at h; exact decide_eq_true h
  | some e'=>
   rw [e] at h
   refine decide_eq_false fun z=>?_
   rw [z] at h
   cases e' with
   | one wd n=>obtain ⟨u,e,_⟩:=h; cases e
   | many wd ns=>obtain ⟨u,l,e,_⟩:=h; cases e
   | free=>obtain ⟨u,e,_⟩:=h; cases e
 ·rw [c,e]
  exact decide_eq_false fun z=>by cases z
theorem get_set {α : Type} {l:List α} {q i:Nat} {x y : α} (h:(l.set q x)[i]? = some y):(i = q/\y = x)\/(i ≠ q/\l[i]? = some y):=by
 rw [List.getElem?_set] at h
 by_cases e:q = i
 ·rw [if_pos e] at h
  split at h
  ·cases h; exact .inl ⟨e.symm,rfl⟩
  ·cases h
 ·rw [if_neg e] at h
  exact .inr ⟨Ne.symm e,h⟩
theorem GA.set {xs:List V} {q:Nat} {x:V} {o:Option En} (h:GA K L H le es lg ob gs) (h1:H le = some (.lst xs)) (hx:EnO K (okL (lg :: L)) H x o) (hL:le ∈ L):GA K L (upd H le (.lst (xs.set q x))) le (es.set q o) lg ob gs:=by
 obtain ⟨xs',h1',h2,h3⟩:=h
 rw [h1] at h1'
 cases h1'
 refine ⟨_,upd_same,by rw [List.length_set,List.length_set]; exact h2,fun i y r hy hr=>?_⟩
 rcases get_set hy with ⟨rfl,rfl⟩ | ⟨n,hy⟩
 ·rcases get_set hr with ⟨_,rfl⟩ | ⟨n,_⟩
  ·exact .inl (EnO.put hx h1 (List.mem_cons_of_mem _ hL))
  ·exact absurd rfl n
 ·rcases get_set hr with ⟨e,_⟩ | ⟨_,hr⟩
  ·exact absurd e n
  ·rcases h3 i y r hy hr with h | ⟨a,b,c,u,e,t⟩
   ·exact .inl (EnO.put h h1 (List.mem_cons_of_mem _ hL))
   ·exact .inr ⟨a,b,c,u,e,sqT_upd t h1⟩
theorem GA.push {b j:Nat} {xs:List V} {u:Addr} (h:GA K L H le es lg (some b) gs) (hg:H lg = some (.lst ((natI gs).map V.int))) (ne:le ≠ lg) (h1:H le = some (.lst xs)) (hL:le ∈ L) (hun:upd H lg (.lst ((natI (gs ++ [j])).map V.int)) u = none) :
  GA K L (upd (upd (upd H lg (.lst ((natI (gs ++ [j])).map V.int))) u (.tup [.str "names",.ref lg])) le (.lst (xs.set b (.ref u)))) le (es.set b (some (.many "names" (gs ++ [j])))) lg (some b) (gs ++ [j]):=by
 obtain ⟨xs',h1',h2,h3⟩:=h
 rw [h1] at h1'
 cases h1'
 refine ⟨_,upd_same,by rw [List.length_set,List.length_set]; exact h2,fun i y r hy hr=>?_⟩
 have h1':upd H lg (.lst ((natI (gs ++ [j])).map V.int)) le = some (.lst xs):=by rw [upd_ne ne]; exact h1
 have s2:=same_new hun (.tup [.str "names",.ref lg])
 have h1'':=s2 _ _ h1'
 rcases get_set hy with ⟨rfl,rfl⟩ | ⟨n,hy⟩
 ·rcases get_set hr with ⟨_,rfl⟩ | ⟨n,_⟩
  ·exact .inr ⟨by simp,rfl,rfl,u,rfl,sqT_upd (SqT.of upd_same) h1''⟩
  ·exact absurd rfl n
 ·rcases get_set hr with ⟨e,_⟩ | ⟨_,hr⟩
  ·exact absurd e n
  ·rcases h3 i y r hy hr with h | ⟨_,b,_⟩
   ·exact .inl (EnO.put ((EnO.put h hg List.mem_cons_self).same s2) h1'' (List.mem_cons_of_mem _ hL))
   ·cases b; exact absurd rfl n
theorem GA.done (h:GA K L H le es lg ob gs) (hg:H lg = some (.lst ((natI gs).map V.int))) (hL:lg ∉ L):EsAt K L H le es:=by
 obtain ⟨xs,h1,h2,h3⟩:=h
 refine ⟨xs,h1,?_⟩
 have:∀ (xs:List V) (es:List (Option En)),xs.length = es.length->(∀ (i:Nat) (x:V) (o:Option En),xs[i]? = some x->es[i]? = some o->EnO K (okL L) H x o)->Paired (EnO K (okL L) H) xs es:=by
  intro xs
  induction xs with
  | nil=>intro es l _; cases es with | nil=>exact .nil | cons _ _=>cases l
  | cons x xs ih=>
   intro es l h
   cases es with
   | nil=>cases l
   | cons o es=>exact .cons (h 0 x o rfl rfl) (ih es (Nat.succ.inj l) fun i y r hy hr=>h (i + 1) y r hy hr)
 refine this xs es h2 fun i x o hx ho=>?_
 rcases h3 i x o hx ho with h | ⟨_,_,c,u,e,t⟩
 ·exact h.weak fun a ha hm=>ha (List.mem_cons_of_mem _ hm)
 ·rw [c,e]
  exact ⟨u,lg,rfl,t,hL,hg⟩
theorem fr_upd {H0:Hp} {x:Addr} {o:HO} (h:∀ b,H b = none->H0 b = none):∀ b,upd H x o b = none->H0 b = none:=fun b e=>by
 by_cases n:b = x
 ·rw [n,upd_same] at e; cases e
 ·rw [upd_ne n] at e; exact h b e
end
structure WG (K:PySem.W.Frag) (CW:Addr) (H0 Hs H:Hp) (wk:Addr) (zs:List Str) (a:WA) (s:MS) (es:List (Option En)) (lg:Addr) (ob:Option Nat) (gs:List Nat):Prop where
 o:Same H0 H
 w:H wk = some (.ins CW a.dx (wf a))
 e:GA K [a.le,a.lp] H a.le es lg ob gs
 p:H a.lp = some (.lst ((natI s.l).map V.int))
 n:H a.ln = some (.lst (zs.map V.str))
 u:H a.lu = some (.lst ((natI s.un).map V.int))
 d:H a.ld = some (.dK s.d1)
 b:H a.lb = some (.dK s.d2)
 g:H lg = some (.lst ((natI gs).map V.int))
 f:∀ b,H b = none->Hs b = none
 fr:FrE K H0 H a.le
section
variable {K:PySem.W.Frag} {CW:Addr} {H0 Hs H H':Hp} {wk:Addr} {zs:List Str} {a:WA} {s:MS} {es:List (Option En)} {lg:Addr} {ob:Option Nat} {gs:List Nat}
theorem WG.new (W:WG K CW H0 Hs H wk zs a s es lg ob gs) {x:Addr} (hx:H x = none) (o:HO):WG K CW H0 Hs (upd H x o) wk zs a s es lg ob gs:=by
 have t:=same_new hx o
 exact ⟨W.o.trans t,t _ _ W.w,W.e.same t,t _ _ W.p,t _ _ W.n,t _ _ W.u,t _ _ W.d,t _ _ W.b,t _ _ W.g,fr_upd W.f,let ⟨_,h,_⟩:=W.e; W.fr.same h t⟩
theorem WG.set (W:WG K CW H0 Hs H wk zs a s es lg ob gs) {xs:List V} {q:Nat} {x:V} {o:Option En} (h1:H a.le = some (.lst xs)) (hx:EnO K (okL (lg :: [a.le,a.lp])) H x o) (hf:MX K H0 a.le 100 H x) (z:H0 a.le = none) (n1:a.le ≠ a.lp) (n2:a.ln ≠ a.le) (n4:a.lu ≠ a.le) (ng:lg ≠ a.le):WG K CW H0 Hs (upd H a.le (.lst (xs.set q x))) wk zs a s (es.set q o) lg ob gs:=
 ⟨same_out W.o z,by rw [upd_ne (ne_of W.w h1 (by intro z; cases z))]; exact W.w,W.e.set h1 hx List.mem_cons_self,by rw [upd_ne (Ne.symm n1)]; exact W.p,by rw [upd_ne n2]; exact W.n,by rw [upd_ne n4]; exact W.u,by rw [upd_ne (ne_of W.d h1 (by intro z; cases z))]; exact W.d,by rw [upd_ne (ne_of W.b h1 (by intro z; cases z))]; exact W.b,by rw [upd_ne ng]; exact W.g,fr_upd W.f,W.fr.set h1 hf⟩
theorem WG.push {b j:Nat} {xs:List V} {u:Addr} (W:WG K CW H0 Hs H wk zs a s es lg (some b) gs) (h1:H a.le = some (.lst xs)) (zg:H0 lg = none) (z:H0 a.le = none) (n1:a.le ≠ a.lp) (n2:a.ln ≠ a.le) (n4:a.lu ≠ a.le) (ng1:lg ≠ a.le) (ng2:lg ≠ a.lp) (ng3:lg ≠ a.ln) (ng4:lg ≠ a.lu) (lgs:(gs ++ [j]).length<=100) (hu:upd H lg (.lst ((natI (gs ++ [j])).map V.int)) u = none) :
  WG K CW H0 Hs (upd (upd (upd H lg (.lst ((natI (gs ++ [j])).map V.int))) u (.tup [.str "names",.ref lg])) a.le (.lst (xs.set b (.ref u)))) wk zs a s (es.set b (some (.many "names" (gs ++ [j])))) lg (some b) (gs ++ [j]):=by
 have t:=same_new hu (.tup [.str "names",.ref lg])
 have k:∀ {x:Addr} {o:HO},H x = some o->x ≠ lg->x ≠ a.le->upd (upd (upd H lg (.lst ((natI (gs ++ [j])).map V.int))) u (.tup [.str "names",.ref lg])) a.le (.lst (xs.set b (.ref u))) x = some o:=fun {x o} h m1 m2=>by
  rw [upd_ne m2]
  exact t _ _ (by rw [upd_ne m1]; exact h)
 refine ⟨same_out ((same_out W.o zg).trans t) z,k W.w (ne_of W.w W.g (by intro z; cases z)) (ne_of W.w h1 (by intro z; cases z)),W.e.push W.g (Ne.symm ng1) h1 List.mem_cons_self hu,k W.p (Ne.symm ng2) (Ne.symm n1),k W.n (Ne.symm ng3) n2,k W.u (Ne.symm ng4) n4,k W.d (ne_of W.d W.g (by intro z; cases z)) (ne_of W.d h1 (by intro z; cases z)),k W.b (ne_of W.b W.g (by intro z; cases z)) (ne_of W.b h1 (by intro z; cases z)),by rw [upd_ne ng1]; exact t _ _ upd_same,fr_upd (fr_upd (fr_upd W.f)),?_⟩
 have h1':upd H lg (.lst ((natI (gs ++ [j])).map V.int)) a.le = some (.lst xs):=by rw [upd_ne (Ne.symm ng1)]; exact h1
 have f1:FrE K H0 (upd H lg (.lst ((natI (gs ++ [j])).map V.int))) a.le:=fun ys ey y hy=>by
  rw [h1'] at ey
  cases ey
  exact (W.fr _ h1 y hy).map (fun _ _ z=>sqT_upd z W.g) fun l' ys n hl' g=>by
   by_cases e:l' = lg
   ·exact ⟨_,by rw [e]; exact upd_same,by rw [List.length_map,natI_len]; exact lgs⟩
   ·exact ⟨ys,by rw [upd_ne e]; exact hl',g⟩
 exact (f1.same h1' t).set (t _ _ h1') (.inr ⟨u,rfl,.inr (.inr ⟨_,lg,_,SqT.of upd_same,.inr rfl,zg,ng1,t _ _ upd_same,by rw [List.length_map,natI_len]; exact lgs⟩)⟩)
end
def spLead (CW:Addr) (cl:Nat->Addr):Sp:=fun vs H Q E=>∃ (wk:Addr) (a:WA) (p j:Nat) (xs:List V) (x:V),vs = [.ref wk,.int (p:Nat),.int (j:Nat)]/\H wk = some (.ins CW a.dx (wf a))/\H a.le = some (.lst xs)/\xs[p]? = some x/\
 (x = .non->∀ u,H u = none->Q .non (upd (upd H u (.tup [.str "name",.int (j:Nat)])) a.le (.lst (xs.set p (.ref u)))))/\
 (x ≠ .non->∀ (dd:Addr) (H':Hp),Same H H'->H' dd = some (.xd [("number",.int (j:Nat))])->E (.ref (cl 3)) (some dd) H')
section
variable {P:Program} {w:World} {K:PySem.W.Frag} {mg:Str->Option Value} {base:Heap} {f CW g:Addr} {fd gd:FuncData} {cl:Nat->Addr}
theorem scLead:FnScope ["work","q","number"] ["work","q","number"] (defScope sLead):=⟨rfl,rfl,rfl,by decide +kernel,rfl,by decide +kernel,by decide +kernel⟩
theorem ok_lead (F:Fun K "lead" "lead" sLead f fd) (C:WC K CW) (X':X6 P w K mg base cl g gd):FnOk P w K mg base (CXs P w) 3 f fd ["work","q","number"] (spLead CW cl):=by
 refine F.okS scLead (fun vs H Q E h=>?_) (fun cdv A outer s H vs Q E hr h=>?_)
 ·obtain ⟨wk,a,p,j,xs,x,rfl,_⟩:=h
  rfl
 obtain ⟨wk,a,p,j,xs,x,rfl,hw,hxs,hx,q1,q2⟩:=h
 have hp:p < xs.length:=(List.getElem?_eq_some_iff.mp hx).1
 refine ⟨_,pss_cons (ps_if (pt_cmp (pc_notN (pe_ix ix_list (pe_fld (pv 0) rfl) (pv 1) (fun _ _=>rfl)))) (pss_one (ps_raiseS raisesS_cx rfl (pe_makeX X'.x3.call X'.x3.ok hr rfl X'.x3.gl X'.x3.bd pass0 (ac (pv 2) pa_nil)))) pss_nil)
  (pss_one (ps_asg (pe_tup (ac pe_str (ac (pv 2) pa_nil))) (pg_sub (pe_fld (pv 0) rfl) (pv 1) set_list))),?_⟩
 refine ⟨_,rfl,wk,CW,a.dx,_,_,rfl,hw,C.cl,C.n1,wf_1,_,rfl,a.le,_,_,x,rfl,rfl,SqL.of hxs,atI_nat hx,_,rfl,?_⟩
 by_cases hn:x = .non
 ·refine iteC (by rw [decide_eq_true hn]; rfl) ?_
  refine ⟨_,rfl,(by show 2<=sizeLine; decide),fun u hu=>?_⟩
  have t:=same_new hu (.tup [.str "name",.int (j:Nat)])
  exact ⟨_,rfl,wk,CW,a.dx,_,_,rfl,t _ _ hw,C.cl,C.n1,wf_1,_,rfl,a.le,xs,_,p,rfl,rfl,t _ _ hxs,ixN_nat hp,q1 hn u hu⟩
 ·refine iteB (by rw [decide_eq_false hn]; rfl) ?_
  exact ⟨_,rfl,rz_go X'.x3 (fun _ h=>h) fun d H' s1 hd=>q2 hn d H' s1 hd⟩
theorem scGather:FnScope ["work","move","q"] ["work","move"] (defScope sGather):=⟨rfl,rfl,rfl,by decide +kernel,rfl,by decide +kernel,by decide +kernel⟩
theorem ok_gather (F:Fun K "do_gather" "do_gather" sGather f fd) (C:WC K CW):FnOk P w K mg base (CXs P w) 4 f fd ["work","move"] (spDeed K CW cl 1):=by
 refine F.okS scGather (fun vs H Q E h=>?_) (fun cdv A outer s H vs Q E hr h=>?_)
 ·obtain ⟨wk,um,m,H0,zs,B,a,s,rfl,_⟩:=h
  rfl
 obtain ⟨wk,um,m,H0,zs,B,a,s,rfl,hm,hw,hmo,W,hB,q1,q2⟩:=h
 obtain ⟨q,rfl⟩:=mv_gather hw
 have hm:SqT K H um [.str "gather",.int (q:Nat)]:=hm
 have hq:q < s.es.length:=hmo
 refine pss_go (ps_set (i:=2) scGather.nd rfl (Or.inl rfl) (pe_ix ix_tup (pv 1) pe_int (fun _ _=>rfl))) ?_
 refine ⟨_,rfl,um,_,1,.int (q:Nat),rfl,rfl,hm,rfl,?_⟩
 dsimp only [gName]
 obtain ⟨xs,hxs,hps⟩:=W.e
 obtain ⟨x,hx',hxn⟩:=es_at hps hq
 obtain ⟨z1,z2,z3,z4,z5⟩:=W.z
 obtain ⟨e1,e2,e3,e4,e5,e6⟩:=W.ne
 refine ⟨_,pss_one (ps_if (pt_cmp (pc_isN (pe_ix ix_list (pe_fld (pv 0) rfl) (pv 2) (fun _ _=>rfl)))) (pss_cons (ps_asg (pe_tup (ac pe_str (ac (pe_fld (pv 0) rfl) pa_nil))) (pg_sub (pe_fld (pv 0) rfl) (pv 2) set_list)) (pss_one (ps_fld (pv 0) (pe_lst pa_nil) rfl))) pss_nil),?_⟩
 refine ⟨_,rfl,wk,CW,a.dx,_,_,rfl,W.w,C.cl,C.n1,wf_1,_,rfl,a.le,_,_,x,rfl,rfl,SqL.of hxs,atI_nat hx',_,rfl,?_⟩
 by_cases hn:noE s.es q = true
 ·refine iteB (by rw [hxn]; exact hn) ?_
  refine ⟨_,rfl,wk,CW,a.dx,_,_,rfl,W.w,C.cl,C.n2,wf_2,(by show 2<=sizeLine; decide),fun u hu=>?_⟩
  have W3:=W.same (same_new hu (.tup [.str "places",.ref a.lp]))
  have e3':SqT K (upd H u (.tup [.str "places",.ref a.lp])) u [.str "places",.ref a.lp]:=SqT.of upd_same
  generalize upd H u (.tup [.str "places",.ref a.lp]) = H3 at W3 e3' |-
  obtain ⟨xs3,hxs3,hps3⟩:=W3.e
  refine ⟨_,rfl,wk,CW,a.dx,_,_,rfl,W3.w,C.cl,C.n1,wf_1,_,rfl,a.le,xs3,_,q,rfl,rfl,hxs3,ixN_nat (by rw [hps3.length]; exact hq),?_⟩
  have ent:EnO K (okL [a.le]) H3 (.ref u) (some (.many "places" s.l)):=⟨u,a.lp,rfl,e3',fun h=>e1 (List.mem_singleton.mp h).symm,W3.p⟩
  have E4:EsAt K [a.le] (upd H3 a.le (.lst (xs3.set q (.ref u)))) a.le (s.es.set q (some (.many "places" s.l))):=EsAt.set hxs3 (Paired.imp' (fun _ _ z=>EnO.weak z fun b hb hm=>hb (by rw [List.mem_singleton.mp hm]; exact List.mem_cons_self)) hps3) ent List.mem_cons_self
  have F4:FrE K H0 (upd H3 a.le (.lst (xs3.set q (.ref u)))) a.le:=W3.fr.set hxs3 (.inr ⟨u,rfl,.inr (.inr ⟨_,a.lp,_,e3',.inl rfl,z3,Ne.symm e1,W3.p,by rw [List.length_map,natI_len]; exact W.bd.2.2.1⟩)⟩)
  have o4:Same H0 (upd H3 a.le (.lst (xs3.set q (.ref u)))):=same_out W3.o z2
  have w4:upd H3 a.le (.lst (xs3.set q (.ref u))) wk = some (.ins CW a.dx (wf a)):=by rw [upd_ne (ne_of W3.w hxs3 (by intro z; cases z))]; exact W3.w
  have n4:upd H3 a.le (.lst (xs3.set q (.ref u))) a.ln = some (.lst (zs.map V.str)):=by rw [upd_ne e2]; exact W3.n
  have u4:upd H3 a.le (.lst (xs3.set q (.ref u))) a.lu = some (.lst ((natI s.un).map V.int)):=by rw [upd_ne e4]; exact W3.u
  have d4:upd H3 a.le (.lst (xs3.set q (.ref u))) a.ld = some (.dK s.d1):=by rw [upd_ne (ne_of W3.d hxs3 (by intro z; cases z))]; exact W3.d
  have b4:upd H3 a.le (.lst (xs3.set q (.ref u))) a.lb = some (.dK s.d2):=by rw [upd_ne (ne_of W3.b hxs3 (by intro z; cases z))]; exact W3.b
  dsimp only
  generalize upd H3 a.le (.lst (xs3.set q (.ref u))) = H4 at E4 F4 o4 w4 n4 u4 d4 b4 |-
  refine ⟨(by show 0<=sizeLine; decide),fun lp hlp=>?_⟩
  have s5:=same_new hlp (.lst [])
  have E5:EsAt K [a.le,lp] (upd H4 lp (.lst [])) a.le (s.es.set q (some (.many "places" s.l))):=by
   obtain ⟨ys,y1,y2⟩:=E4
   have wk':∀ b,okL [lp,a.le] b->okL [a.le,lp] b:=fun b hb hm=>hb (by
    rcases List.mem_cons.mp hm with rfl | hm
    ·exact List.mem_cons_of_mem _ List.mem_cons_self
    ·rw [List.mem_singleton.mp hm]; exact List.mem_cons_self)
   exact ⟨ys,s5 _ _ y1,Paired.imp' (fun _ _ z=>(EnO.weak (EnO.more z hlp) wk').same s5) y2⟩
  have zlp:H0 lp = none:=o4.free hlp
  obtain ⟨ys,y1,_⟩:=E4
  have m1:a.le ≠ lp:=fun e=>by rw [<- e,y1] at hlp; cases hlp
  have m2:a.ln ≠ lp:=fun e=>by rw [<- e,n4] at hlp; cases hlp
  have m3:a.lu ≠ lp:=fun e=>by rw [<- e,u4] at hlp; cases hlp
  have w5:=s5 _ _ w4
  refine ⟨_,rfl,wk,CW,a.dx,_,rfl,w5,C.cl,C.n2,by show 6 < 1000; decide,?_⟩
  have Wf:WI K CW H0 (upd (upd H4 lp (.lst [])) wk (.ins CW a.dx (putF "unused_places" (.ref lp) (wf a)))) wk zs B { a with lp:=lp } { s with es:=s.es.set q (some (.many "places" s.l)),l:=[] }:=by
   refine ⟨same_out (o4.trans s5) z1,by rw [upd_same,wf_p],esAt_w E5 w5,upd_w upd_same (by intro _ _ _ z; cases z) w5,upd_w (s5 _ _ n4) (by intro _ _ _ z; cases z) w5,upd_w (s5 _ _ u4) (by intro _ _ _ z; cases z) w5,upd_w (s5 _ _ d4) (by intro _ _ _ z; cases z) w5,upd_w (s5 _ _ b4) (by intro _ _ _ z; cases z) w5,⟨z1,z2,zlp,z4,z5⟩,⟨m1,e2,m2,e4,m3,e6⟩,⟨W.r.sh,W.r.op,W.r.un,?_⟩,⟨W.bd.1,W.bd.2.1,Nat.zero_le _,W.bd.2.2.2.1,?_⟩,?_⟩
   ·show DOk (s.es.set q _).length s.d
    rw [List.length_set]; exact W.r.dk
   ·show (s.es.set q _).length<=100
    rw [List.length_set]; exact W.bd.2.2.2.2
   ·have F5:=F4.same y1 s5
    intro zs' ez z hz
    rw [upd_w (s5 _ _ y1) (by intro _ _ _ z; cases z) w5] at ez
    cases ez
    exact (F5 _ (s5 _ _ y1) z hz).map (fun _ _ z=>sqT_w z w5) fun l ys _ hl g=>⟨ys,upd_w hl (by intro _ _ _ z; cases z) w5,g⟩
  exact q1 _ _ _ Wf.more (nxt_step (m:=.gather q) True.intro (s:=s) (if_pos hn))
 ·refine iteC (by rw [hxn]; simpa using hn) ?_
  exact q1 _ _ _ W.more (nxt_step (m:=.gather q) True.intro (s:=s) (if_neg hn))
end
theorem thF_all {d:Doors} {q:Option Nat} {es:List (Option En)} {us gs:List Nat}:∀ (zs:List Str) (j:Nat),(∀ k,j<=k->k < j + zs.length->k ∈ us)->thF d q j zs es us gs = (none,es,us,gs)
 | [],_,_=>rfl
 | z :: zs,j,h=>by
  unfold thF
  rw [if_pos (h j (Nat.le_refl _) (by rw [List.length_cons]; omega))]
  exact thF_all zs (j + 1) fun k h1 h2=>h k (by omega) (by rw [List.length_cons]; omega)
theorem nxt_names {o:Option Nat} {zs:List Str} {s:MS} {es':List (Option En)} {us' gs':List Nat} {d1 d2:Doors} {un:List Nat} (e:thF s.d o 0 zs s.es s.us [] = (none,es',us',gs')):nxt (.names o) zs s ⟨s.d,d1,d2,thEnd o es',us',un,s.l⟩:=by
 have ea:thAll s.d o zs s.es s.us = (none,thEnd o es',us'):=by unfold thAll; rw [e]
 refine ⟨?_,fun ms=>?_⟩
 ·have:=thAll_len (d:=s.d) (q:=o) (zs:=zs) (es:=s.es) (us:=s.us)
  rw [ea] at this
  exact this
 ·show (match thAll s.d o zs s.es s.us with | (some r,_,_)=>Sum.inl r | (none,es',us')=>runM ms zs s.d es' us' s.l) = _
  rw [ea]
theorem bad_names {o:Option Nat} {zs:List Str} {s:MS} {r:Str × Nat} {X:List (Option En) × List Nat × List Nat} (e:thF s.d o 0 zs s.es s.us [] = (some r,X)):bad (.names o) zs s r:=fun ms=>by
 obtain ⟨es',us',gs'⟩:=X
 show (match thAll s.d o zs s.es s.us with | (some r,_,_)=>Sum.inl r | (none,es',us')=>runM ms zs s.d es' us' s.l) = _
 rw [show thAll s.d o zs s.es s.us = (some r,es',us') by unfold thAll; rw [e]]
theorem natI_at {l:List Nat} {i:Nat} {x:V} (h:((natI l).map V.int)[i]? = some x):∃ j,l[i]? = some j/\x = .int (j:Nat):=by
 rw [List.getElem?_map] at h
 unfold natI at h
 rw [List.getElem?_map] at h
 cases e:l[i]? with
 | none=>rw [e] at h; cases h
 | some j=>rw [e] at h; cases h; exact ⟨j,rfl,rfl⟩
section
variable {P:Program} {w:World} {K:PySem.W.Frag} {mg:Str->Option Value} {base:Heap} {f CW g:Addr} {fd gd:FuncData} {cl:Nat->Addr}
theorem scNames:FnScope ["work","move","q","gathered","number","name"] ["work","move"] (defScope sNames):=⟨rfl,rfl,rfl,by decide +kernel,rfl,by decide +kernel,by decide +kernel⟩
theorem ok_names {g1:Addr} {d1:FuncData} (F:Fun K "do_names" "do_names" sNames f fd) (U:TxtL mg) (C:WC K CW) (X':X6 P w K mg base cl g gd) (cL:CalleeS P w K mg base 3 "lead" g1 d1 ["work","q","number"] (spLead CW cl)):FnOk P w K mg base (CXs P w) 4 f fd ["work","move"] (spDeed K CW cl 5):=by
 refine F.okS scNames (fun vs H Q E h=>?_) (fun cdv A outer s H vs Q E hr h=>?_)
 ·obtain ⟨wk,um,m,H0,zs,B,a,s,rfl,_⟩:=h
  rfl
 obtain ⟨wk,um,m,H0,zs,B,a,s,rfl,hm,hw,hmo,W,hB,q1,q2⟩:=h
 have hr2:Room 2 _:=hr.mono (by decide)
 have hu1:=hu_of hr
 obtain ⟨o,rfl⟩:=mv_names hw
 obtain ⟨z1,z2,z3,z4,z5⟩:=W.z
 obtain ⟨e1,e2,e3,e4,e5,e6⟩:=W.ne
 have bz:=W.bd.2.2.2.1
 have hob:∀ b,o = some b->b < s.es.length:=fun b e=>by subst e; exact hmo
 refine pss_go (ps_set (i:=2) scNames.nd rfl (Or.inl rfl) (pe_ifExp (pt_cmpR op_gt (cB call_len_seq U.len PySem.boot_len (ac (pv 1) pa_nil)) pe_int (nomark _)) (pe_ix ix_tup (pv 1) pe_int (fun _ _=>rfl)) pe_non)) ?_
 refine seq_via (fun σ' H'=>σ' = [some (.ref wk),some (.ref um),some (qV o),none,none,none]/\H' = H) ?_ (fun key=>?_)
 rotate_left
 ·refine ⟨_,rfl,um,_,rfl,.inr hm,_,_,rfl,rfl,_,rfl,?_⟩
  cases o with
  | none=>
   refine dF (by show ¬ (1:Int) < 1; decide) ?_
   exact key _ _ ⟨rfl,rfl⟩
  | some b=>
   refine dT (by show (1:Int) < 2; decide) ?_
   exact ⟨_,rfl,um,_,1,.int (b:Nat),rfl,rfl,hm,rfl,key _ _ ⟨rfl,rfl⟩⟩
 rintro σ0 Hx ⟨rfl,rfl⟩
 refine pss_go (ps_set (i:=3) scNames.nd rfl (Or.inl rfl) (pe_lst pa_nil)) ?_
 refine ⟨(by show 0<=sizeLine; decide),fun lg hlg=>?_⟩
 have t1:=same_new hlg (.lst [])
 obtain ⟨xs0,hx0,_⟩:=id W.e
 have ng1:lg ≠ a.le:=fun e=>by rw [e,hx0] at hlg; cases hlg
 have ng2:lg ≠ a.lp:=fun e=>by rw [e,W.p] at hlg; cases hlg
 have ng3:lg ≠ a.ln:=fun e=>by rw [e,W.n] at hlg; cases hlg
 have ng4:lg ≠ a.lu:=fun e=>by rw [e,W.u] at hlg; cases hlg
 have zg:H0 lg = none:=W.o.free hlg
 have G0:WG K CW H0 Hx (upd Hx lg (.lst [])) wk zs a s s.es lg o []:=⟨W.o.trans t1,t1 _ _ W.w,(GA.start W.e hlg).same t1,t1 _ _ W.p,t1 _ _ W.n,t1 _ _ W.u,t1 _ _ W.d,t1 _ _ W.b,upd_same,fr_upd (fun _ h=>h),let ⟨_,h,_⟩:=W.e; W.fr.same h t1⟩
 dsimp only [gName]
 generalize upd Hx lg (.lst []) = H1 at t1 G0 |-
 clear t1 hlg hx0
 have nxtF:∀ {es':List (Option En)} {us' gs':List Nat} {d1 d2:Doors} {un:List Nat},thF s.d o 0 zs s.es s.us [] = (none,es',us',gs')->nxt (.names o) zs s ⟨s.d,d1,d2,thEnd o es',us',un,s.l⟩:=nxt_names
 have badF:∀ {r:Str × Nat} {X:List (Option En) × List Nat × List Nat},thF s.d o 0 zs s.es s.us [] = (some r,X)->bad (.names o) zs s r:=bad_names
 have hR0:thF s.d o 0 zs s.es s.us [] = thF s.d o 0 (zs.drop 0) s.es (s.us ++ List.range 0) []:=by rw [List.range_zero,List.append_nil]; rfl
 generalize thF s.d o 0 zs s.es s.us [] = R at nxtF badF hR0
 refine pss_go (ps_for PassesOwn.leaving rfl (pi_list (pe_fld (pv 0) rfl)) (pg_name (i:=4) scNames.nd rfl (Or.inl rfl)) pss_all) ?_
 refine seq_via (fun σ' H'=>∃ (es':List (Option En)) (gs':List Nat) (v4 v5:Option V),σ' = [some (.ref wk),some (.ref um),some (qV o),some (.ref lg),v4,v5]/\WG K CW H0 Hx H' wk zs a s es' lg o gs'/\R = (none,es',s.us ++ List.range s.un.length,gs')/\es'.length = s.es.length) ?_ (fun key=>?_)
 rotate_left
 ·refine ⟨_,rfl,wk,CW,a.dx,_,_,rfl,G0.w,C.cl,C.n4,wf_4,a.lu,rfl,⟨_,SqL.of G0.u⟩,for_list (K:=K) (a:=a.lu) (xs:=(natI s.un).map V.int) (fun i σ H'=>∃ (es':List (Option En)) (gs':List Nat) (v4 v5:Option V),σ = [some (.ref wk),some (.ref um),some (qV o),some (.ref lg),v4,v5]/\WG K CW H0 Hx H' wk zs a s es' lg o gs'/\R = thF s.d o i (zs.drop i) es' (s.us ++ List.range i) gs'/\es'.length = s.es.length/\gs'.length<=i) ⟨s.es,[],_,_,rfl,G0,hR0,rfl,Nat.le_refl _⟩ (fun i σ H' _ ⟨_,_,_,_,_,G,_⟩=>SqL.of G.u) ?_ ?_⟩
  ·rintro i x σ H2 hx ⟨es',gs',v4,v5,rfl,G,eF,lE,lG⟩
   obtain ⟨j,hj,rfl⟩:=natI_at hx
   rcases W.r.un with ⟨hus,hun⟩ | ⟨_,hun⟩
   rotate_left
   ·rw [hun] at hj; cases hj
   rw [hun] at hj
   have hi:i < zs.length:=by
    have:=(List.getElem?_eq_some_iff.mp hj).1
    rw [List.length_range] at this
    exact this
   have ej:j = i:=by
    rw [List.getElem?_range hi] at hj
    cases hj
    rfl
   subst ej
   obtain ⟨z,hz⟩:∃ z,zs[j]? = some z:=⟨_,List.getElem?_eq_getElem hi⟩
   have ed:zs.drop j = z :: zs.drop (j + 1):=by
    rw [List.drop_eq_getElem_cons hi]
    congr 1
    exact (List.getElem?_eq_some_iff.mp hz).2
   rw [ed,hus,List.nil_append] at eF
   have eu:([] ++ List.range j ++ [j]:List Nat) = s.us ++ List.range (j + 1):=by rw [hus,List.range_succ]; rfl
   rw [List.nil_append] at eu
   unfold thF at eF
   rw [if_neg (fun h=>Nat.lt_irrefl _ (List.mem_range.mp h)),eu] at eF
   refine pss_go (ps_set (i:=5) scNames.nd rfl (Or.inl rfl) (pe_ix ix_list (pe_fld (pv 0) rfl) (pv 4) (fun _ _=>rfl))) ?_
   refine ⟨_,rfl,wk,CW,a.dx,_,_,rfl,G.w,C.cl,C.n3,wf_3,_,rfl,a.ln,_,_,.str z,rfl,rfl,SqL.of G.n,atI_nat (by rw [List.getElem?_map,hz]; rfl),?_⟩
   dsimp only [gName]
   refine pss_go (ps_if (pt_cmp (pc_din hu1 (pv 5) (pe_fld (pv 0) rfl))) (pss_one (ps_raiseS raisesS_cx rfl (pe_makeX X'.x2.call X'.x2.ok hr2 rfl X'.x2.gl X'.x2.bd pass0 (ac (pv 4) pa_nil)))) pss_nil) ?_
   refine ⟨_,rfl,_,rfl,wk,CW,a.dx,_,_,rfl,G.w,C.cl,C.n6,wf_6,a.lb,_,rfl,DGet.k (k:=.inr z) G.b,_,rfl,?_⟩
   rw [W.r.sh z]
   by_cases hs:dShut s.d z = true
   ·rw [if_pos hs] at eF
    rw [hs]
    refine iteT ?_
    exact ⟨_,rfl,rz_go X'.x2 G.f fun d H' s1 hd=>q2 ("barred",j) d H' (badF eF) (G.o.trans s1) hd⟩
   have hs:dShut s.d z = false:=by simpa using hs
   rw [hs,if_neg Bool.false_ne_true] at eF
   rw [hs]
   refine iteF ?_
   have hop:=W.r.op z hs
   refine ⟨_,pss_one (ps_if (pt_cmp (pc_din hu1 (pv 5) (pe_fld (pv 0) rfl))) (pss_one (ps_expr (cS cL (passS fun _ _ _ z=>z) hr (ac (pv 0) (ac (pe_dget hu1 (pe_fld (pv 0) rfl) (pv 5) (fun _ _=>rfl)) (ac (pv 4) pa_nil))))))
    (pss_one (ps_if (PW.pt (pw_and (pt_cmp (pc_notN (pv 2))) (pw_and1 (PW.pt (pw_or (pt_cmp (pc_isN (pe_ix ix_list (pe_fld (pv 0) rfl) (pv 2) (fun _ _=>rfl)))) (pw_or1 (pt_truth (pv 3) (fun _=>rfl)))))))) (pss_cons (ps_expr (pe_bm PySem.F.plainAttrs_list PySem.F.slot_list_append PySem.F.type_list_append mt_append (pv 3) (ac (pv 4) pa_nil))) (pss_one (ps_asg (pe_tup (ac pe_str (ac (pv 3) pa_nil))) (pg_sub (pe_fld (pv 0) rfl) (pv 2) set_list))))
     (pss_one (ps_raiseS raisesS_cx rfl (pe_makeX X'.x4.call X'.x4.ok hr2 rfl X'.x4.gl X'.x4.bd pass0 (ac (pv 4) pa_nil))))))),?_⟩
   have dg:DGet H2 a.ld (.str z) (valV s.d1 (.inr z)):=DGet.k (k:=.inr z) G.d
   refine ⟨_,rfl,_,rfl,wk,CW,a.dx,_,_,rfl,G.w,C.cl,C.n5,wf_5,a.ld,_,rfl,dg,_,rfl,?_⟩
   rw [hop] at dg |-
   cases hv:valV s.d (.inr z) with
   | some v=>
    obtain ⟨p,rfl,hp⟩:=dShut_iff W.r.dk hs v hv
    rw [hv] at eF dg
    have eF:R = if noE es' p = true then thF s.d o (j + 1) (zs.drop (j + 1)) (es'.set p (some (.one "name" j))) (s.us ++ List.range (j + 1)) gs' else (some ("again",j),es',List.range j,gs'):=by
     have:vN (.int (p:Nat)) = p:=by show ((p:Nat):Int).toNat = p; omega
     rw [<- this]; exact eF
    refine iteT ?_
    obtain ⟨xs,x,hxs,lxs,hx',hxn⟩:=G.e.at (q:=p) (by omega)
    refine ⟨_,rfl,_,rfl,wk,CW,a.dx,_,_,rfl,G.w,C.cl,C.n5,wf_5,_,rfl,a.ld,_,rfl,dg,_,rfl,wk,a,p,j,xs,x,rfl,G.w,hxs,hx',fun e u hu=>?_,fun e dd H' s1 hd=>?_⟩
    ·have hn:noE es' p = true:=by rw [<- hxn,decide_eq_true e]
     rw [if_pos hn] at eF
     have G2:=G.new hu (.tup [.str "name",.int (j:Nat)])
     have t2:=same_new hu (.tup [.str "name",.int (j:Nat)])
     exact ⟨_,gs',_,_,rfl,G2.set (o:=some (.one "name" j)) (t2 _ _ hxs) ⟨u,rfl,SqT.of upd_same⟩ (.inr ⟨u,rfl,.inl ⟨_,j,SqT.of upd_same,.inr rfl⟩⟩) z2 e1 e2 e4 ng1,eF,by rw [List.length_set]; exact lE,by omega⟩
    ·have hn:¬ noE es' p = true:=by rw [<- hxn,decide_eq_false e]; decide
     rw [if_neg hn] at eF
     exact q2 ("again",j) dd H' (badF eF) (G.o.trans s1) hd
   | none=>
    rw [hv] at eF
    refine iteF ?_
    refine ⟨_,rfl,_,rfl,?_⟩
    cases ho:o with
    | none=>
     rw [ho] at eF
     refine iteF ?_
     refine iteF ?_
     exact ⟨_,rfl,rz_go X'.x4 G.f fun d H' s1 hd=>q2 ("strange",j) d H' (badF eF) (G.o.trans s1) hd⟩
    | some b=>
     have hb:=hob b ho
     have eF':R = if noE es' b = true\/gs' ≠ [] then thF s.d o (j + 1) (zs.drop (j + 1)) (es'.set b (some (.many "names" (gs' ++ [j])))) (s.us ++ List.range (j + 1)) (gs' ++ [j]) else (some ("strange",j),es',List.range j,gs'):=by
      rw [ho] at eF |-; exact eF
     refine iteT ?_
     obtain ⟨xs,x,hxs,lxs,hx',hxn⟩:=G.e.at (q:=b) (by omega)
     refine ⟨_,rfl,wk,CW,a.dx,_,_,rfl,G.w,C.cl,C.n1,wf_1,_,rfl,a.le,_,_,x,rfl,rfl,SqL.of hxs,atI_nat hx',_,rfl,?_⟩
     by_cases hn:noE es' b = true
     ·rw [if_pos (.inl hn)] at eF'
      refine iteB (by rw [hxn]; exact hn) ?_
      refine iteT ?_
      refine ⟨_,rfl,.inl ⟨rfl,_,SqL.of G.g⟩,_,rfl,lg,_,_,rfl,rfl,G.g,small1000 (by rw [List.length_map,natI_len]; omega),?_⟩
      rw [show (natI gs').map V.int ++ [V.int (j:Nat)] = (natI (gs' ++ [j])).map V.int by rw [natI_app,List.map_append]; rfl]
      dsimp only
      have lw:upd H2 lg (.lst ((natI (gs' ++ [j])).map V.int)) wk = some (.ins CW a.dx (wf a)):=by rw [upd_ne (ne_of G.w G.g (by intro z; cases z))]; exact G.w
      have lx:upd H2 lg (.lst ((natI (gs' ++ [j])).map V.int)) a.le = some (.lst xs):=by rw [upd_ne (Ne.symm ng1)]; exact hxs
      refine ⟨_,rfl,(by show 2<=sizeLine; decide),fun u hu=>?_⟩
      have t:=same_new hu (.tup [.str "names",.ref lg])
      refine ⟨_,rfl,wk,CW,a.dx,_,_,rfl,t _ _ lw,C.cl,C.n1,wf_1,_,rfl,a.le,xs,_,b,rfl,rfl,t _ _ lx,ixN_nat (by omega),?_⟩
      rw [ho] at G eF'
      exact ⟨_,gs' ++ [j],_,_,rfl,G.push hxs zg z2 e1 e2 e4 ng1 ng2 ng3 ng4 (by rw [List.length_append,List.length_singleton]; omega) hu,eF',by rw [List.length_set]; exact lE,by rw [List.length_append,List.length_singleton]; omega⟩
     ·refine iteC (by rw [hxn]; simpa using hn) ?_
      refine ⟨_,rfl,_,.inl ⟨_,SqL.of G.g,rfl⟩,?_⟩
      by_cases hg:gs' = []
      ·rw [if_neg (by rintro (h | h); exact hn h; exact h hg)] at eF'
       refine iteC (by rw [hg]; rfl) ?_
       exact ⟨_,rfl,rz_go X'.x4 G.f fun d H' s1 hd=>q2 ("strange",j) d H' (badF eF') (G.o.trans s1) hd⟩
      rw [if_pos (.inr hg)] at eF'
      refine iteB (by cases gs' with | nil=>exact absurd rfl hg | cons y ys=>rfl) ?_
      refine ⟨_,rfl,.inl ⟨rfl,_,SqL.of G.g⟩,_,rfl,lg,_,_,rfl,rfl,G.g,small1000 (by rw [List.length_map,natI_len]; omega),?_⟩
      rw [show (natI gs').map V.int ++ [V.int (j:Nat)] = (natI (gs' ++ [j])).map V.int by rw [natI_app,List.map_append]; rfl]
      dsimp only
      have lw:upd H2 lg (.lst ((natI (gs' ++ [j])).map V.int)) wk = some (.ins CW a.dx (wf a)):=by rw [upd_ne (ne_of G.w G.g (by intro z; cases z))]; exact G.w
      have lx:upd H2 lg (.lst ((natI (gs' ++ [j])).map V.int)) a.le = some (.lst xs):=by rw [upd_ne (Ne.symm ng1)]; exact hxs
      refine ⟨_,rfl,(by show 2<=sizeLine; decide),fun u hu=>?_⟩
      have t:=same_new hu (.tup [.str "names",.ref lg])
      refine ⟨_,rfl,wk,CW,a.dx,_,_,rfl,t _ _ lw,C.cl,C.n1,wf_1,_,rfl,a.le,xs,_,b,rfl,rfl,t _ _ lx,ixN_nat (by omega),?_⟩
      rw [ho] at G eF'
      exact ⟨_,gs' ++ [j],_,_,rfl,G.push hxs zg z2 e1 e2 e4 ng1 ng2 ng3 ng4 (by rw [List.length_append,List.length_singleton]; omega) hu,eF',by rw [List.length_set]; exact lE,by rw [List.length_append,List.length_singleton]; omega⟩
  ·rintro σ H2 ⟨es',gs',v4,v5,rfl,G,eF,lE,lG⟩
   rw [List.length_map,natI_len] at eF
   refine key _ _ ⟨es',gs',v4,v5,rfl,G,?_,lE⟩
   rw [eF]
   rcases W.r.un with ⟨hus,hun⟩ | ⟨hus,hun⟩
   ·rw [hun,List.length_range,List.drop_length]
    rfl
   ·rw [hun]
    exact thF_all zs 0 fun k _ hk=>List.mem_append.mpr (.inl (hus k (by omega)))
 rintro σ1 H1' ⟨es',gs',v4,v5,rfl,G,eR,lE⟩
 clear G0
 have hun:∀ k,k < zs.length->k ∈ s.us ++ List.range s.un.length:=fun k hk=>by
  rcases W.r.un with ⟨_,h⟩ | ⟨h,_⟩
  ·rw [h,List.length_range]; exact List.mem_append.mpr (.inr (List.mem_range.mpr hk))
  ·exact List.mem_append.mpr (.inl (h k hk))
 refine pss_go (ps_fld (pv 0) (pe_lst pa_nil) rfl) ?_
 refine ⟨(by show 0<=sizeLine; decide),fun lu hlu=>?_⟩
 have s5:=same_new hlu (.lst [])
 have E5:EsAt K [a.le,a.lp] (upd H1' lu (.lst [])) a.le es':=(G.e.done G.g (by simp [ng1,ng2])).same s5
 obtain ⟨ys,y1,_⟩:=id G.e
 have m1:lu ≠ a.le:=fun e=>by rw [e,y1] at hlu; cases hlu
 have m2:lu ≠ a.lp:=fun e=>by rw [e,G.p] at hlu; cases hlu
 have w5:=s5 _ _ G.w
 refine ⟨_,rfl,wk,CW,a.dx,_,rfl,w5,C.cl,C.n4,by show 6 < 1000; decide,?_⟩
 have Wf:WI K CW H0 (upd (upd H1' lu (.lst [])) wk (.ins CW a.dx (putF "unused_names" (.ref lu) (wf a)))) wk zs B { a with lu:=lu } ⟨s.d,s.d1,s.d2,es',s.us ++ List.range s.un.length,[],s.l⟩:=by
  refine ⟨same_out (G.o.trans s5) z1,by rw [upd_same,wf_u],esAt_w E5 w5,upd_w (s5 _ _ G.p) (by intro _ _ _ z; cases z) w5,upd_w (s5 _ _ G.n) (by intro _ _ _ z; cases z) w5,upd_w upd_same (by intro _ _ _ z; cases z) w5,upd_w (s5 _ _ G.d) (by intro _ _ _ z; cases z) w5,upd_w (s5 _ _ G.b) (by intro _ _ _ z; cases z) w5,⟨z1,z2,z3,z4,z5⟩,⟨e1,e2,e3,m1,m2,e6⟩,⟨W.r.sh,W.r.op,.inr ⟨hun,rfl⟩,?_⟩,⟨W.bd.1,W.bd.2.1,W.bd.2.2.1,W.bd.2.2.2.1,?_⟩,?_⟩
  ·show DOk es'.length s.d
   rw [lE]; exact W.r.dk
  ·show es'.length<=100
   rw [lE]; exact W.bd.2.2.2.2
  ·have F5:=G.fr.same y1 s5
   intro zs' ez z hz
   rw [upd_w (s5 _ _ y1) (by intro _ _ _ z; cases z) w5] at ez
   cases ez
   exact (F5 _ (s5 _ _ y1) z hz).map (fun _ _ z=>sqT_w z w5) fun l ys _ hl g=>⟨ys,upd_w hl (by intro _ _ _ z; cases z) w5,g⟩
 generalize upd (upd H1' lu (.lst [])) wk (.ins CW a.dx (putF "unused_names" (.ref lu) (wf a))) = H5 at Wf |-
 clear s5 E5 y1 w5 hlu G
 refine ⟨_,pss_one (ps_if (PW.pt (pw_and (pt_cmp (pc_notN (pv 2))) (pw_and1 (pt_cmp (pc_isN (pe_ix ix_list (pe_fld (pv 0) rfl) (pv 2) (fun _ _=>rfl))))))) (pss_one (ps_asg (pe_tup (ac pe_str (ac (pe_lst pa_nil) pa_nil))) (pg_sub (pe_fld (pv 0) rfl) (pv 2) set_list))) pss_nil),?_⟩
 refine ⟨_,rfl,_,rfl,?_⟩
 cases o with
 | none=>
  refine iteF ?_
  refine iteF ?_
  exact q1 _ _ _ Wf.more (nxtF eR)
 | some b=>
  have hb:=hob b rfl
  refine iteT ?_
  obtain ⟨xs,hxs,hps⟩:=Wf.e
  obtain ⟨x,hx',hxn⟩:=es_at hps (q:=b) (by show b < es'.length; omega)
  refine ⟨_,rfl,wk,CW,a.dx,_,_,rfl,Wf.w,C.cl,C.n1,wf_1,_,rfl,a.le,_,_,x,rfl,rfl,SqL.of hxs,atI_nat hx',_,rfl,?_⟩
  have nx:=nxtF (d1:=s.d1) (d2:=s.d2) (un:=[]) eR
  by_cases hn:noE es' b = true
  ·refine iteB (by rw [hxn]; exact hn) ?_
   have et:thEnd (some b) es' = es'.set b (some (.many "names" [])):=if_pos hn
   rw [et] at nx
   refine ⟨(by show 0<=sizeLine; decide),fun l0 hl0=>?_⟩
   have W6:=Wf.same (same_new hl0 (.lst []))
   have e6':upd H5 l0 (.lst []) l0 = some (.lst ((natI []).map V.int)):=upd_same
   have k1:l0 ≠ a.le:=fun e=>by rw [e,hxs] at hl0; cases hl0
   have k2:l0 ≠ a.lp:=fun e=>by rw [e,Wf.p] at hl0; cases hl0
   have zl0:H0 l0 = none:=Wf.o.free hl0
   generalize upd H5 l0 (.lst []) = H6 at W6 e6' |-
   refine ⟨(by show 2<=sizeLine; decide),fun u hu=>?_⟩
   have t7:=same_new hu (.tup [.str "names",.ref l0])
   have W7:=W6.same t7
   have e7:EnO K (okL [a.le,a.lp]) (upd H6 u (.tup [.str "names",.ref l0])) (.ref u) (some (.many "names" [])):=⟨u,l0,rfl,SqT.of upd_same,(by simp [okL,k1,k2]),t7 _ _ e6'⟩
   have f7:MX K H0 a.le 100 (upd H6 u (.tup [.str "names",.ref l0])) (.ref u):=.inr ⟨u,rfl,.inr (.inr ⟨_,l0,_,SqT.of upd_same,.inr rfl,zl0,k1,t7 _ _ e6',by show 0<=100; omega⟩)⟩
   generalize upd H6 u (.tup [.str "names",.ref l0]) = H7 at t7 W7 e7 f7 |-
   obtain ⟨xs7,hxs7,hps7⟩:=W7.e
   refine ⟨_,rfl,wk,CW,a.dx,_,_,rfl,W7.w,C.cl,C.n1,wf_1,_,rfl,a.le,xs7,_,b,rfl,rfl,hxs7,ixN_nat (by rw [hps7.length]; show b < es'.length; omega),?_⟩
   exact q1 _ _ _ (W7.setE hxs7 hps7 e7 f7).more nx
  ·refine iteC (by rw [hxn]; simpa using hn) ?_
   have et:thEnd (some b) es' = es':=if_neg hn
   rw [et] at nx
   exact q1 _ _ _ Wf.more nx
end
def spRDbl (cl:Nat->Addr):Sp:=fun vs H Q E=>∃ (ln:Addr) (zs:List Str),vs = [.ref ln]/\H ln = some (.lst (zs.map V.str))/\zs.length<=8/\(NoD zs zs.length->∀ H',Same H H'->Q .non H')/\
 (∀ j z,zs[j]? = some z->z ∈ zs.take j->NoD zs j->∀ (dd:Addr) (H':Hp),Same H H'->H' dd = some (.xd [("number",.int (j:Nat))])->E (.ref (cl 0)) (some dd) H')
section
variable {P:Program} {w:World} {K:PySem.W.Frag} {mg:Str->Option Value} {base:Heap} {f CW g:Addr} {fd gd:FuncData} {cl:Nat->Addr}
theorem scRDbl:FnScope ["names","number","name"] ["names"] (defScope sRDbl):=⟨rfl,rfl,rfl,by decide +kernel,rfl,by decide +kernel,by decide +kernel⟩
theorem ok_rdbl (F:Fun K "refuse_doubled" "refuse_doubled" sRDbl f fd) (U:TxtL mg) (X':X6 P w K mg base cl g gd):FnOk P w K mg base (CXs P w) 3 f fd ["names"] (spRDbl cl):=by
 refine F.okS scRDbl (fun vs H Q E h=>?_) (fun cdv A outer s H vs Q E hr h=>?_)
 ·obtain ⟨ln,zs,rfl,_⟩:=h
  rfl
 obtain ⟨ln,zs,rfl,hln,bz,q1,q2⟩:=h
 refine ⟨_,pss_one (ps_for PassesOwn.leaving rfl (pi_enum rfl U.en (ac (pv 0) pa_nil)) (pg_tup rfl (pgs_cons (pg_name (i:=1) scRDbl.nd rfl (Or.inl rfl)) (pgs_cons (pg_name (i:=2) scRDbl.nd rfl (Or.inl rfl)) pgs_nil)))
   (pss_one (ps_if (pt_cmpR op_in_seq (pv 2) (pe_slice sl_list (pv 0) po_none (po_some (pv 1))) (by with_unfolding_all rfl)) (pss_one (ps_raiseS raisesS_cx rfl (pe_makeX X'.x0.call X'.x0.ok hr rfl X'.x0.gl X'.x0.bd pass0 (ac (pv 1) pa_nil)))) pss_nil))),?_⟩
 refine ⟨_,rfl,ln,rfl,⟨_,SqL.of hln⟩,for_enum (K:=K) (a:=ln) (xs:=zs.map V.str) (fun i σ H'=>∃ (v1 v2:Option V),σ = [some (.ref ln),v1,v2]/\Same H H'/\NoD zs i) ⟨_,_,rfl,Same.refl _,fun i y hi=>absurd hi (by omega)⟩ (fun i σ H' _ ⟨_,_,_,M,_⟩=>SqL.of (M _ _ hln)) ?_ ?_⟩
 ·rintro i x tn σ H5 hx ⟨v1,v2,rfl,M,nd⟩ htn
  obtain ⟨z,hz,rfl⟩:=strs_at hx
  have sp:=same_new htn (.tup [.int (i:Nat),.str z])
  refine ⟨tn,_,rfl,SqT.of upd_same,rfl,_,_,rfl,_,_,rfl,rfl,?_⟩
  have M:=M.trans sp
  generalize upd H5 tn (.tup [.int (i:Nat),.str z]) = H6 at sp M |-
  refine ⟨_,rfl,_,rfl,_,rfl,_,rfl,ln,_,rfl,SqL.of (M _ _ hln),fun p hp=>?_⟩
  rw [show cutV (zs.map V.str) none (some (i:Int)) = (zs.take i).map V.str from (cut_takeN).trans (List.map_take ..).symm]
  have s7:=same_new hp (.lst ((zs.take i).map V.str))
  have e7:upd H6 p (.lst ((zs.take i).map V.str)) p = some (.lst ((zs.take i).map V.str)):=upd_same
  have M:=M.trans s7
  generalize upd H6 p (.lst ((zs.take i).map V.str)) = H7 at s7 e7 M |-
  refine ⟨p,_,rfl,.inl (SqL.of e7),rfl,flatStrs,_,rfl,?_⟩
  rw [if_neg Bool.false_ne_true,inStrs]
  by_cases hd:z ∈ zs.take i
  ·refine dT hd ?_
   exact ⟨_,rfl,rz_go X'.x0 (fun _ h=>M.free h) fun d H' s1 hd'=>q2 i z hz hd nd d H' (M.trans s1) hd'⟩
  ·refine dF hd ?_
   refine ⟨_,_,rfl,M,fun k y hk hy=>?_⟩
   by_cases hki:k = i
   ·subst hki
    rw [hz] at hy
    cases hy
    exact hd
   ·exact nd k y (by omega) hy
 ·rintro σ H5 ⟨v1,v2,rfl,M,nd⟩
  rw [List.length_map] at nd
  exact q1 nd _ M
def wdM:Nat->Str
 | 0=>"take" | 1=>"gather" | 2=>"end" | 3=>"door" | 4=>"bar" | 5=>"names" | 6=>"need" | _=>"free"
theorem wd_kind (m:Mv):mvW m = wdM (kindM m):=by cases m <;> rfl
def deedT (ad:Nat->Addr) (x:Str):Option V:=((List.range 8).find? fun i=>decide (wdM i = x)).map fun i=>V.ref (ad i)
theorem deedT_at (ad:Nat->Addr):∀ i,i < 8->deedT ad (wdM i) = some (.ref (ad i)):=by
 intro i hi
 unfold deedT
 have:∀ i,i < 8->((List.range 8).find? fun k=>decide (wdM k = wdM i)) = some i:=by decide +kernel
 rw [this i hi]
 rfl
theorem kind_lt (m:Mv):kindM m < 8:=by cases m <;> simp [kindM]
def bEnd (zs:List Str) (n:Nat) (ms:List Mv) (c:Nat) (r:Sum (Str × Nat) (List (Option En))):Prop:=(∃ j z,zs[j]? = some z/\z ∈ zs.take j/\NoD zs j/\r = .inl ("doubled",j))\/(NoD zs zs.length/\r = runZ n ms c zs)
def spBound (K:PySem.W.Frag) (cl:Nat->Addr):Sp:=fun vs H Q E=>∃ (bt ca lm:Addr) (n:Nat) (us:List Addr) (ms:List Mv) (xs:List V) (ct:List Item),vs = [.ref bt,.ref ca]/\H bt = some (.tup [.int (n:Nat),.ref lm])/\H lm = some (.lst (us.map V.ref))/\Paired (MvAt K H) us ms/\(∀ m ∈ ms,MvOk n m)/\n<=100/\SqL K H ca xs/\Paired (Says K T' H 3) xs (ct.map itemD)/\(laidT ct).length<=100/\(laidP ct).length<=8/\ms.length<=800/\
 (∀ r,bEnd (namesOf ct) n ms (laidT ct).length (.inl r)->∀ (dd:Addr) (H':Hp),Same H H'->H' dd = some (.xd [("number",.int (r.2:Nat))])->E (.ref (cl (misI r.1))) (some dd) H')/\
 (∀ es,bEnd (namesOf ct) n ms (laidT ct).length (.inr es)->∀ (le:Addr) (H':Hp),Same H H'->H le = none->EsAt K [le] H' le es->FrE K H H' le->es.length = n->Q (.ref le) H')
theorem scBound:FnScope ["binder","call","parameter_count","moves","many","names","work","move","deed"] ["binder","call"] (defScope sBound):=⟨rfl,rfl,rfl,by decide +kernel,rfl,by decide +kernel,by decide +kernel⟩
theorem ok_bound {g1 g2 gW Da:Addr} {e1 e2 eW:FuncData} {ad:Nat->Addr} {fds:Nat->FuncData} (F:Fun K "bound" "bound" sBound f fd) (C:WC K CW) (cSh:Callee P w K mg base 2 "shape" g1 e1 ["call"] (spShape K)) (cR:CalleeS P w K mg base 3 "refuse_doubled" g2 e2 ["names"] (spRDbl cl)) (MW:Mk K CW gW) (mW:mg "Work" = some (.ref CW)) (GW:FnOk P w K mg base CX0 1 gW eW ["self","parameter_count","many","names"] (spWInit CW)) (bW:Binds K eW ["self","parameter_count","many","names"] [])
  (T:KTab w K Da (deedT ad)) (mT:mg "DEEDS" = some (.ref Da)) (D:Deeds P w K mg base (CXs P w) 4 (Fin 8) (fun j=>ad j.val) (fun j=>fds j.val) ["work","move"] (fun j=>spDeed K CW cl j.val)):FnOk P w K mg base (CXs P w) 5 f fd ["binder","call"] (spBound K cl):=by
 refine F.okS scBound (fun vs H Q E h=>?_) (fun cdv A outer s H vs Q E hr h=>?_)
 ·obtain ⟨bt,ca,lm,n,us,ms,xs,ct,rfl,_⟩:=h
  rfl
 obtain ⟨bt,ca,lm,n,us,ms,xs,ct,rfl,hbt,hlm,hms,hmo,bn,hca,hct,bc,bp,bm,q1,q2⟩:=h
 have hr2:Room 2 _:=hr.mono (by decide)
 have hr3:Room 3 _:=hr.mono (by decide)
 have bz:(namesOf ct).length<=8:=by unfold namesOf; rw [List.length_map]; exact bp
 refine pss_go (ps_asg (pv 0) (pg_tup rfl (pgs_cons (pg_name (i:=2) scBound.nd rfl (Or.inl rfl)) (pgs_cons (pg_name (i:=3) scBound.nd rfl (Or.inl rfl)) pgs_nil)))) ?_
 refine ⟨_,rfl,bt,_,rfl,SqT.of hbt,rfl,_,_,rfl,_,_,rfl,rfl,?_⟩
 dsimp only [gName]
 refine pss_go (ps_asg (cF cSh hr2 (ac (pv 1) pa_nil)) (pg_tup rfl (pgs_cons (pg_name (i:=4) scBound.nd rfl (Or.inl rfl)) (pgs_cons (pg_name (i:=5) scBound.nd rfl (Or.inl rfl)) pgs_nil)))) ?_
 refine ⟨_,rfl,ca,ct,xs,rfl,hca,hct,by omega,by omega,fun p ln H1 s1 nln hp hln=>?_⟩
 refine ⟨p,_,rfl,SqT.of hp,rfl,_,_,rfl,_,_,rfl,rfl,?_⟩
 dsimp only [gName]
 refine pss_go (ps_expr (cS cR (passS fun _ _ _ z=>z) hr3 (ac (pv 5) pa_nil))) ?_
 refine ⟨_,rfl,ln,namesOf ct,rfl,hln,bz,fun nd H2 s2=>?_,fun j z hz hd nd dd H' s2 hdd=>?_⟩
 rotate_left
 ·exact q1 ("doubled",j) (.inl ⟨j,z,hz,hd,nd,rfl⟩) dd H' (s1.trans s2) hdd
 have s12:=s1.trans s2
 have hln2:=s2 _ _ hln
 refine pss_go (ps_set (i:=6) scBound.nd rfl (Or.inl rfl) (pe_make MW GW hr2 rfl mW bW .nil pass0 (ac (pv 2) (ac (pv 4) (ac (pv 5) pa_nil))))) ?_
 refine ⟨_,rfl,_,rfl,_,rfl,fun wk dx hwk hdx nex=>?_⟩
 have t1:=same_new hdx (.own wk)
 have t2:Same (upd H2 dx (.own wk)) (upd (upd H2 dx (.own wk)) wk (.ins CW dx [])):=same_new (by rw [upd_ne (Ne.symm nex)]; exact hwk) _
 have t12:=t1.trans t2
 have hwk0:H wk = none:=s12.free hwk
 have w3:upd (upd H2 dx (.own wk)) wk (.ins CW dx []) wk = some (.ins CW dx []):=upd_same
 generalize upd (upd H2 dx (.own wk)) wk (.ins CW dx []) = H3 at t12 w3 t2 |-
 have sA:=s12.trans t12
 refine ⟨wk,dx,ln,n,(laidT ct).length,namesOf ct,rfl,w3,t12 _ _ hln2,bn,bc,bz,fun H4 a x4 hw4 ea hle hlp hlu hld hlb zz nn=>⟨rfl,?_⟩⟩
 have nlw:ln ≠ wk:=ne_of (t12 _ _ hln2) w3 (by intro z; cases z)
 have o4:Same H H4:=fun b u e=>x4 _ _ (sA _ _ e) (ne_of_none e hwk0)
 have hln4:H4 ln = some (.lst ((namesOf ct).map V.str)):=x4 _ _ (t12 _ _ hln2) nlw
 obtain ⟨y1,y2,y3,y4,y5⟩:=zz
 obtain ⟨n1,n2,n3,n4⟩:=nn
 have W0:WI K CW H H4 wk (namesOf ct) 0 a ⟨[],[],[],List.replicate n none,[],List.range (namesOf ct).length,List.range (laidT ct).length⟩:=by
  refine ⟨o4,hw4,⟨_,hle,rep_paired n⟩,hlp,by rw [ea]; exact hln4,hlu,hld,hlb,⟨hwk0,sA.free y1,sA.free y2,sA.free y4,sA.free y5⟩,⟨n1,?_,?_,n2,n3,n4⟩,⟨fun z=>rfl,fun z _=>rfl,.inl ⟨rfl,rfl⟩,fun k v e=>by cases e⟩,⟨Nat.le_refl _,Nat.le_refl _,by rw [List.length_range]; exact bc,bz,by rw [List.length_replicate]; exact bn⟩,fun ys ey y hy=>.inl ?_⟩
  ·rw [ea]; exact ne_of_none (t12 _ _ hln2) y1
  ·rw [ea]; exact ne_of_none (t12 _ _ hln2) y2
  ·rw [hle] at ey
   cases ey
   exact List.eq_of_mem_replicate hy
 dsimp only [gName]
 clear t1 t2 t12 w3 x4 hw4 hle hlp hlu hld hlb hln4 hwk hdx
 refine pss_go (ps_for PassesOwn.leaving rfl (pi_list (pv 3)) (pg_name (i:=7) scBound.nd rfl (Or.inl rfl)) pss_all) ?_
 refine seq_via (fun σ' H'=>∃ (a:WA) (s:MS) (v7 v8:Option V),σ' = [some (.ref bt),some (.ref ca),some (.int (n:Nat)),some (.ref lm),some (.int ((laidT ct).length:Nat)),some (.ref ln),some (.ref wk),v7,v8]/\WI K CW H H' wk (namesOf ct) ms.length a s/\runZ n ms (laidT ct).length (namesOf ct) = .inr s.es/\s.es.length = n) ?_ (fun key=>?_)
 rotate_left
 ·refine ⟨_,rfl,lm,rfl,⟨_,SqL.of (o4 _ _ hlm)⟩,for_list (K:=K) (a:=lm) (xs:=us.map V.ref) (fun i σ H'=>∃ (a:WA) (s:MS) (v7 v8:Option V),σ = [some (.ref bt),some (.ref ca),some (.int (n:Nat)),some (.ref lm),some (.int ((laidT ct).length:Nat)),some (.ref ln),some (.ref wk),v7,v8]/\WI K CW H H' wk (namesOf ct) i a s/\runZ n ms (laidT ct).length (namesOf ct) = runM (ms.drop i) (namesOf ct) s.d s.es s.us s.l/\s.es.length = n) ⟨a,_,_,_,rfl,W0,rfl,List.length_replicate⟩ (fun i σ H' _ ⟨_,_,_,_,_,W,_⟩=>SqL.of (W.o _ _ hlm)) ?_ ?_⟩
  ·rintro i x σ H5 hx ⟨a,s,v7,v8,rfl,W,eR,lE⟩
   obtain ⟨um,hum,rfl⟩:=refs_at hx
   obtain ⟨m,hm,hmu⟩:=paired_at hms hum
   have hi:i < ms.length:=(List.getElem?_eq_some_iff.mp hm).1
   have ed:ms.drop i = m :: ms.drop (i + 1):=by
    rw [List.drop_eq_getElem_cons hi]
    congr 1
    exact (List.getElem?_eq_some_iff.mp hm).2
   rw [ed] at eR
   have hmT:SqT K H5 um (mvV m):=W.o.sqT hmu
   refine pss_go (ps_set (i:=8) scBound.nd rfl (Or.inl rfl) (pe_kget T mT (pe_ix ix_tup (pv 7) pe_int (fun _ _=>rfl)))) ?_
   refine ⟨_,rfl,um,_,0,.str (mvW m),rfl,rfl,hmT,mv_0 m,mvW m,.ref (ad (kindM m)),rfl,(by rw [wd_kind]; exact deedT_at ad _ (kind_lt m)),?_⟩
   dsimp only [gName]
   refine ⟨_,pss_one (ps_expr (pe_callV 8 D hr (passS fun _ _ _ z=>z) (ac (pv 6) (ac (pv 7) pa_nil)))),?_⟩
   refine ⟨⟨kindM m,kind_lt m⟩,rfl,_,rfl,_,rfl,wk,um,m,H,namesOf ct,i,a,s,rfl,hmT,rfl,(by rw [lE]; exact hmo m (List.mem_of_getElem? hm)),W,by omega,fun H' a' s' W' nx=>?_,fun r dd H' hb s' hd=>?_⟩
   ·exact ⟨a',s',_,_,rfl,W',by rw [eR]; exact nx.2 _,by rw [nx.1]; exact lE⟩
   ·exact q1 r (.inr ⟨nd,by rw [eR]; exact (hb _).symm⟩) dd H' s' hd
  ·rintro σ H5 ⟨a,s,v7,v8,rfl,W,eR,lE⟩
   rw [List.length_map,hms.length] at eR W
   rw [List.drop_length] at eR
   exact key _ _ ⟨a,s,v7,v8,rfl,W,eR,lE⟩
 rintro σ5 H5 ⟨a,s,v7,v8,rfl,W,eR,lE⟩
 refine ⟨_,pss_one (ps_ret (pe_fld (pv 6) rfl)),?_⟩
 obtain ⟨ys,y1,y2⟩:=W.e
 exact ⟨_,rfl,wk,CW,a.dx,_,_,rfl,W.w,C.cl,C.n1,wf_1,q2 s.es (.inr ⟨nd,eR.symm⟩) a.le H5 W.o W.z.2.1 ⟨ys,y1,Paired.imp' (fun _ _ z=>EnO.weak z fun b hb hm=>hb (by rw [List.mem_singleton.mp hm]; exact List.mem_cons_self)) y2⟩ W.fr lE⟩
end
end K52
namespace L2
open PySem PySem.Spec PyProof.Rows
theorem rc_TZ {X:Cx} {pins:List (Addr × Obj)} {σ : St} {H:Hp} {s:Shared} {A:Around} {a b:Addr} {xs ys:List V} (I:Inv X pins σ H s) (ha:SqT X.K H a xs) (hb:SqT X.K H b ys) (hz:∀ (j:Nat) x y,xs[j]? = some x->ys[j]? = some y->flatV x = true/\flatV y = true) (hu:A.units + 8 < cLine) :
  SeqAt.RcAt A s (.ref a) (.ref b) (eqT xs ys):=by
 obtain ⟨ia,va,pa,_⟩:=I.tuple ha
 obtain ⟨ib,vb,pb,_⟩:=I.tuple hb
 have la:ia.toArray.size = xs.length:=by rw [List.size_toArray]; exact va.length.symm
 have lb:ib.toArray.size = ys.length:=by rw [List.size_toArray]; exact vb.length.symm
 have:=SeqAt.RcAt.tuples (A:=A) (s:=s) (e:=fun j=>eqV (xs[j]?.getD .non) (ys[j]?.getD .non)) (show s.heap.IsTuple a ia.toArray from pa) (show s.heap.IsTuple b ib.toArray from pb) (by omega) (fun j h1 h2=>by
  have j1:j < ia.length:=by simpa using h1
  have j2:j < ib.length:=by simpa using h2
  have hxl:j < xs.length:=by rw [va.length]; exact j1
  have hyl:j < ys.length:=by rw [vb.length]; exact j2
  obtain ⟨u',e1,e2⟩:=va.get (i:=j) (List.getElem?_eq_getElem hxl)
  obtain ⟨v',e3,e4⟩:=vb.get (i:=j) (List.getElem?_eq_getElem hyl)
  rw [List.getElem?_eq_getElem j1] at e1
  rw [List.getElem?_eq_getElem j2] at e3
  cases e1; cases e3
  have z:=hz j _ _ (List.getElem?_eq_getElem hxl) (List.getElem?_eq_getElem hyl)
  have q:=eqAt_V (A:=A.in1) (s:=s) e2 e4 z.1 z.2
  simpa [hxl,hyl] using q)
 rw [la,lb] at this
 exact this
def rEqTZ (K:PySem.W.Frag):R2:=fun x y H Q=>∃ (a c:Addr) (xs ys:List V),x = .ref a/\y = .ref c/\SqT K H a xs/\SqT K H c ys/\(∀ (j:Nat) x y,xs[j]? = some x->ys[j]? = some y->flatV x = true/\flatV y = true)/\Q (.bl (eqT xs ys)) H
theorem op_eqTZ {X:Cx} (hu:X.A.units + 64 < cLine):OpR X (compareOp .Eq) (rEqTZ X.K):=by
 intro pins s σ H x y v u Q I rx ry h
 obtain ⟨a,c,xs,ys,rfl,rfl,ha,hc,hz,q⟩:=h
 cases rx; cases ry
 exact rc_TZ (A:=X.A) I ha hc hz (by omega) X.prog X.w X.xe _ ⟨.bl _,H,I,rfl,q⟩
end L2
namespace K52
open PySem L2 PyProof.Rows
def EOk:Option En->Prop
 | none=>True
 | some (.one wd _)=>wd = "place"\/wd = "name"
 | some (.many wd ns)=>(wd = "places"\/wd = "names")/\ns.length<=100
 | some .free=>True
def EB (es:List (Option En)):Prop:=∀ o ∈ es,EOk o
theorem EB.set {es:List (Option En)} (h:EB es) {q:Nat} {o:Option En} (ho:EOk o):EB (es.set q o):=fun x hx=>by
 rcases List.mem_or_eq_of_mem_set hx with hx | rfl
 ·exact h x hx
 ·exact ho
theorem EB_th {d:Doors} {q:Option Nat}:∀ (zs:List Str) (j:Nat) (es:List (Option En)) (us gs:List Nat),EB es->gs.length + zs.length<=100->EB (thF d q j zs es us gs).2.1
 | [],_,_,_,_,h,_=>h
 | z :: zs,j,es,us,gs,h,l=>by
  rw [List.length_cons] at l
  unfold thF
  split
  ·exact EB_th zs _ _ _ _ h (by omega)
  ·split
   ·exact h
   ·split
    ·split
     ·exact EB_th zs _ _ _ _ (h.set (.inr rfl)) (by omega)
     ·exact h
    ·split
     ·split
      ·exact EB_th zs _ _ _ _ (h.set ⟨.inr rfl,by rw [List.length_append,List.length_singleton]; omega⟩) (by rw [List.length_append,List.length_singleton]; omega)
      ·exact h
     ·exact h
theorem EB_all {d:Doors} {q:Option Nat} {zs:List Str} {es:List (Option En)} {us:List Nat} (h:EB es) (l:zs.length<=100):EB (thAll d q zs es us).2.1:=by
 have:=EB_th (d:=d) (q:=q) zs 0 es us [] h (by show 0 + zs.length<=100; omega)
 unfold thAll
 split
 next e=>
  rw [e] at this
  show EB (thEnd q _)
  unfold thEnd
  split
  ·split
   ·exact this.set ⟨.inr rfl,by show 0<=100; omega⟩
   ·exact this
  ·exact this
 next e=>rw [e] at this; exact this
theorem EB_st {m:Mv} {es:List (Option En)} {l:List Nat} (h:EB es) (hl:l.length<=100):EB (stF m es l).2.1:=by
 cases m with
 | take q=>
  show EB (if noE es q = true then _ else _:Option (Str × Nat) × List (Option En) × List Nat).2.1
  split
  ·cases l with
   | nil=>exact h
   | cons x xs=>exact h.set (.inl rfl)
  ·exact h
 | gather q=>
  show EB (if noE es q = true then _ else _:Option (Str × Nat) × List (Option En) × List Nat).2.1
  split
  ·exact h.set ⟨.inl rfl,hl⟩
  ·exact h
 | need q=>
  show EB (if noE es q = true then _ else _:Option (Str × Nat) × List (Option En) × List Nat).2.1
  split <;> exact h
 | free q=>
  show EB (if noE es q = true then _ else _:Option (Str × Nat) × List (Option En) × List Nat).2.1
  split
  ·exact h.set True.intro
  ·exact h
 | fin=>cases l <;> exact h
 | door z q=>exact h
 | bar z=>exact h
 | names o=>exact h
theorem EB_run {zs:List Str} (bz:zs.length<=100):∀ (ms:List Mv) (d:Doors) (es:List (Option En)) (us l:List Nat),EB es->l.length<=100->∀ es',runM ms zs d es us l = .inr es'->EB es'
 | [],_,_,_,_,h,_,_,e=>by cases e; exact h
 | m :: ms,d,es,us,l,h,hl,es',e=>by
  by_cases hst:isStep m
  ·rw [run_step hst] at e
   have k1:=EB_st (m:=m) h hl
   have k2:=(stF_len (m:=m) (es:=es) (l:=l)).2
   generalize stF m es l = T at e k1 k2
   obtain ⟨ro,es2,l2⟩:=T
   cases ro with
   | some r=>cases e
   | none=>exact EB_run bz ms d es2 us l2 k1 (Nat.le_trans k2 hl) es' e
  ·cases m with
   | door z q=>
    have e:(if dShut d z = true then runM ms zs d es us l else runM ms zs (putK d (.inr z) (.int (q:Nat))) es us l) = .inr es':=e
    split at e
    ·exact EB_run bz ms _ _ _ _ h hl es' e
    ·exact EB_run bz ms _ _ _ _ h hl es' e
   | bar z=>exact EB_run bz ms _ _ _ _ h hl es' e
   | names o=>
    have e:(match thAll d o zs es us with | (some r,_,_)=>Sum.inl r | (none,es',us')=>runM ms zs d es' us' l) = .inr es':=e
    have k1:=EB_all (d:=d) (q:=o) (us:=us) h bz
    generalize thAll d o zs es us = T at e k1
    obtain ⟨ro,es2,us2⟩:=T
    cases ro with
    | some r=>cases e
    | none=>exact EB_run bz ms d es2 us2 l k1 hl es' e
   | take q=>exact absurd True.intro hst
   | gather q=>exact absurd True.intro hst
   | fin=>exact absurd True.intro hst
   | need q=>exact absurd True.intro hst
   | free q=>exact absurd True.intro hst
theorem EB_z {n c:Nat} {ms:List Mv} {zs:List Str} {es:List (Option En)} (bz:zs.length<=100) (bc:c<=100) (e:runZ n ms c zs = .inr es):EB es:=
 EB_run bz ms [] _ [] _ (fun o ho=>by rw [List.eq_of_mem_replicate ho]; exact True.intro) (by rw [List.length_range]; exact bc) es e
def spIsIntP:Sp:=fun vs H Q _=>∃ i:Int,vs = [.int i]/\Q (.bl true) H
def spPlain (K:PySem.W.Frag):Sp:=fun vs H Q _=>∃ (x:V) (o:Option En) (ok:Addr->Prop),vs = [x]/\EnO K ok H x o/\EOk o/\∀ H',Same H H'->Q (.bl true) H'
section
variable {P:Program} {w:World} {K:PySem.W.Frag} {mg:Str->Option Value} {base:Heap} {f CW g MI CE:Addr} {fd gd:FuncData} {cl oc:Nat->Addr}
theorem ok_isInt (F:Fun K "_law_is_int" "_law_is_int" sIsInt f fd) (T:Txt2 K mg):FnOk P w K mg base CX0 1 f fd ["_law_found"] spIsIntP:=by
 refine F.ok scIsInt (fun vs H Q E h=>?_) (fun cdv A outer s H vs Q E hr h=>?_)
 ·obtain ⟨i,rfl,_⟩:=h
  rfl
 obtain ⟨i,rfl,q⟩:=h
 refine ⟨_,pss_one (ps_ret (pe_and (pe_not (cB call_isinst T.isi boot_isinstance (ac (pv 0) (ac (pe_bltn (v:=.ty "bool") rfl T.bool PyProof.Rows.boot_bool rfl) pa_nil)))) (pe_one (cB call_isinst T.isi boot_isinstance (ac (pv 0) (ac (pe_bltn (v:=.ty "int") rfl T.int PyProof.Rows.boot_int rfl) pa_nil)))))),?_⟩
 refine ⟨_,rfl,_,_,_,_,rfl,.int i,kt_int_bool K,_,rfl,_,rfl,?_⟩
 refine iteT ?_
 exact ⟨_,rfl,_,_,_,_,rfl,.int i,kt_int_int K,q⟩
theorem flat1 {a b:Str} {r:List V} (j:Nat) (x y:V) (hx:(V.str a :: r)[j]? = some x) (hy:[V.str b][j]? = some y):flatV x = true/\flatV y = true:=by
 cases j with
 | zero=>cases hx; cases hy; exact ⟨rfl,rfl⟩
 | succ j=>cases hy
theorem eqT2 {a b:Str} {v:V}:L2.eqT [.str a,v] [.str b] = false:=by
 unfold L2.eqT
 rw [Bool.and_eq_false_iff]
 exact .inr rfl
theorem ndOne:([Str.ofString "_law_one"]:List Str).Nodup:=by decide +kernel
theorem scPlain:FnScope ["_law_entry"] ["_law_entry"] (defScope sPlain):=⟨rfl,rfl,rfl,by decide +kernel,rfl,by decide +kernel,by decide +kernel⟩
theorem ok_plain {g1:Addr} {d1:FuncData} (F:Fun K "_law_plain" "_law_plain" sPlain f fd) (U:TxtL mg) (T:Txt2 K mg) (cI:Callee P w K mg base 1 "_law_is_int" g1 d1 ["_law_found"] spIsIntP):FnOk P w K mg base CX0 2 f fd ["_law_entry"] (spPlain K):=by
 refine F.ok scPlain (fun vs H Q E h=>?_) (fun cdv A outer s H vs Q E hr h=>?_)
 ·obtain ⟨x,o,ok,rfl,_⟩:=h
  rfl
 obtain ⟨x,o,ok,rfl,hE,hO,q⟩:=h
 have hU:=hr.units
 have hU0:=hr.units0
 refine ⟨_,pss_cons (ps_if (PW.pt (pw_or (pt_cmp (pc_isN (pv 0))) (pw_or1 (pt_cmpR (op_eqTZ hU) (pv 0) (pe_tup (ac pe_str pa_nil)) (nomark _))))) (pss_one (ps_ret pe_bl)) pss_nil)
  (pss_cons (ps_if (PW.pt (pw_or (pt_not (pt_val (cB call_isinstT T.isi boot_isinstance (ac (pv 0) (ac (pe_bltn (v:=.ty "tuple") rfl T.tuple PyProof.Rows.boot_tuple rfl) pa_nil))))) (pw_or1 (pt_cmpR op_ne (cB call_len_seq U.len PySem.boot_len (ac (pv 0) pa_nil)) pe_int (nomark _))))) (pss_one ps_dead) pss_nil)
  (pss_cons (ps_if (pt_cmpR op_in_seq (pe_ix ix_tup (pv 0) pe_int (fun _ _=>rfl)) (pe_lst (ac pe_str (ac pe_str pa_nil))) (by with_unfolding_all rfl)) (pss_one (ps_ret (cF cI hr (ac (pe_ix ix_tup (pv 0) pe_int (fun _ _=>rfl)) pa_nil)))) pss_nil)
  (pss_one (ps_ret (pe_and (cB call_isinst T.isi boot_isinstance (ac (pe_ix ix_tup (pv 0) pe_int (fun _ _=>rfl)) (ac (pe_bltn (v:=.ty "list") rfl U.list PyProof.Rows.boot_list rfl) pa_nil))) (pe_one (pe_cmpR (op_eqS hU) (pe_lc [] ["_law_one"] [none] rfl ⟨rfl,rfl,rfl,rfl⟩ (pi_list (pe_ix ix_tup (pv 0) pe_int (fun _ _=>rfl))) (gown_name 0) rfl rfl rfl (fun pins fp s H C=>⟨pg_name (i:=0) ndOne rfl (Or.inl rfl) (.inr rfl),pif_one (pt_not (pt_val (cF cI hr (ac (pv 0) pa_nil)))),pv 0⟩)) (pe_lst pa_nil) (nomark _)))))))),?_⟩
 cases o with
 | none=>
  cases hE
  refine ⟨_,rfl,_,rfl,?_⟩
  refine iteT ?_
  exact q _ (Same.refl _)
 | some e=>
  cases e with
  | free=>
   obtain ⟨u,rfl,hu⟩:=hE
   refine ⟨_,rfl,_,rfl,?_⟩
   refine iteF ?_
   refine ⟨_,rfl,(by show 1<=sizeLine; decide),fun t ht=>?_⟩
   have s1:=same_new ht (.tup [.str "free"])
   refine ⟨u,t,_,_,rfl,rfl,s1.sqT hu,SqT.of upd_same,flat1,_,rfl,?_⟩
   refine iteT ?_
   exact q _ s1
  | one wd n=>
   obtain ⟨u,rfl,hu⟩:=hE
   refine ⟨_,rfl,_,rfl,?_⟩
   refine iteF ?_
   refine ⟨_,rfl,(by show 1<=sizeLine; decide),fun t ht=>?_⟩
   have s1:=same_new ht (.tup [.str "free"])
   refine ⟨u,t,_,_,rfl,rfl,s1.sqT hu,SqT.of upd_same,flat1,_,rfl,?_⟩
   rw [eqT2]
   refine iteF ?_
   have hu:=s1.sqT hu
   generalize upd H t (.tup [.str "free"]) = H1 at s1 hu |-
   refine ⟨_,rfl,u,_,_,_,rfl,hu,kt_tuple_tuple K,_,rfl,?_⟩
   refine iteF ?_
   refine ⟨_,rfl,u,_,rfl,.inr hu,rfl,_,rfl,?_⟩
   refine iteC rfl ?_
   refine ⟨_,rfl,u,_,0,.str wd,rfl,rfl,hu,rfl,(by show 2<=sizeLine; decide),fun l hl=>?_⟩
   have s2:=same_new hl (.lst [.str "place",.str "name"])
   have g2:upd H1 l (.lst [.str "place",.str "name"]) l = some (.lst ((["place","name"]:List Str).map V.str)):=upd_same
   have hu:=s2.sqT hu
   have s12:=s1.trans s2
   generalize upd H1 l (.lst [.str "place",.str "name"]) = H2 at s2 g2 hu s12 |-
   refine ⟨l,_,rfl,.inl (SqL.of g2),rfl,flatStrs,_,rfl,?_⟩
   rw [if_neg Bool.false_ne_true,inStrs]
   refine dT (by rcases hO with rfl | rfl <;> decide +kernel) ?_
   exact ⟨_,rfl,u,_,1,.int (n:Nat),rfl,rfl,hu,rfl,_,rfl,q _ s12⟩
  | many wd ns=>
   obtain ⟨u,la,rfl,hu,_,hla⟩:=hE
   refine ⟨_,rfl,_,rfl,?_⟩
   refine iteF ?_
   refine ⟨_,rfl,(by show 1<=sizeLine; decide),fun t ht=>?_⟩
   have s1:=same_new ht (.tup [.str "free"])
   refine ⟨u,t,_,_,rfl,rfl,s1.sqT hu,SqT.of upd_same,flat1,_,rfl,?_⟩
   rw [eqT2]
   refine iteF ?_
   have hu:=s1.sqT hu
   have hla:=s1 _ _ hla
   generalize upd H t (.tup [.str "free"]) = H1 at s1 hu hla |-
   refine ⟨_,rfl,u,_,_,_,rfl,hu,kt_tuple_tuple K,_,rfl,?_⟩
   refine iteF ?_
   refine ⟨_,rfl,u,_,rfl,.inr hu,rfl,_,rfl,?_⟩
   refine iteC rfl ?_
   refine ⟨_,rfl,u,_,0,.str wd,rfl,rfl,hu,rfl,(by show 2<=sizeLine; decide),fun l hl=>?_⟩
   have s2:=same_new hl (.lst [.str "place",.str "name"])
   have g2:upd H1 l (.lst [.str "place",.str "name"]) l = some (.lst ((["place","name"]:List Str).map V.str)):=upd_same
   have hu:=s2.sqT hu
   have s12:=s1.trans s2
   have hla:=s2 _ _ hla
   generalize upd H1 l (.lst [.str "place",.str "name"]) = H2 at s2 g2 hu s12 hla |-
   refine ⟨l,_,rfl,.inl (SqL.of g2),rfl,flatStrs,_,rfl,?_⟩
   rw [if_neg Bool.false_ne_true,inStrs]
   refine dF (by rcases hO.1 with rfl | rfl <;> decide +kernel) ?_
   refine ⟨_,rfl,u,_,1,.ref la,rfl,rfl,hu,rfl,_,_,_,_,rfl,.lst hla,kt_list_list K,_,rfl,?_⟩
   refine iteT ?_
   refine ⟨_,rfl,u,_,1,.ref la,rfl,rfl,hu,rfl,la,rfl,⟨_,SqL.of hla⟩,fun D hD=>?_⟩
   refine lc_sel (K:=K) (xs:=(natI ns).map V.int) ns (fun _=>false) (fun _=>.non) hD (SqL.of hla) (by rw [List.length_map,natI_len]) (by rw [List.length_map,natI_len]; have:=hO.2; omega) (fun j x y H' Nn S hx hy sH nn1 ss1=>?_) (fun H3 s3 hD3=>?_)
   ·obtain ⟨k,hk,rfl⟩:=natI_at hx
    refine ⟨_,rfl,_,rfl,_,rfl,?_⟩
    exact ⟨fun e=>Bool.noConfusion e,fun _=>ss1 _ (Same.refl _) rfl⟩
   ·refine ⟨(by show 0<=sizeLine; decide),fun l0 hl0=>?_⟩
    have s4:=same_new hl0 (.lst [])
    rw [List.filter_eq_nil_iff.mpr (fun _ _=>Bool.false_ne_true)] at hD3
    exact ⟨D,l0,0,.lst [],fun _=>True,fun _=>True,rfl,rfl,by decide,Says.lst True.intro (s4 _ _ hD3) .nil,Says.lst True.intro upd_same .nil,q _ (s12.trans (s3.trans s4))⟩
end
theorem th_wd {d:Doors} {q:Option Nat}:∀ (zs:List Str) (j:Nat) (es:List (Option En)) (us gs:List Nat) (r:Str × Nat),(thF d q j zs es us gs).1 = some r->WdOk r.1
 | [],_,_,_,_,r,h=>by cases h
 | z :: zs,j,es,us,gs,r,h=>by
  unfold thF at h
  split at h
  ·exact th_wd zs _ _ _ _ r h
  ·split at h
   ·cases h; exact wd2
   ·split at h
    ·split at h
     ·exact th_wd zs _ _ _ _ r h
     ·cases h; exact wd3
    ·split at h
     ·split at h
      ·exact th_wd zs _ _ _ _ r h
      ·cases h; exact wd4
     ·cases h; exact wd4
theorem all_wd {d:Doors} {q:Option Nat} {zs:List Str} {es:List (Option En)} {us:List Nat} {r:Str × Nat} (h:(thAll d q zs es us).1 = some r):WdOk r.1:=by
 unfold thAll at h
 split at h
 ·cases h
 ·rename_i e
  cases h
  exact th_wd zs 0 es us [] r (by rw [e])
theorem st_wd {m:Mv} {es:List (Option En)} {l:List Nat} {r:Str × Nat} (h:(stF m es l).1 = some r):WdOk r.1:=by
 cases m with
 | fin=>cases l with | nil=>cases h | cons y ys=>cases h; exact wd1
 | need q=>
  have h:(if noE es q = true then (some (("lacking" : Str),q),es,l) else (none,es,l):Option (Str × Nat) × List (Option En) × List Nat).1 = some r:=h
  split at h
  ·cases h; exact wd5
  ·cases h
 | take q=>
  by_cases hn:noE es q = true
  ·cases l with
   | nil=>
    have e:stF (.take q) es [] = (none,es,[]):=if_pos hn
    rw [e] at h; cases h
   | cons x xs=>
    have e:stF (.take q) es (x :: xs) = (none,es.set q (some (.one "place" x)),xs):=if_pos hn
    rw [e] at h; cases h
  ·have e:stF (.take q) es l = (none,es,l):=if_neg hn
   rw [e] at h; cases h
 | gather q=>
  have h:(if noE es q = true then (none,es.set q (some (.many "places" l)),[]) else (none,es,l):Option (Str × Nat) × List (Option En) × List Nat).1 = some r:=h
  split at h <;> cases h
 | free q=>
  have h:(if noE es q = true then (none,es.set q (some .free),l) else (none,es,l):Option (Str × Nat) × List (Option En) × List Nat).1 = some r:=h
  split at h <;> cases h
 | door z q=>cases h
 | bar z=>cases h
 | names o=>cases h
theorem run_wd {zs:List Str}:∀ (ms:List Mv) (d:Doors) (es:List (Option En)) (us l:List Nat) (r:Str × Nat),runM ms zs d es us l = .inl r->WdOk r.1
 | [],_,_,_,_,_,e=>by cases e
 | m :: ms,d,es,us,l,r,e=>by
  by_cases hst:isStep m
  ·rw [run_step hst] at e
   have k1:∀ r,(stF m es l).1 = some r->WdOk r.1:=fun r h=>st_wd h
   generalize stF m es l = T at e k1
   obtain ⟨ro,es2,l2⟩:=T
   cases ro with
   | some r'=>cases e; exact k1 _ rfl
   | none=>exact run_wd ms d es2 us l2 r e
  ·cases m with
   | door z q=>
    have e:(if dShut d z = true then runM ms zs d es us l else runM ms zs (putK d (.inr z) (.int (q:Nat))) es us l) = .inl r:=e
    split at e
    ·exact run_wd ms _ _ _ _ r e
    ·exact run_wd ms _ _ _ _ r e
   | bar z=>exact run_wd ms _ _ _ _ r e
   | names o=>
    have e:(match thAll d o zs es us with | (some r,_,_)=>Sum.inl r | (none,es',us')=>runM ms zs d es' us' l) = .inl r:=e
    have k1:∀ r,(thAll d o zs es us).1 = some r->WdOk r.1:=fun r h=>all_wd h
    generalize thAll d o zs es us = T at e k1
    obtain ⟨ro,es2,us2⟩:=T
    cases ro with
    | some r'=>cases e; exact k1 _ rfl
    | none=>exact run_wd ms d es2 us2 l r e
   | take q=>exact absurd True.intro hst
   | gather q=>exact absurd True.intro hst
   | fin=>exact absurd True.intro hst
   | need q=>exact absurd True.intro hst
   | free q=>exact absurd True.intro hst
theorem end_wd {zs:List Str} {n:Nat} {ms:List Mv} {c:Nat} {r:Str × Nat} (h:bEnd zs n ms c (.inl r)):WdOk r.1:=by
 rcases h with ⟨j,z,_,_,_,e⟩ | ⟨_,e⟩
 ·cases e; exact wd0
 ·exact run_wd ms _ _ _ _ r e.symm
def SaidAt (K:PySem.W.Frag) (H H':Hp) (t:Addr) (n:Nat):Sum (Str × Nat) (List (Option En))->Prop
 | .inl r=>∃ l u,H' t = some (.tup [.str "refused",.ref l])/\H' l = some (.lst [.ref u])/\H' u = some (.tup [.str r.1,.int (r.2:Nat)])
 | .inr es=>∃ le,H' t = some (.tup [.str "told",.ref le])/\H le = none/\EsAt K [le] H' le es/\FrE K H H' le/\es.length = n
def spSaid (K:PySem.W.Frag):Sp:=fun vs H Q _=>∃ (bt ca lm:Addr) (n:Nat) (us:List Addr) (ms:List Mv) (xs:List V) (ct:List Item),vs = [.ref bt,.ref ca]/\H bt = some (.tup [.int (n:Nat),.ref lm])/\H lm = some (.lst (us.map V.ref))/\Paired (MvAt K H) us ms/\(∀ m ∈ ms,MvOk n m)/\n<=100/\SqL K H ca xs/\Paired (Says K T' H 3) xs (ct.map itemD)/\(laidT ct).length<=100/\(laidP ct).length<=8/\ms.length<=800/\
 ∀ r (t:Addr) (H':Hp),bEnd (namesOf ct) n ms (laidT ct).length r->Same H H'->SaidAt K H H' t n r->Q (.ref t) H'
section
variable {P:Program} {w:World} {K:PySem.W.Frag} {mg:Str->Option Value} {base:Heap} {f CW g MI CE:Addr} {fd gd:FuncData} {cl oc:Nat->Addr}
theorem scSaid:FnScope ["_law_made","_law_call","_law_found","_law_e"] ["_law_made","_law_call"] (defScope sSaid):=⟨rfl,rfl,rfl,by decide +kernel,rfl,by decide +kernel,by decide +kernel⟩
theorem ok_said {g1 g2:Addr} {d1 d2:FuncData} (F:Fun K "_law_said" "_law_said" sSaid f fd) (U:TxtW mg cl oc MI CE) (so:∀ i,i < 6->SortW K cl oc MI CE i) (cB:CalleeS P w K mg base 5 "bound" g1 d1 ["binder","call"] (spBound K cl)) (cW:CalleeH P w K mg base 2 "_law_words" g2 d2 ["_law_e"] (spWords K cl oc MI CE)):FnOk P w K mg base CX0 6 f fd ["_law_made","_law_call"] (spSaid K):=by
 refine F.ok scSaid (fun vs H Q E h=>?_) (fun cdv A outer s H vs Q E hr h=>?_)
 ·obtain ⟨bt,ca,lm,n,us,ms,xs,ct,rfl,_⟩:=h
  rfl
 obtain ⟨bt,ca,lm,n,us,ms,xs,ct,rfl,hbt,hlm,hms,hmo,bn,hca,hct,bc,bp,bm,q⟩:=h
 have hr2:Room 2 _:=hr.mono (by decide)
 refine ⟨_,pss_cons (ps_set (i:=2) scSaid.nd rfl (Or.inl rfl) pe_non)
  (pss_cons (ps_tryS rfl rfl
    (ph_asA (i:=3) scSaid.nd rfl rfl rfl U.ce (fun ea=>pss_one (ps_set (i:=2) scSaid.nd rfl (Or.inl rfl) (pe_tup (ac pe_str (ac (cH (ea:=ea) cW rfl (hr2.m.mark _) (ac (pv 3) pa_nil)) pa_nil))))) ph_nil)
   (fun pins σ xe E hp=>s1_set (i:=2) scSaid.nd rfl (Or.inl rfl) (p1_tup (a1_cons pe_str.one (a1_cons (p2_call cB hp hr (ac (pv 0) (ac (pv 1) pa_nil))) pa_nil.one)))))
  (pss_one (ps_ret (pv 2)))),?_⟩
 refine ⟨_,rfl,_,rfl,bt,ca,lm,n,us,ms,xs,ct,rfl,hbt,hlm,hms,hmo,bn,hca,hct,bc,bp,bm,fun r hb d H1 s1 hd=>?_,fun es hb le H1 s1 nle hE hF lE=>?_⟩
 ·have hi:=misI_lt r.1
  refine ⟨cl (misI r.1),rfl,fun tt ea hea=>.inl ⟨(so _ hi).ce,?_⟩⟩
  have s2:=same_new hea (excC ea (cl (misI r.1)) (some d) tt)
  have e2:upd H1 ea (excC ea (cl (misI r.1)) (some d) tt) ea = some (excC ea (cl (misI r.1)) (some d) tt):=upd_same
  have hd2:=s2 _ _ hd
  generalize upd H1 ea (excC ea (cl (misI r.1)) (some d) tt) = H2 at s2 e2 hd2 |-
  refine ⟨_,rfl,misI r.1,r.2,d,tt,rfl,hi,so _ hi,e2,hd2,fun l u H3 s3 hl hu=>?_⟩
  refine ⟨(by show 2<=sizeLine; decide),fun t ht=>?_⟩
  have s4:=same_new ht (.tup [.str "refused",.ref l])
  rw [show wordS (misI r.1) = r.1 from end_wd hb] at hu
  exact ⟨_,rfl,q (.inl r) t _ hb (s1.trans (s2.trans (s3.trans s4))) ⟨l,u,upd_same,s4 _ _ hl,s4 _ _ hu⟩⟩
 ·refine ⟨(by show 2<=sizeLine; decide),fun t ht=>?_⟩
  have s2:=same_new ht (.tup [.str "told",.ref le])
  obtain ⟨ys,y1,_⟩:=id hE
  exact ⟨_,rfl,q (.inr es) t _ hb (s1.trans s2) ⟨le,upd_same,nle,hE.same s2,hF.same y1 s2,lE⟩⟩
def spMove (K:PySem.W.Frag):Sp:=fun vs H Q _=>∃ (c:Int) (n:Nat) (pa:Addr) (pool:List Str),vs = [.int c,.int (n:Nat),.ref pa]/\H pa = some (.lst (pool.map V.str))/\pool.length = 26/\∀ (u:Addr) (m:Mv) (H':Hp),Same H H'->MvOk n m->MvAt K H' u m->Q (.ref u) H'
def kinds:List Str:=["take","names","door","gather","need","bar","take","end","door","free","names","take"]
theorem scMove:FnScope ["_law_cell_here","_law_many","_law_names","_law_kind","_law_name"] ["_law_cell_here","_law_many","_law_names"] (defScope sMove):=⟨rfl,rfl,rfl,by decide +kernel,rfl,by decide +kernel,by decide +kernel⟩
theorem ok_move (F:Fun K "_law_move" "_law_move" sMove f fd):FnOk P w K mg base CX0 1 f fd ["_law_cell_here","_law_many","_law_names"] (spMove K):=by
 refine F.ok scMove (fun vs H Q E h=>?_) (fun cdv A outer s H vs Q E hr h=>?_)
 ·obtain ⟨c,n,pa,pool,rfl,_⟩:=h
  rfl
 obtain ⟨c,n,pa,pool,rfl,hpa,lp,q⟩:=h
 refine pss_go (ps_set (i:=3) scMove.nd rfl (Or.inl rfl) (pe_ix ix_list (pe_lst (ac pe_str (ac pe_str (ac pe_str (ac pe_str (ac pe_str (ac pe_str (ac pe_str (ac pe_str (ac pe_str (ac pe_str (ac pe_str (ac pe_str pa_nil))))))))))))) (pe_op op_mod (pv 0) pe_int) (fun _ _=>rfl))) ?_
 refine ⟨(by show 12<=sizeLine; decide),fun lk hlk=>?_⟩
 have s1:=same_new hlk (.lst [.str "take",.str "names",.str "door",.str "gather",.str "need",.str "bar",.str "take",.str "end",.str "door",.str "free",.str "names",.str "take"])
 have g1:upd H lk (.lst [.str "take",.str "names",.str "door",.str "gather",.str "need",.str "bar",.str "take",.str "end",.str "door",.str "free",.str "names",.str "take"]) lk = some (.lst (kinds.map V.str)):=upd_same
 have k0 : 0<=c % 12:=Int.emod_nonneg _ (by decide)
 have k1:c % 12 < 12:=Int.emod_lt_of_pos _ (by decide)
 obtain ⟨i,hi⟩:=Int.eq_ofNat_of_zero_le k0
 have i12:i < 12:=by omega
 have hk:kinds[i]? = some (kinds.getD i ""):=by
  have:∀ i,i < 12->kinds[i]? = some (kinds.getD i ""):=by decide +kernel
  exact this i i12
 refine ⟨_,rfl,_,_,rfl,rfl,(by show (0:Int) < 12; decide),lk,_,_,.str (kinds.getD i ""),rfl,rfl,SqL.of g1,(by rw [hi]; exact atI_nat (by rw [List.getElem?_map,hk]; rfl)),?_⟩
 have hw:∀ i,i < 12->kinds.getD i "" = "take"\/kinds.getD i "" = "names"\/kinds.getD i "" = "door"\/kinds.getD i "" = "gather"\/kinds.getD i "" = "need"\/kinds.getD i "" = "bar"\/kinds.getD i "" = "end"\/kinds.getD i "" = "free":=by decide +kernel
 have hw:=hw i i12
 have hpa:=s1 _ _ hpa
 dsimp only [gName]
 generalize upd H lk (.lst [.str "take",.str "names",.str "door",.str "gather",.str "need",.str "bar",.str "take",.str "end",.str "door",.str "free",.str "names",.str "take"]) = H1 at s1 g1 hpa |-
 generalize kinds.getD i "" = wd at hw |-
 refine pss_go (ps_set (i:=4) scMove.nd rfl (Or.inl rfl) (pe_ix ix_list (pv 2) (pe_op op_mod (pe_op op_fdiv (pv 0) pe_int) pe_int) (fun _ _=>rfl))) ?_
 have j0 : 0<=c / 12 % 6:=Int.emod_nonneg _ (by decide)
 have j1:c / 12 % 6 < 6:=Int.emod_lt_of_pos _ (by decide)
 obtain ⟨j,hj⟩:=Int.eq_ofNat_of_zero_le j0
 obtain ⟨z,hz⟩:∃ z,pool[j]? = some z:=⟨_,List.getElem?_eq_getElem (by omega)⟩
 refine ⟨_,rfl,_,rfl,_,_,rfl,rfl,⟨by decide,by decide⟩,_,_,rfl,rfl,(by show (0:Int) < 6; decide),pa,_,_,.str z,rfl,rfl,SqL.of hpa,(by rw [hj]; exact atI_nat (by rw [List.getElem?_map,hz]; rfl)),?_⟩
 dsimp only [gName]
 refine pss_go (ps_if (PW.pt (pw_or (pt_cmpR op_eq (pv 3) pe_str (nomark _)) (pw_or1 (PW.pt (pw_and (pt_cmpR op_eq (pv 3) pe_str (nomark _)) (pw_and1 (pt_cmpR op_eq (pe_op op_mod (pe_op op_fdiv (pv 0) pe_int) pe_int) pe_int (nomark _)))))))) (pss_one (ps_ret (pe_tup (ac (pv 3) pa_nil)))) pss_nil) ?_
 refine ⟨_,rfl,rfl,_,rfl,?_⟩
 by_cases c1:wd = "end"
 ·subst c1
  refine dT rfl ?_
  refine iteT ?_
  refine ⟨_,rfl,(by show 1<=sizeLine; decide),fun u hu=>?_⟩
  exact q u .fin _ (s1.trans (same_new hu _)) True.intro (SqT.of upd_same)
 refine dF (fun e=>c1 (V.str.inj e)) ?_
 have rest:¬ wd = "end"->True:=fun _=>trivial
 clear rest
 have key:uAll (cxOf CX0 P w K mg base ["_law_cell_here","_law_many","_law_names","_law_kind","_law_name"] "_law_move" (defScope sMove) f cdv A outer s H E).nox (((defBody sMove).drop 3)) { nx:=fun _ H'=>Q .non H',rt:=Q } [some (.int c),some (.int (n:Nat)),some (.ref pa),some (.str wd),some (.str z)] H1:=by
  show uAll _ [_,_,_,_] _ _ _
  refine pss_go (ps_if (pt_cmpR op_eq (pv 3) pe_str (nomark _)) (pss_one (ps_ret (pe_tup (ac (pv 3) (ac (pv 4) pa_nil))))) pss_nil) ?_
  refine ⟨_,rfl,rfl,_,rfl,?_⟩
  by_cases c2:wd = "bar"
  ·subst c2
   refine dT rfl ?_
   refine ⟨_,rfl,_,rfl,(by show 2<=sizeLine; decide),fun u hu=>?_⟩
   exact q u (.bar z) _ (s1.trans (same_new hu _)) True.intro (SqT.of upd_same)
  refine dF (fun e=>c2 (V.str.inj e)) ?_
  refine pss_go (ps_if (pt_cmpR op_eq (pv 1) pe_int (nomark _)) (pss_one (ps_ret (pe_tup (ac pe_str pa_nil)))) pss_nil) ?_
  refine ⟨_,rfl,rfl,_,rfl,?_⟩
  by_cases c3:n = 0
  ·subst c3
   refine dT rfl ?_
   refine ⟨(by show 1<=sizeLine; decide),fun u hu=>?_⟩
   exact q u (.names none) _ (s1.trans (same_new hu _)) True.intro (SqT.of upd_same)
  have np:(0:Int) < (n:Nat):=by omega
  refine dF (fun e=>c3 (by have:=V.int.inj e; omega)) ?_
  have m0 : 0<=c / 72 % (n:Nat):=Int.emod_nonneg _ (by omega)
  have m1:c / 72 % (n:Nat) < (n:Nat):=Int.emod_lt_of_pos _ np
  obtain ⟨m,hm⟩:=Int.eq_ofNat_of_zero_le m0
  have mn:m < n:=by omega
  refine pss_go (ps_if (pt_cmpR op_eq (pv 3) pe_str (nomark _)) (pss_one (ps_ret (pe_tup (ac (pv 3) (ac (pv 4) (ac (pe_op op_mod (pe_op op_fdiv (pv 0) pe_int) (pv 1)) pa_nil)))))) pss_nil) ?_
  refine ⟨_,rfl,rfl,_,rfl,?_⟩
  by_cases c4:wd = "door"
  ·subst c4
   refine dT rfl ?_
   refine ⟨_,rfl,_,rfl,_,rfl,_,_,rfl,rfl,⟨by decide,by decide⟩,_,rfl,_,_,rfl,rfl,np,(by show 3<=sizeLine; decide),fun u hu=>?_⟩
   rw [hm]
   exact q u (.door z m) _ (s1.trans (same_new hu _)) mn (SqT.of upd_same)
  refine dF (fun e=>c4 (V.str.inj e)) ?_
  refine ⟨_,pss_one (ps_ret (pe_tup (ac (pv 3) (ac (pe_op op_mod (pe_op op_fdiv (pv 0) pe_int) (pv 1)) pa_nil)))),?_⟩
  refine ⟨_,rfl,_,rfl,_,_,rfl,rfl,⟨by decide,by decide⟩,_,rfl,_,_,rfl,rfl,np,(by show 2<=sizeLine; decide),fun u hu=>?_⟩
  rw [hm]
  have s2:=s1.trans (same_new hu (.tup [.str wd,.int (m:Nat)]))
  rcases hw with rfl | rfl | e | rfl | rfl | e | e | rfl
  ·exact q u (.take m) _ s2 mn (SqT.of upd_same)
  ·exact q u (.names (some m)) _ s2 mn (SqT.of upd_same)
  ·exact absurd e c4
  ·exact q u (.gather m) _ s2 mn (SqT.of upd_same)
  ·exact q u (.need m) _ s2 mn (SqT.of upd_same)
  ·exact absurd e c2
  ·exact absurd e c1
  ·exact q u (.free m) _ s2 mn (SqT.of upd_same)
 refine ⟨_,rfl,rfl,_,rfl,?_⟩
 by_cases c5:wd = "names"
 ·refine dT (congrArg V.str c5) ?_
  refine ⟨_,rfl,_,_,rfl,rfl,⟨by decide,by decide⟩,_,_,rfl,rfl,(by show (0:Int) < 2; decide),rfl,_,rfl,?_⟩
  by_cases c6:c / 12 % 2 = 0
  ·refine dT (congrArg V.int c6) ?_
   refine ⟨_,rfl,(by show 1<=sizeLine; decide),fun u hu=>?_⟩
   subst c5
   exact q u (.names none) _ (s1.trans (same_new hu _)) True.intro (SqT.of upd_same)
  ·refine dF (fun e=>c6 (V.int.inj e)) ?_
   exact key
 ·refine dF (fun e=>c5 (V.str.inj e)) ?_
  refine iteF ?_
  exact key
end
theorem bEnd_one {zs:List Str} {n:Nat} {ms:List Mv} {c:Nat} {r r':Sum (Str × Nat) (List (Option En))} (h:bEnd zs n ms c r) (h':bEnd zs n ms c r'):r = r':=by
 rcases h with ⟨j,z,hz,hd,nd,e⟩ | ⟨nd,e⟩
 ·have hj:j < zs.length:=(List.getElem?_eq_some_iff.mp hz).1
  rcases h' with ⟨j',z',hz',hd',nd',e'⟩ | ⟨nd',e'⟩
  ·have:j = j':=by
    rcases Nat.lt_trichotomy j j' with h | h | h
    ·exact absurd hd (nd' j z h hz)
    ·exact h
    ·exact absurd hd' (nd j' z' h hz')
   rw [e,e',this]
  ·exact absurd hd (nd' j z hj hz)
 ·rcases h' with ⟨j',z',hz',hd',nd',e'⟩ | ⟨nd',e'⟩
  ·exact absurd hd' (nd j' z' (List.getElem?_eq_some_iff.mp hz').1 hz')
  ·rw [e,e']
def oD:Option En->Dt
 | none=>.non
 | some e=>enD e
def resD:Sum (Str × Nat) (List (Option En))->Dt
 | .inl r=>.tup [.str "refused",.lst [.tup [.str r.1,.int (r.2:Nat)]]]
 | .inr es=>.tup [.str "told",.lst (es.map oD)]
theorem nums_saysN {K:PySem.W.Frag} {H:Hp} {n:Nat}:∀ (zs:List Int),Paired (Says K T' H n) (zs.map V.int) (zs.map Dt.int)
 | []=>.nil
 | z :: zs=>.cons .int (nums_saysN zs)
theorem en_to {K:PySem.W.Frag} {ok:Addr->Prop} {H:Hp} {x:V} {o:Option En} (h:EnO K ok H x o):Says K T' H 2 x (oD o):=by
 cases o with
 | none=>cases h; exact .inl True.intro
 | some e=>
  cases e with
  | one wd n=>obtain ⟨u,rfl,h⟩:=h; exact Says.tup h (.cons Says.str (.cons Says.int .nil))
  | many wd ns=>obtain ⟨u,l,rfl,h,_,hl⟩:=h; exact Says.tup h (.cons Says.str (.cons (Says.lst True.intro hl (nums_saysN _)) .nil))
  | free=>obtain ⟨u,rfl,h⟩:=h; exact Says.tup h (.cons Says.str .nil)
theorem es_to {K:PySem.W.Frag} {ok:Addr->Prop} {H:Hp}:∀ {es:List (Option En)} {xs:List V},Paired (EnO K ok H) xs es->Paired (Says K T' H 2) xs (es.map oD)
 | _,_,.nil=>.nil
 | _,_,.cons h t=>.cons (en_to h) (es_to t)
theorem said_to {K:PySem.W.Frag} {H H':Hp} {t:Addr} {n:Nat} {r:Sum (Str × Nat) (List (Option En))} (h:SaidAt K H H' t n r):Says K T' H' 4 (.ref t) (resD r):=by
 cases r with
 | inl r=>obtain ⟨l,u,h1,h2,h3⟩:=h; exact Says.tup (SqT.of h1) (.cons Says.str (.cons (Says.lst True.intro h2 (.cons (Says.tup (SqT.of h3) (.cons Says.str (.cons Says.int .nil))) .nil)) .nil))
 | inr es=>obtain ⟨le,h1,_,⟨xs,h2,h3⟩,_⟩:=h; exact Says.tup (SqT.of h1) (.cons Says.str (.cons (Says.lst True.intro h2 (es_to h3)) .nil))
structure MU (K:PySem.W.Frag) (H0 H:Hp) (t le:Addr) (xs:List V) (B:Nat):Prop where
 s:Same H0 H
 t:H t = some (.tup [.str "told",.ref le])
 l:H le = some (.lst xs)
 x:∀ x ∈ xs,MX K H0 le B H x
theorem MU.same {K:PySem.W.Frag} {H0 H H':Hp} {t le:Addr} {xs:List V} {B:Nat} (h:MU K H0 H t le xs B) (s:Same H H'):MU K H0 H' t le xs B:=
 ⟨h.s.trans s,s _ _ h.t,s _ _ h.l,fun x hx=>(h.x x hx).map (fun _ _ z=>s.sqT z) fun l ys _ hl g=>⟨ys,s _ _ hl,g⟩⟩
theorem MU.more {K:PySem.W.Frag} {H0 H:Hp} {t le:Addr} {xs:List V} {B:Nat} (h:MU K H0 H t le xs B):MU K H0 H t le xs (B + 1):=
 ⟨h.s,h.t,h.l,fun x hx=>(h.x x hx).map (fun _ _ z=>z) fun l ys _ hl g=>⟨ys,hl,by omega⟩⟩
theorem MU.push {K:PySem.W.Frag} {H0 H:Hp} {t le l:Addr} {xs ys:List V} {B:Nat} {v:V} (h:MU K H0 H t le xs B) (hl:H l = some (.lst ys)) (hn:H0 l = none) (ne:l ≠ le) (g:ys.length<=B):MU K H0 (upd H l (.lst (ys ++ [v]))) t le xs (B + 1):=by
 refine ⟨same_out h.s hn,by rw [upd_ne (ne_of h.t hl (by intro z; cases z))]; exact h.t,by rw [upd_ne (Ne.symm ne)]; exact h.l,fun x hx=>(h.x x hx).map (fun _ _ z=>sqT_upd z hl) fun l' ys' _ hl' g'=>?_⟩
 by_cases e:l' = l
 ·exact ⟨_,by rw [e]; exact upd_same,by rw [List.length_append,List.length_singleton]; omega⟩
 ·exact ⟨ys',by rw [upd_ne e]; exact hl',by omega⟩
def spRight (K:PySem.W.Frag):Sp:=fun vs H Q _=>∃ (lm ca ln:Addr) (n:Nat) (us:List Addr) (ms:List Mv) (xs:List V) (ct:List Item),vs = [.int (n:Nat),.ref lm,.ref ca,.int ((laidT ct).length:Nat),.ref ln]/\H lm = some (.lst (us.map V.ref))/\Paired (MvAt K H) us ms/\(∀ m ∈ ms,MvOk n m)/\n<=100/\SqL K H ca xs/\Paired (Says K T' H 3) xs (ct.map itemD)/\(laidT ct).length<=100/\(laidP ct).length<=8/\H ln = some (.lst ((namesOf ct).map V.str))/\ms.length<=100/\∀ H',Same H H'->Q (.bl true) H'
section
variable {P:Program} {w:World} {K:PySem.W.Frag} {mg:Str->Option Value} {base:Heap} {f:Addr} {fd:FuncData}
theorem scRight:FnScope ["_law_many","_law_moves","_law_call","_law_count","_law_names","_law_due","_law_k","_law_found","_law_entry"] ["_law_many","_law_moves","_law_call","_law_count","_law_names"] (defScope sRight):=⟨rfl,rfl,rfl,by decide +kernel,rfl,by decide +kernel,by decide +kernel⟩
theorem ok_right {g1 g2 g3:Addr} {d1 d2 d3:FuncData} (F:Fun K "_law_right" "_law_right" sRight f fd) (U:TxtL mg) (cR:Callee P w K mg base 2 "_law_run" g1 d1 ["_law_many","_law_moves","_law_count","_law_names"] (spRun K)) (cS':Callee P w K mg base 6 "_law_said" g2 d2 ["_law_made","_law_call"] (spSaid K)) (cP:Callee P w K mg base 2 "_law_plain" g3 d3 ["_law_entry"] (spPlain K)):FnOk P w K mg base CX0 7 f fd ["_law_many","_law_moves","_law_call","_law_count","_law_names"] (spRight K):=by
 refine F.ok scRight (fun vs H Q E h=>?_) (fun cdv A outer s H vs Q E hr h=>?_)
 ·obtain ⟨lm,ca,ln,n,us,ms,xs,ct,rfl,_⟩:=h
  rfl
 obtain ⟨lm,ca,ln,n,us,ms,xs,ct,rfl,hlm,hms,hmo,bn,hca,hct,bc,bp,hln,bm,q⟩:=h
 have hr2:Room 2 _:=hr.mono (by decide)
 have hU:=hr.units
 have hU0:=hr.units0
 have bz:(namesOf ct).length<=8:=by unfold namesOf; rw [List.length_map]; exact bp
 refine pss_go (ps_set (i:=5) scRight.nd rfl (Or.inl rfl) (cF cR hr2 (ac (pv 0) (ac (pv 1) (ac (pv 3) (ac (pv 4) pa_nil)))))) ?_
 refine seq_via (fun σ' H'=>∃ p r,σ' = [some (.int (n:Nat)),some (.ref lm),some (.ref ca),some (.int ((laidT ct).length:Nat)),some (.ref ln),some (.ref p),none,none,none]/\Same H H'/\bEnd (namesOf ct) n ms (laidT ct).length r/\ResAt K H' p r) ?_ (fun key=>?_)
 rotate_left
 ·exact ⟨_,rfl,_,rfl,_,rfl,_,rfl,n,(laidT ct).length,lm,ln,us,ms,namesOf ct,rfl,hlm,hms,hmo,hln,bn,bc,bz,by omega,Nat.le_trans (List.length_filter_le _ _) bm,fun j z hz hd nd p H' s hR=>key _ _ ⟨p,_,rfl,s,.inl ⟨j,z,hz,hd,nd,rfl⟩,hR⟩,fun nd p H' s hR=>key _ _ ⟨p,_,rfl,s,.inr ⟨nd,rfl⟩,hR⟩⟩
 rintro σ0 H0 ⟨p,r,rfl,s0,hb,hR⟩
 refine pss_go (ps_if (pt_cmpR op_eq (pe_ix ix_tup (pv 5) pe_int (fun _ _=>rfl)) pe_str (nomark _)) (pss_one (ps_set (i:=5) scRight.nd rfl (Or.inl rfl) (pe_tup (ac pe_str (ac (pe_lst (ac (pe_ix ix_tup (pv 5) pe_int (fun _ _=>rfl)) pa_nil)) pa_nil))))) pss_nil) ?_
 refine seq_via (fun σ' H'=>∃ p,σ' = [some (.int (n:Nat)),some (.ref lm),some (.ref ca),some (.int ((laidT ct).length:Nat)),some (.ref ln),some (.ref p),none,none,none]/\Same H H'/\Says K T' H' 4 (.ref p) (resD r)) ?_ (fun key=>?_)
 rotate_left
 ·cases r with
  | inl r=>
   obtain ⟨u,h1,h2⟩:=hR
   refine ⟨_,rfl,p,_,0,.str "refused",rfl,rfl,SqT.of h1,rfl,rfl,_,rfl,?_⟩
   refine dT rfl ?_
   refine ⟨_,rfl,p,_,1,.ref u,rfl,rfl,SqT.of h1,rfl,(by show 1<=sizeLine; decide),fun l hl=>?_⟩
   have s1:=same_new hl (.lst [.ref u])
   refine ⟨(by show 2<=sizeLine; decide),fun t ht=>?_⟩
   have s2:=same_new ht (.tup [.str "refused",.ref l])
   exact key _ _ ⟨t,rfl,s0.trans (s1.trans s2),Says.tup (SqT.of upd_same) (.cons Says.str (.cons (Says.lst True.intro (s2 _ _ upd_same) (.cons (Says.tup (SqT.of ((s1.trans s2) _ _ h2)) (.cons Says.str (.cons Says.int .nil))) .nil)) .nil))⟩
  | inr es=>
   obtain ⟨le,L,h1,⟨ys,h2,h3⟩⟩:=hR
   refine ⟨_,rfl,p,_,0,.str "told",rfl,rfl,SqT.of h1,rfl,rfl,_,rfl,?_⟩
   refine dF (neqS (by decide +kernel)) ?_
   exact key _ _ ⟨p,rfl,s0,Says.tup (SqT.of h1) (.cons Says.str (.cons (Says.lst True.intro h2 (es_to h3)) .nil))⟩
 clear hR s0
 rintro σ1 H1 ⟨p,rfl,s1,hS⟩
 refine pss_go (ps_for PassesOwn.never rfl (pi_range1 rfl U.range (ac pe_int pa_nil)) (pg_name (i:=6) scRight.nd rfl (Or.inl rfl)) pss_all) ?_
 refine ⟨2,rfl,by decide,by decide,for_range (n:=2) (fun i σ H'=>∃ v6 v7 v8,σ = [some (.int (n:Nat)),some (.ref lm),some (.ref ca),some (.int ((laidT ct).length:Nat)),some (.ref ln),some (.ref p),v6,v7,v8]/\Same H1 H') ⟨_,_,_,rfl,Same.refl _⟩ ?_ ?_⟩
 rotate_left
 ·rintro σ H2 ⟨v6,v7,v8,rfl,s2⟩
  exact ⟨_,pss_one (ps_ret pe_bl),q _ (s1.trans s2)⟩
 rintro i0 σ H2 hi ⟨v6,v7,v8,rfl,s2⟩
 have sA:=s1.trans s2
 refine pss_go (ps_set (i:=7) scRight.nd rfl (Or.inl rfl) (cF cS' hr (ac (pe_tup (ac (pv 0) (ac (pv 1) pa_nil))) (ac (pv 2) pa_nil)))) ?_
 refine ⟨_,rfl,_,rfl,(by show 2<=sizeLine; decide),fun bt hbt=>?_⟩
 have sb:=same_new hbt (.tup [.int (n:Nat),.ref lm])
 have gb:upd H2 bt (.tup [.int (n:Nat),.ref lm]) bt = some (.tup [.int (n:Nat),.ref lm]):=upd_same
 have s3:=s2.trans sb
 generalize upd H2 bt (.tup [.int (n:Nat),.ref lm]) = H3 at sb gb s3 |-
 have sB:=s1.trans s3
 refine ⟨_,rfl,bt,ca,lm,n,us,ms,xs,ct,rfl,gb,sB _ _ hlm,Paired.imp' (fun _ _ z=>sB.sqT z) hms,hmo,bn,sB.seq hca,items_same sB hct,bc,bp,by omega,fun r' t H4 hb' s4 hT=>?_⟩
 have er:=bEnd_one hb hb'
 subst er
 dsimp only [gName]
 have s5:=s3.trans s4
 refine pss_go (ps_if (pt_cmpR (op_neS hU) (pv 7) (pv 5) (nomark _)) (pss_one ps_dead) pss_nil) ?_
 refine ⟨_,rfl,_,rfl,t,p,3,_,fun _=>True,fun _=>True,rfl,rfl,by decide,said_to hT,hS.same s5,_,rfl,?_⟩
 refine iteF ?_
 refine ⟨_,pss_one (ps_if (pt_cmpR op_eq (pe_ix ix_tup (pv 7) pe_int (fun _ _=>rfl)) pe_str (nomark _)) pss_all pss_nil),?_⟩
 cases r with
 | inl r=>
  obtain ⟨l,u,h1,_⟩:=hT
  refine ⟨_,rfl,t,_,0,.str "refused",rfl,rfl,SqT.of h1,rfl,rfl,_,rfl,?_⟩
  refine dF (neqS (by decide +kernel)) ?_
  exact ⟨_,_,_,rfl,s5⟩
 | inr es=>
  obtain ⟨le,h1,hle,⟨ys,hy1,hy2⟩,hF,lE⟩:=hT
  have hEB:EB es:=by
   rcases hb with ⟨_,_,_,_,_,e⟩ | ⟨_,e⟩
   ·cases e
   ·exact EB_z (by omega) bc e.symm
  refine ⟨_,rfl,t,_,0,.str "told",rfl,rfl,SqT.of h1,rfl,rfl,_,rfl,?_⟩
  refine dT rfl ?_
  have lys:ys.length<=100:=by rw [hy2.length,lE]; exact bn
  have M0:MU K H3 H4 t le ys 100:=⟨s4,h1,hy1,hF _ hy1⟩
  refine pss_go (ps_if (PW.pt (pw_or (pt_not (pt_val (cB call_isinst U.isi boot_isinstance (ac (pe_ix ix_tup (pv 7) pe_int (fun _ _=>rfl)) (ac (pe_bltn (v:=.ty "list") rfl U.list PyProof.Rows.boot_list rfl) pa_nil))))) (pw_or1 (pt_cmpR (op_neS hU) (pe_lc [] ["_law_one"] [none] rfl ⟨rfl,rfl,rfl,rfl⟩ (pi_list (pe_ix ix_tup (pv 7) pe_int (fun _ _=>rfl))) (gown_name 0) rfl rfl rfl (fun pins fp s H C=>⟨pg_name (i:=0) ndOne rfl (Or.inl rfl) (.inr rfl),pif_one (pt_not (pt_val (cF cP hr2 (ac (pv 0) pa_nil)))),pv 0⟩)) (pe_lst pa_nil) (nomark _))))) (pss_one ps_dead) pss_nil) ?_
  refine ⟨_,rfl,t,_,1,.ref le,rfl,rfl,SqT.of h1,rfl,_,_,_,_,rfl,.lst hy1,kt_list_list K,_,rfl,?_⟩
  refine iteF ?_
  refine ⟨_,rfl,t,_,1,.ref le,rfl,rfl,SqT.of h1,rfl,le,rfl,⟨_,SqL.of hy1⟩,fun D hD=>?_⟩
  refine lc_sel (K:=K) (xs:=ys) es (fun _=>false) (fun _=>.non) hD (SqL.of hy1) hy2.length (by omega) (fun j x y H' Nn S hx hy sH nn1 ss1=>?_) (fun H5 s6 hD5=>?_)
  ·obtain ⟨o,ho,hE⟩:=Paired.get hy2 hx
   refine ⟨_,rfl,x,o,_,rfl,EnO.same hE sH,hEB o (List.mem_of_getElem? ho),fun H6 s7=>⟨_,rfl,?_⟩⟩
   exact ⟨fun e=>Bool.noConfusion e,fun _=>ss1 _ s7 rfl⟩
  refine ⟨(by show 0<=sizeLine; decide),fun l0 hl0=>?_⟩
  have s7:=same_new hl0 (.lst [])
  have g7:upd H5 l0 (.lst []) l0 = some (.lst []):=upd_same
  rw [List.filter_eq_nil_iff.mpr (fun _ _=>Bool.false_ne_true)] at hD5
  have hD7:=s7 _ _ hD5
  have M1:=M0.same (s6.trans s7)
  generalize upd H5 l0 (.lst []) = H6 at s7 g7 hD7 M1 |-
  refine ⟨D,l0,0,.lst [],fun _=>True,fun _=>True,rfl,rfl,by decide,Says.lst True.intro hD7 .nil,Says.lst True.intro g7 .nil,_,rfl,?_⟩
  refine iteF ?_
  clear M0 s7 g7 hD7 hD5 hl0 hD s6
  refine pss_go (ps_for PassesOwn.never rfl (pi_list (pe_ix ix_tup (pv 7) pe_int (fun _ _=>rfl))) (pg_name (i:=8) scRight.nd rfl (Or.inl rfl)) pss_all) ?_
  refine ⟨_,rfl,t,_,1,.ref le,rfl,rfl,SqT.of M1.t,rfl,le,rfl,⟨_,SqL.of M1.l⟩,for_list (K:=K) (a:=le) (xs:=ys) (fun i σ H'=>∃ v8,σ = [some (.int (n:Nat)),some (.ref lm),some (.ref ca),some (.int ((laidT ct).length:Nat)),some (.ref ln),some (.ref p),some (.int (0 + i0:Int)),some (.ref t),v8]/\MU K H3 H' t le ys (100 + i)) ⟨_,rfl,M1⟩ (fun i σ H' _ ⟨_,_,M⟩=>SqL.of M.l) ?_ ?_⟩
  ·rintro j x σ H7 hx ⟨v8,rfl,M⟩
   refine ⟨_,pss_one (ps_if (PW.pt (pw_and (pt_cmp (pc_notN (pv 8))) (pw_and1 (pt_cmpR op_in_seq (pe_ix ix_tup (pv 8) pe_int (fun _ _=>rfl)) (pe_lst (ac pe_str (ac pe_str pa_nil))) (by with_unfolding_all rfl))))) (pss_one (ps_expr (pe_bm PySem.F.plainAttrs_list PySem.F.slot_list_append PySem.F.type_list_append mt_append (pe_ix ix_tup (pv 8) pe_int (fun _ _=>rfl)) (ac pe_int pa_nil)))) pss_nil),?_⟩
   have hmx:=M.x x (List.mem_of_getElem? hx)
   have hjl:j < ys.length:=(List.getElem?_eq_some_iff.mp hx).1
   refine ⟨_,rfl,_,rfl,?_⟩
   have go:∀ {u:Addr} {wd:Str} {vs:List V},SqT K H7 u (.str wd :: vs)->¬ (wd = "places"\/wd = "names")->∀ l,H7 l = none->decide (wd ∈ (["places","names"]:List Str)) = false/\MU K H3 (upd H7 l (.lst [.str "places",.str "names"])) t le ys (100 + (j + 1)):=fun {u wd vs} _ hn l hl=>⟨decide_eq_false fun h=>hn (by simpa using h),(M.same (same_new hl _)).more⟩
   have gl:∀ l,upd H7 l (.lst [.str "places",.str "names"]) l = some (.lst ((["places","names"]:List Str).map V.str)):=fun l=>upd_same
   rcases hmx with rfl | ⟨u,rfl,hh⟩
   ·refine iteF ?_
    refine iteF ?_
    exact ⟨_,rfl,M.more⟩
   refine iteT ?_
   rcases hh with ⟨wd,m,hu,hw⟩ | hu | ⟨wd,l',zs,hu,hw,hl0,hne,hl',hlen⟩
   ·refine ⟨_,rfl,u,_,0,.str wd,rfl,rfl,hu,rfl,(by show 2<=sizeLine; decide),fun l hl=>?_⟩
    obtain ⟨k1,k2⟩:=go hu (by rcases hw with rfl | rfl <;> decide +kernel) l hl
    refine ⟨l,_,rfl,.inl (SqL.of (gl l)),rfl,flatStrs,_,rfl,?_⟩
    rw [if_neg Bool.false_ne_true,inStrs,k1]
    refine iteF ?_
    exact ⟨_,rfl,k2⟩
   ·refine ⟨_,rfl,u,_,0,.str "free",rfl,rfl,hu,rfl,(by show 2<=sizeLine; decide),fun l hl=>?_⟩
    obtain ⟨k1,k2⟩:=go hu (by decide +kernel) l hl
    refine ⟨l,_,rfl,.inl (SqL.of (gl l)),rfl,flatStrs,_,rfl,?_⟩
    rw [if_neg Bool.false_ne_true,inStrs,k1]
    refine iteF ?_
    exact ⟨_,rfl,k2⟩
   ·refine ⟨_,rfl,u,_,0,.str wd,rfl,rfl,hu,rfl,(by show 2<=sizeLine; decide),fun l hl=>?_⟩
    have sl:=same_new hl (.lst [.str "places",.str "names"])
    refine ⟨l,_,rfl,.inl (SqL.of (gl l)),rfl,flatStrs,_,rfl,?_⟩
    rw [if_neg Bool.false_ne_true,inStrs]
    refine dT (by simpa using hw) ?_
    have M2:=M.same sl
    refine ⟨_,rfl,u,_,1,.ref l',rfl,rfl,sl.sqT hu,rfl,.inl ⟨rfl,_,SqL.of (sl _ _ hl')⟩,l',_,_,rfl,rfl,sl _ _ hl',small1000 (by omega),?_⟩
    exact ⟨_,rfl,M2.push (sl _ _ hl') hl0 hne hlen⟩
  ·rintro σ H7 ⟨v8,rfl,M⟩
   refine ⟨_,pss_one (ps_expr (pe_bm PySem.F.plainAttrs_list PySem.F.slot_list_append PySem.F.type_list_append mt_append (pe_ix ix_tup (pv 7) pe_int (fun _ _=>rfl)) (ac pe_non pa_nil))),?_⟩
   refine ⟨_,rfl,t,_,1,.ref le,rfl,rfl,SqT.of M.t,rfl,.inl ⟨rfl,_,SqL.of M.l⟩,le,_,_,rfl,rfl,M.l,small1000 (by omega),?_⟩
   exact ⟨_,_,_,rfl,s3.trans (same_out M.s hle)⟩
end
end K52
namespace L2
open PySem PySem.Spec PyProof.Rows
theorem nolen_lri:typeLookup (.type "list_reverseiterator") "__len__" = pure none:=by rw [typeLookup_type,builtinLookup_eq_fast]; kernel_rfl
theorem hint_lri:typeLookup (.type "list_reverseiterator") "__length_hint__" = pure (some (.builtin "list_reverseiterator.__length_hint__")):=by rw [typeLookup_type,builtinLookup_eq_fast]; kernel_rfl
section
variable {prog:Program} {w:World} {A:Around} {E:Value->Shared->Prop} {s:Shared}
theorem extend_rev {R:Result->Shared->Prop} {I l S:Addr} {items:Array Value} (hh:A.handled = none) (hit:s.heap.IsRevIter I l ((items.size:Int) - 1)) (hl:s.heap.IsList l items) (hlI:l ≠ I) (hn:items.size<=sizeLine) (hSI:S ≠ I) (hSl:S ≠ l) (res:Value) (c₀:Nat) (hS:s.heap.get? S = some { cls:=.type "list",data:=.seq #[] c₀ })
  (hR:∀ h' tk acc' c',(∀ b o,b ≠ S->b ≠ I->s.heap.get? b = some o->h'.get? b = some o)->h'.get? S = some { cls:=.type "list",dict:=none,data:=.seq acc' c',slots:=#[] }->
   ItemsOf (fun i v=>items[items.size - 1 - i]? = some v) acc' items.size->R (.ok (.ret res)) { s with heap:=h',toks:=tk }) :
  wpAny (model prog w) A.in1 (Builtin.List.listExtendWith (.ref S) (.ref I) res)
   (fun fin s'=>match fin with | .done f=>R (.ok f) s' | .again c'=>c'.quiet = true/\codeAny (model prog w) A c' R s') (fun e s'=>R (.error e) s') s:=by
 have W:=(Walks.listRev (prog:=prog) (w:=w) (A:=A.in1) hh I l hlI items).toS
 have hT:s.TypeIs (.ref I) "list_reverseiterator":=hit.typeIs
 have hSf:S ∉ [I,l]:=fun hm=>by
  rcases List.mem_cons.mp hm with e | hm
  ·exact hSI e
  ·exact hSl (List.mem_singleton.mp hm)
 have h1:Builtin.List.listSameRef (.ref S) (.ref I) = false:=by simp [Builtin.List.listSameRef,hSI]
 have hst:(0:Nat)<=items.size/\s.heap.IsRevIter I l ((items.size:Int) - 1 - ((0:Nat):Int))/\s.heap.IsList l items:=⟨Nat.zero_le _,by simpa using hit,hl⟩
 unfold Builtin.List.listExtendWith
 refine wpAny_bind (wpAny_typeOf hT ?_)
 rw [if_neg (by rw [h1]; decide)]
 refine wpAny_bind (wpAny_pyIter_revIter hit ?_)
 refine wpAny_bind (wpAny_holding ?_)
 unfold Builtin.List.listLengthHint
 refine wpAny_bind (wpAny_specialOf hT nolen_lri ?_)
 show wpAny _ A.in1 (specialOf (Value.ref I) (Str.ofString "__length_hint__") >>= _) _ _ _
 refine wpAny_bind (wpAny_specialOf hT hint_lri ?_)
 generalize hid:("list_reverseiterator.__length_hint__" : String) = id0
 wp_delta
 rw [show splitId id0 = some ("list_reverseiterator","__length_hint__") from by subst hid; decide +kernel]
 subst hid
 refine wpAny_bind (wpAny_isInstance (b:=true) hT (by rw [isSubtype_type]; kernel_rfl) ?_)
 refine wpAny_pure ?_
 rw [if_neg (by decide)]
 refine wpAny_pure ⟨plainId_quiet F.plain_extend_loop _,codeAny_extend_loopS W hn S hSf res items.size 0 _ #[] c₀ rfl (Nat.zero_le _) hst hS (ItemsOf.nil _) fun s' acc' c' hm hS' hacc=>?_⟩
 rw [Moved.eq_with hm]
 refine hR s'.heap s'.toks acc' c' (fun b o hb hbI e=>hm.heap b o (fun hmem=>?_) e) hS' hacc
 rcases List.mem_cons.mp hmem with e' | hmem
 ·exact hb e'
 ·exact hbI (List.mem_singleton.mp hmem)
theorem call_list_rev {Q:Value->Shared->Prop} {I l:Addr} {items:Array Value} (hh:A.handled = none) (hit:s.heap.IsRevIter I l ((items.size:Int) - 1)) (hl:s.heap.IsList l items) (hlI:l ≠ I) (hn:items.size<=sizeLine)
  (hQ:∀ h' tk acc' c',(∀ b o,b ≠ I->s.heap.get? b = some o->h'.get? b = some o)->
   h'.get? s.heap.objs.size = some { cls:=.type "list",dict:=none,data:=.seq acc' c',slots:=#[] }->ItemsOf (fun i v=>items[items.size - 1 - i]? = some v) acc' items.size->Q (.ref s.heap.objs.size) { s with heap:=h',toks:=tk }) :
  wpAny (model prog w) A (call (.type "list") [.ref I]) Q E s:=by
 have hI:I < s.heap.objs.size:=by obtain ⟨o,e,_⟩:=hit; exact Heap.lt_size e
 have hL:l < s.heap.objs.size:=by obtain ⟨_,e,_⟩:=hl; exact Heap.lt_size e
 refine callType_codes (Q₁:=fun obj s₁=>obj = .ref s.heap.objs.size/\s₁ = { s with heap:=s.heap.push { cls:=.type "list",data:=.seq #[] } }) F.called_list (F.typeCall_list_1 _) F.entry_list_init
  (code_list_new _ ⟨rfl,rfl⟩) fun obj s₁ h₁=>?_
 obtain ⟨rfl,rfl⟩:=h₁
 have hS:(s.heap.push { cls:=.type "list",data:=.seq #[] }).get? s.heap.objs.size = some { cls:=.type "list",data:=.seq #[] }:=Heap.get?_push_size _ rfl
 refine ⟨⟨_,hS,rfl⟩,F.args_list_init_2 _ _,?_⟩
 have hIS:I ≠ s.heap.objs.size:=Nat.ne_of_lt hI
 have hLS:l ≠ s.heap.objs.size:=Nat.ne_of_lt hL
 have hbS:∀ b o,s.heap.get? b = some o->b ≠ s.heap.objs.size:=fun b o e=>Nat.ne_of_lt (Heap.lt_size e)
 generalize hS0:s.heap.objs.size = S at hS hIS hLS hbS hQ |-
 have hit1:(s.heap.push { cls:=.type "list",data:=.seq #[] }).IsRevIter I l ((items.size:Int) - 1):=hit.at fun o e=>Heap.get?_push_of_some _ e
 have hl1:=hl.push { cls:=.type "list",data:=.seq #[] }
 have old:∀ b o,s.heap.get? b = some o->(s.heap.push { cls:=.type "list",data:=.seq #[] }).get? b = some o:=fun b o e=>Heap.get?_push_of_some _ e
 generalize s.heap.push { cls:=.type "list",data:=.seq #[] } = hp1 at hS hit1 hl1 old |-
 show wpAny _ _ (do let old <- Builtin.List.listItems (.ref S); Builtin.List.listUpdate (.ref S) (fun _=>#[]); letGo old.toList.reverse; Builtin.List.listExtendWith (.ref S) (.ref I) .none) _ _ _
 refine wpAny_bind ?_
 unfold Builtin.List.listItems
 refine wpAny_bind (wpAny_seqItems hS rfl (wpAny_pure ?_))
 show wpAny _ _ (updateSeq S (fun _=>#[]) >>= fun _=>letGo (#[]:Array Value).toList.reverse >>= fun _=>Builtin.List.listExtendWith (.ref S) (.ref I) .none) _ _ _
 refine wpAny_bind (wpAny_updateSeq hS rfl ?_)
 have hS₂:=Heap.get?_update_self (Obj.mapSeq (fun _=>(#[]:Array Value))) hS rfl
 have oth:∀ b o,b ≠ S->hp1.get? b = some o->(hp1.update S (Obj.mapSeq (fun _=>(#[]:Array Value)))).get? b = some o:=
  fun b o hb e=>(Heap.get?_update_other _ _ (Ne.symm hb)).trans e
 refine wpAny_bind (wpAny_letGo ?_)
 refine extend_rev (A:=A.in1) hh (hit1.at fun o e=>oth I o hIS e) (hl1.at fun o e=>oth l o hLS e) hlI hn (Ne.symm hIS) (Ne.symm hLS) .none _ hS₂ fun h' tk acc' c' hk hS' hacc=>?_
 exact ⟨rfl,hQ h' tk acc' c' (fun b o hb e=>hk b o (hbS b o e) hb (oth b o (hbS b o e) (old b o e))) hS' hacc⟩
end
section
variable {X:Cx}
def tLR (K:PySem.W.Frag) (ta:TA):TE:=fun σ H Q=>ta σ H fun vs H1=>∃ (q:Addr) (ys:List V),vs = [.ref q]/\SqL K H1 q ys/\ys.length<=1000/\∀ l,H1 l = none->Q (.ref l) (upd H1 l (.lst ys.reverse))
theorem pe_listRev {a:Expr} {ta:TA} {p p2 pos pos2:Pos} (hc:X.calm = true) (hg:Gl X "list") (hm:X.mg "list" = none) (hg2:Gl X "reversed") (hm2:X.mg "reversed" = none) (ha:PA X [a] ta) (h1:isSt a = false:=by rfl) :
  PE X (.Call (.Name "list" p) [.Call (.Name "reversed" p2) [a] [] pos2] [] pos) (tLR X.K ta):=by
 refine ⟨?_⟩
 intro pins s σ H Q I h
 refine Call_ (ld_blt I hg hm PyProof.Rows.boot_list (PyProof.Rows.callWith_type1 ?_ (star_cons rfl) rfl))
 rw [star_cons (show isSt (.Call (.Name "reversed" p2) [a] [] pos2) = false from rfl)]
 show wpAny _ _ (spliced ((false,eval (.Call (.Name "reversed" p2) [a] [] pos2) X.env) :: backTo pos (starEach [] X.env))) _ _ s
 refine Calls.spliced_cons ?_
 refine Call_ (ld_blt I hg2 hm2 boot_rev (PyProof.Rows.callWith_type1 (thn (ha pos2 pins s σ H _ I h) fun us s1 ⟨vs,H1,I1,r1,q,ys,e,hS,hn,k⟩=>?_) (star_cons h1) rfl))
 subst e
 cases r1 with
 | cons r rr=>
  cases rr
  cases r
  obtain ⟨its,rv,hp,hz⟩:=I1.list hS
  have hlen:its.length = ys.length:=rv.length.symm
  have hq:q < s1.heap.objs.size:=by obtain ⟨_,e,_⟩:=hp.isList; exact Heap.lt_size e
  refine call_reversed_list hp.isList (Calls.spliced_nil ?_)
  have hsz:its.toArray.size = its.length:=List.size_toArray
  have hqn:q ≠ s1.heap.objs.size:=Nat.ne_of_lt hq
  have hit:(s1.heap.push (revObj q ((its.toArray.size:Int) - 1))).IsRevIter s1.heap.objs.size q ((its.toArray.size:Int) - 1):=⟨_,Heap.get?_push_size _ rfl,rfl,rfl⟩
  have hl1:=hp.isList.push (revObj q ((its.toArray.size:Int) - 1))
  have old:∀ b o,s1.heap.get? b = some o->(s1.heap.push (revObj q ((its.toArray.size:Int) - 1))).get? b = some o:=fun b o e=>Heap.get?_push_of_some _ e
  have hs:(s1.heap.push (revObj q ((its.toArray.size:Int) - 1))).objs.size = s1.heap.objs.size + 1:=Heap.size_push _ _
  generalize s1.heap.push (revObj q ((its.toArray.size:Int) - 1)) = hp1 at hit hl1 old hs |-
  refine call_list_rev (s:={ s1 with heap:=hp1 }) (I1.ok.hd hc) hit hl1 hqn (by rw [hsz,hlen]; exact Nat.le_trans hn (by decide)) fun h' tk acc c' hk he hacc=>?_
  have hrv:acc.toList = its.reverse:=by
   refine List.ext_getElem? fun i=>?_
   have hal:acc.toList.length = its.length:=by rw [Array.length_toList,hacc.1,hsz]
   by_cases hi:i < its.length
   ·have hia:i < acc.toList.length:=by omega
    rw [List.getElem?_eq_getElem hia,List.getElem?_reverse hi]
    have h2:=hacc.2 i acc.toList[i] (by rw [<- Array.getElem?_toList]; exact List.getElem?_eq_getElem hia)
    have h3:its[its.length - 1 - i]? = some acc.toList[i]:=by
     rw [hsz] at h2
     simpa using h2
    exact h3.symm
   ·rw [List.getElem?_eq_none (by omega),List.getElem?_eq_none (by rw [List.length_reverse]; omega)]
  refine ⟨.ref hp1.objs.size,_,I1.laid (t':=tk) (o:=.lst ys.reverse) (fun b o e=>hk b o (Nat.ne_of_lt (Heap.lt_size e)) (old b o e)) (by rw [hs]; exact Nat.le_succ _) ⟨?_,acc.toList,c',by rw [hrv]; exact rv.rev,by simpa using he⟩,rfl,k _ (I1.hok.fresh (by rw [hs]; exact Nat.le_succ _))⟩
  rw [List.length_reverse]
  exact Nat.le_trans hn (by decide)
end
end L2
namespace K52
open PySem L2 PyProof.Rows
theorem anyT_len (cell:Int):(anyT cell).length<=8:=by
 unfold anyT
 rw [List.length_map,List.length_range]
 have h0 : 0<=cell % 9:=Int.emod_nonneg _ (by decide)
 have h1:cell % 9 < 9:=Int.emod_lt_of_pos _ (by decide)
 omega
theorem anyP_len (more:Int) (pool:List Str) (span:Nat):(anyP more pool span).length<=7:=by
 unfold anyP
 rw [List.length_map,List.length_zipIdx]
 exact names2_len _ _ _
open Builtin.Int in
theorem bits7 {c:Int} (h:intBits c<=1048576):intBits (c % 7 + 9 * (c / 7))<=1048600:=by
 have h1:intBits (c / 7)<=1048576:=PySem.intBits_le_of_natAbs (Int.natAbs_ediv_le_natAbs c 7) h
 have h2:intBits (c % 7)<=64:=by
  have a:=Int.emod_nonneg c (show (7:Int) ≠ 0 by decide)
  have b:=Int.emod_lt_of_pos c (show (0:Int) < 7 by decide)
  exact PySem.intBits_le_iff.mpr (Nat.lt_of_le_of_lt (show (c % 7).natAbs<=7 by omega) (by decide))
 have h3:intBits (9 * (c / 7))<=4 + 1048576:=PySem.intBits_mul_le (by decide) h1
 exact Nat.le_trans (PySem.intBits_add_le h2 h3) (by decide)
theorem int_get {ts:List Int} {i:Nat} {x:V} (h:(ts.map V.int)[i]? = some x):∃ t,ts[i]? = some t/\x = .int t:=by
 rw [List.getElem?_map] at h
 cases e:ts[i]? with
 | none=>rw [e] at h; cases h
 | some it=>rw [e] at h; exact ⟨it,rfl,(Option.some.inj h).symm⟩
theorem sqT_up {K:PySem.W.Frag} {H:Hp} {u l:Addr} {vs ys:List V} {o:HO} (h:SqT K H u vs) (hl:H l = some (.lst ys)):SqT K (upd H l o) u vs:=by
 rcases h with (h | ⟨o,h⟩) | h
 ·exact .inl (.inl (by rw [upd_ne (fun e=>by rw [e,hl] at h; cases h)]; exact h))
 ·exact .inl (.inr ⟨o,by rw [upd_ne (fun e=>by rw [e,hl] at h; cases h)]; exact h⟩)
 ·exact .inr h
structure MvsAt (K:PySem.W.Frag) (H:Hp) (lm:Addr) (n:Nat) (us:List Addr) (ms:List Mv):Prop where
 l:H lm = some (.lst (us.map V.ref))
 p:Paired (MvAt K H) us ms
 o:∀ m ∈ ms,MvOk n m
def RM (K:PySem.W.Frag) (n:Nat) (H:Hp) (u:Addr):Prop:=∃ m,MvOk n m/\MvAt K H u m
theorem mvs_of {K:PySem.W.Frag} {n:Nat} {H:Hp}:∀ {us:List Addr},(∀ u ∈ us,RM K n H u)->∃ ms,Paired (MvAt K H) us ms/\∀ m ∈ ms,MvOk n m
 | [],_=>⟨[],.nil,fun m h=>by cases h⟩
 | u :: us,h=>by
  obtain ⟨m,h1,h2⟩:=h u List.mem_cons_self
  obtain ⟨ms,h3,h4⟩:=mvs_of (us:=us) fun v hv=>h v (List.mem_cons_of_mem _ hv)
  exact ⟨m :: ms,.cons h2 h3,fun x hx=>by
   rcases List.mem_cons.mp hx with rfl | hx
   ·exact h1
   ·exact h4 x hx⟩
def mvD:Mv->Dt
 | .take q=>.tup [.str "take",.int (q:Nat)]
 | .gather q=>.tup [.str "gather",.int (q:Nat)]
 | .fin=>.tup [.str "end"]
 | .door z q=>.tup [.str "door",.str z,.int (q:Nat)]
 | .bar z=>.tup [.str "bar",.str z]
 | .names none=>.tup [.str "names"]
 | .names (some q)=>.tup [.str "names",.int (q:Nat)]
 | .need q=>.tup [.str "need",.int (q:Nat)]
 | .free q=>.tup [.str "free",.int (q:Nat)]
theorem mv_to {K:PySem.W.Frag} {H:Hp} {u:Addr} {m:Mv} (h:MvAt K H u m):Says K T' H 1 (.ref u) (mvD m):=by
 have h:SqT K H u (mvV m):=h
 cases m with
 | take q=>exact Says.tup h (.cons Says.str (.cons Says.int .nil))
 | gather q=>exact Says.tup h (.cons Says.str (.cons Says.int .nil))
 | fin=>exact Says.tup h (.cons Says.str .nil)
 | door z q=>exact Says.tup h (.cons Says.str (.cons Says.str (.cons Says.int .nil)))
 | bar z=>exact Says.tup h (.cons Says.str (.cons Says.str .nil))
 | names o=>cases o with
  | none=>exact Says.tup h (.cons Says.str .nil)
  | some q=>exact Says.tup h (.cons Says.str (.cons Says.int .nil))
 | need q=>exact Says.tup h (.cons Says.str (.cons Says.int .nil))
 | free q=>exact Says.tup h (.cons Says.str (.cons Says.int .nil))
theorem mvs_to {K:PySem.W.Frag} {H:Hp}:∀ {us:List Addr} {ms:List Mv},Paired (MvAt K H) us ms->Paired (Says K T' H 1) (us.map V.ref) (ms.map mvD)
 | _,_,.nil=>.nil
 | _,_,.cons h t=>.cons (mv_to h) (mvs_to t)
def poolL (c:Int):List Str:=(List.range 26).map (poolN c)
theorem poolL_len (c:Int):(poolL c).length = 26:=by unfold poolL; rw [List.length_map,List.length_range]
theorem pairedRev {α β : Type} {R : α->β->Prop} {a:List α} {c:List β} (h:Paired R a c):Paired R a.reverse c.reverse:=by
 induction h with
 | nil=>exact .nil
 | cons r _ ih=>rw [List.reverse_cons,List.reverse_cons]; exact Paired.snoc ih r
theorem MvsAt.same {K:PySem.W.Frag} {H H':Hp} {lm:Addr} {n:Nat} {us:List Addr} {ms:List Mv} (h:MvsAt K H lm n us ms) (s:Same H H'):MvsAt K H' lm n us ms:=⟨s _ _ h.l,Paired.imp' (fun _ _ z=>s.sqT z) h.p,h.o⟩
def spLawB (K:PySem.W.Frag):Sp:=fun vs H Q _=>∃ (a:Addr) (ns:List Int),vs = [.ref a]/\SqL K H a (ns.map V.int)/\ns.length<=63/\(∀ m ∈ ns,Builtin.Int.intBits m<=1048576)/\∀ H',Q (.bl true) H'
section
variable {P:Program} {w:World} {K:PySem.W.Frag} {mg:Str->Option Value} {base:Heap} {f:Addr} {fd:FuncData}
theorem ndL1:([Str.ofString "_law_cell_here",Str.ofString "_law_many",Str.ofString "_law_pool_here"]:List Str).Nodup:=by decide +kernel
theorem ndL2:([Str.ofString "_law_j",Str.ofString "_law_cell_here",Str.ofString "_law_many",Str.ofString "_law_pool_here"]:List Str).Nodup:=by decide +kernel
theorem ndL3:([Str.ofString "_law_name",Str.ofString "_law_thing_here"]:List Str).Nodup:=by decide +kernel
theorem scLaw:FnScope ["_law_script","_law_pool_here","_law_many","_law_cell_here","_law_moves","_law_k","_law_things","_law_pairs","_law_call","_law_names","_law_handed","_law_some"] ["_law_script"] (defScope sLaw):=⟨rfl,rfl,rfl,by decide +kernel,rfl,by decide +kernel,by decide +kernel⟩
theorem ok_law {f1 f2 f3 f4 f5 f6 f7:Addr} {e1 e2 e3 e4 e5 e6 e7:FuncData} (F:Fun K "law" "law" sLaw f fd) (U:TxtL mg) (hrv:mg "reversed" = none) (cC:Callee P w K mg base 1 "_law_cell" f1 e1 ["_law_script","_law_at"] (spCell K)) (cPo:Callee P w K mg base 1 "_law_pool" f2 e2 ["_law_cell_here"] (spPool K)) (cMv:Callee P w K mg base 1 "_law_move" f3 e3 ["_law_cell_here","_law_many","_law_names"] (spMove K)) (cMx:Callee P w K mg base 1 "_law_mix" f4 e4 ["_law_cell_here","_law_k"] spMix)
  (cA:Callee P w K mg base 3 "_law_any" f5 e5 ["_law_cell_here","_law_more","_law_pool_here","_law_span"] (spAny K)) (cI:Callee P w K mg base 2 "_law_items" f6 e6 ["_law_things","_law_pairs","_law_cell_here"] (spItems K)) (cR:Callee P w K mg base 7 "_law_right" f7 e7 ["_law_many","_law_moves","_law_call","_law_count","_law_names"] (spRight K)):FnOk P w K mg base CX0 8 f fd ["_law_script"] (spLawB K):=by
 refine F.ok scLaw (fun vs H Q E h=>?_) (fun cdv A outer s H vs Q E hr h=>?_)
 ·obtain ⟨a,ns,rfl,_⟩:=h
  rfl
 obtain ⟨sa,ns,rfl,hS,h63,hbit,q⟩:=h
 have hr1:Room 1 _:=hr.mono (by decide)
 have hr2:Room 2 _:=hr.mono (by decide)
 have hr3:Room 3 _:=hr.mono (by decide)
 have hU:=hr.units
 have bz:∀ {n:Int},(n ∈ ns\/n = 0)->Builtin.Int.intBits n<=1048576:=fun {n} h=>by
  rcases h with h | h
  ·exact hbit n h
  ·rw [h]; decide
 refine pss_go (ps_set (i:=1) scLaw.nd rfl (Or.inr rfl) (cF cPo hr1 (ac (cF cC hr1 (ac (pv 0) (ac pe_int pa_nil))) pa_nil))) ?_
 refine ⟨_,rfl,sa,ns,1,rfl,hS,h63,fun c1 H1 s1 _=>?_⟩
 refine ⟨c1,rfl,fun pa H2 s2 np hpa=>?_⟩
 have s02:=s1.trans s2
 have hpa:H2 pa = some (.lst ((poolL c1).map V.str)):=hpa
 dsimp only [gName]
 refine pss_go (ps_set (i:=2) scLaw.nd rfl (Or.inr rfl) (pe_op op_mod (cF cC hr1 (ac (pv 0) (ac pe_int pa_nil))) pe_int)) ?_
 refine ⟨_,rfl,sa,ns,0,rfl,s02.seq hS,h63,fun c0 H3 s3 _=>?_⟩
 refine ⟨_,_,rfl,rfl,(by show (0:Int) < 7; decide),?_⟩
 obtain ⟨n,hn⟩:=Int.eq_ofNat_of_zero_le (Int.emod_nonneg c0 (show (7:Int) ≠ 0 by decide))
 have n7:n < 7:=by have:=Int.emod_lt_of_pos c0 (show (0:Int) < 7 by decide); omega
 rw [hn]
 have s03:=s02.trans s3
 have hpa:=s3 _ _ hpa
 dsimp only [gName]
 refine pss_go (ps_lc (i:=4) ["_law_pool_here","_law_many"] ["_law_cell_here","_law_many","_law_pool_here"] [none,some 2,some 1] scLaw.nd rfl (Or.inl rfl) rfl ⟨rfl,rfl,rfl,rfl⟩ (pi_list (pe_slice sl_list (pv 0) (po_some pe_int) (po_some pe_int))) (gown_name 0) rfl rfl rfl
    (fun pins fp s H C=>⟨pg_name (i:=0) ndL1 rfl (Or.inl rfl) (.inr rfl),pif_nil,cF cMv hr1 (ac (pv 0) (ac (pv 1) (ac (pv 2) pa_nil)))⟩)) ?_
 refine ⟨_,rfl,_,rfl,_,rfl,sa,_,rfl,s03.seq hS,fun p hp=>?_⟩
 obtain ⟨cs,hcs,lcs,mcs⟩:=cut_ints ns (some 5) (some 30)
 rw [hcs]
 have s4:=same_new hp (.lst (cs.map V.int))
 have g4:upd H3 p (.lst (cs.map V.int)) p = some (.lst (cs.map V.int)):=upd_same
 have hpa:=s4 _ _ hpa
 generalize upd H3 p (.lst (cs.map V.int)) = H4 at s4 g4 hpa |-
 refine ⟨p,rfl,⟨_,SqL.of g4⟩,fun D hD=>?_⟩
 refine lc_mapV (K:=K) (bs:=cs) (fun H u (_:Int)=>RM K n H u) (fun ⟨m,h1,h2⟩ s=>⟨m,h1,s.sqT h2⟩) (fun ⟨m,h1,h2⟩ e=>⟨m,h1,sqT_up h2 e⟩) (SqL.of g4) (by rw [List.length_map]) (by omega) hD (fun i x b H' Qf Qs hx hb sH qf=>?_) fun us H5 s5 hD5 p5=>?_
 ·obtain ⟨c,hc,rfl⟩:=int_get hx
  refine ⟨fun _=>?_,fun e=>Bool.noConfusion e⟩
  exact ⟨_,rfl,_,rfl,_,rfl,c,n,pa,poolL c1,rfl,sH _ _ hpa,poolL_len c1,fun u m H' s mo ma=>qf u H' s ⟨m,mo,ma⟩⟩
 have s05:=s03.trans (s4.trans s5)
 have hpa:=s5 _ _ hpa
 obtain ⟨ms,hms,mok⟩:=mvs_of (K:=K) (n:=n) (H:=H5) (us:=us) (fun u hu=>by
  obtain ⟨i,hi⟩:=List.mem_iff_getElem?.mp hu
  obtain ⟨_,_,h⟩:=Paired.get p5 hi
  exact h)
 have lms:ms.length<=63:=by rw [<- hms.length,p5.length]; omega
 have M0:MvsAt K H5 D n us ms:=⟨hD5,hms,mok⟩
 dsimp only [gName]
 clear hD5 hms mok p5 s4 g4 hD hp
 refine pss_go (ps_if (pt_cmpR op_eq (pe_op op_mod (pe_op op_fdiv (cF cC hr1 (ac (pv 0) (ac pe_int pa_nil))) pe_int) pe_int) pe_int (nomark _)) pss_all pss_nil) ?_
 refine seq_via (fun σ' H'=>∃ (n:Nat) (lm:Addr) (us:List Addr) (ms:List Mv) (v3:Option V),σ' = [some (.ref sa),some (.ref pa),some (.int (n:Nat)),v3,some (.ref lm),none,none,none,none,none,none,none]/\Same H H'/\H' pa = some (.lst ((poolL c1).map V.str))/\MvsAt K H' lm n us ms/\n<=100/\ms.length<=63) ?_ (fun key=>?_)
 rotate_left
 ·refine ⟨_,rfl,sa,ns,0,rfl,s05.seq hS,h63,fun d0 H6 s6 _=>?_⟩
  refine ⟨_,_,rfl,rfl,⟨by decide,by decide⟩,_,_,rfl,rfl,(by show (0:Int) < 4; decide),rfl,_,rfl,?_⟩
  refine ite2 (fun _=>?_) (fun _=>?_)
  rotate_left
  ·exact key _ _ ⟨n,D,us,ms,_,rfl,s05.trans s6,s6 _ _ hpa,M0.same s6,by omega,lms⟩
  have s06:=s05.trans s6
  have hpa:=s6 _ _ hpa
  clear M0 lms
  refine pss_go (ps_set (i:=2) scLaw.nd rfl (Or.inr rfl) (pe_op op_mod (pe_op op_fdiv (cF cC hr1 (ac (pv 0) (ac pe_int pa_nil))) pe_int) pe_int)) ?_
  refine ⟨_,rfl,sa,ns,0,rfl,s06.seq hS,h63,fun d1 H7 s7 _=>?_⟩
  refine ⟨_,_,rfl,rfl,⟨by decide,by decide⟩,_,_,rfl,rfl,(by show (0:Int) < 25; decide),?_⟩
  obtain ⟨n2,hn2⟩:=Int.eq_ofNat_of_zero_le (Int.emod_nonneg (d1 / 28) (show (25:Int) ≠ 0 by decide))
  have n25:n2 < 25:=by have:=Int.emod_lt_of_pos (d1 / 28) (show (0:Int) < 25 by decide); omega
  rw [hn2]
  have s07:=s06.trans s7
  have hpa:=s7 _ _ hpa
  dsimp only [gName]
  refine pss_go (ps_set (i:=4) scLaw.nd rfl (Or.inl rfl) (pe_lst pa_nil)) ?_
  refine ⟨(by show 0<=sizeLine; decide),fun lm hlm=>?_⟩
  have s8:=same_new hlm (.lst [])
  have g8:upd H7 lm (.lst []) lm = some (.lst (([]:List Addr).map V.ref)):=upd_same
  generalize upd H7 lm (.lst []) = H8 at s8 g8 |-
  dsimp only [gName]
  refine pss_go (ps_for PassesOwn.never rfl (pi_list (pe_slice sl_list (pv 0) (po_some pe_int) (po_some pe_int))) (pg_name (i:=3) scLaw.nd rfl (Or.inr rfl)) pss_all) ?_
  refine seq_via (fun σ' H'=>∃ (v3:Option V) (us:List Addr),σ' = [some (.ref sa),some (.ref pa),some (.int (n2:Nat)),v3,some (.ref lm),none,none,none,none,none,none,none]/\Same H7 H'/\H' lm = some (.lst (us.map V.ref))/\(∀ u ∈ us,RM K n2 H' u)/\us.length<=189) ?_ (fun key2=>?_)
  rotate_left
  ·refine ⟨_,rfl,_,rfl,_,rfl,sa,_,rfl,(s07.trans s8).seq hS,fun p2 hp2=>?_⟩
   rw [hcs]
   have s9:=same_new hp2 (.lst (cs.map V.int))
   have g9:upd H8 p2 (.lst (cs.map V.int)) p2 = some (.lst (cs.map V.int)):=upd_same
   have g8:=s9 _ _ g8
   have s79:=s8.trans s9
   have np2:p2 ≠ lm:=fun e=>by rw [e,(show H8 lm = some (.lst (([]:List Addr).map V.ref)) from by assumption)] at hp2; cases hp2
   generalize upd H8 p2 (.lst (cs.map V.int)) = H9 at s9 g9 g8 s79 |-
   refine ⟨p2,rfl,⟨_,SqL.of g9⟩,for_list (K:=K) (a:=p2) (xs:=cs.map V.int) (fun i σ H'=>∃ (v3:Option V) (us:List Addr),σ = [some (.ref sa),some (.ref pa),some (.int (n2:Nat)),v3,some (.ref lm),none,none,none,none,none,none,none]/\Same H7 H'/\H' p2 = some (.lst (cs.map V.int))/\H' lm = some (.lst (us.map V.ref))/\(∀ u ∈ us,RM K n2 H' u)/\us.length<=3 * i) ⟨_,[],rfl,s79,g9,g8,(fun u h=>by cases h),Nat.le_refl _⟩ (fun i σ H' _ ⟨_,_,_,_,h,_⟩=>SqL.of h) ?_ ?_⟩
   ·rintro i x σ Ha hx ⟨v3,us2,rfl,sa7,ga9,gal,hR,lus⟩
    obtain ⟨cc,hcc,rfl⟩:=int_get hx
    have hil:i < cs.length:=(List.getElem?_eq_some_iff.mp hcc).1
    refine ⟨_,pss_one (ps_expr (pe_bm PySem.F.plainAttrs_list PySem.F.slot_list_extend PySem.F.type_list_extend mt_extend (pv 4) (ac (pe_lc ["_law_pool_here","_law_many","_law_cell_here"] ["_law_j","_law_cell_here","_law_many","_law_pool_here"] [none,some 3,some 2,some 1] rfl ⟨rfl,rfl,rfl,rfl⟩ (pi_range1 rfl U.range (ac pe_int pa_nil)) (gown_name 0) rfl rfl rfl
     (fun pins fp s H C=>⟨pg_name (i:=0) ndL2 rfl (Or.inl rfl) (.inr rfl),pif_nil,cF cMv hr1 (ac (cF cMx hr1 (ac (pv 1) (ac (pv 0) pa_nil))) (ac (pv 2) (ac (pv 3) pa_nil)))⟩)) pa_nil))),?_⟩
    refine ⟨_,rfl,.inl ⟨rfl,_,SqL.of gal⟩,3,rfl,by decide,by decide,fun D2 hD2=>?_⟩
    refine lc_range (n:=3) (fun i ys H'=>Same Ha H'/\H' D2 = some (.lst ys)/\∃ ws:List Addr,ys = ws.map V.ref/\(∀ u ∈ ws,RM K n2 H' u)/\ws.length = i) ⟨same_new hD2 _,upd_same,[],rfl,(fun u h=>by cases h),rfl⟩ ?_ ?_
    ·rintro k ys H' hk ⟨sH,hDy,ws,rfl,hws,lws⟩
     refine ⟨fun _=>?_,fun e=>Bool.noConfusion e⟩
     refine ⟨_,rfl,_,rfl,cc,_,rfl,_,rfl,_,rfl,_,n2,pa,poolL c1,rfl,sH _ _ (sa7 _ _ hpa),poolL_len c1,fun u m H'' s'' mo ma=>?_⟩
     have hDy:=s'' _ _ hDy
     refine lcN.mk hk (by show 3<=sizeLine; decide) hDy (by rw [List.length_map,lws]; exact Nat.le_refl _) ⟨fun b' u' e=>by rw [upd_ne (ne_of_none e hD2)]; exact s'' _ _ (sH _ _ e),upd_same,ws ++ [u],by rw [List.map_append]; rfl,fun v hv=>?_,by rw [List.length_append,List.length_singleton,lws]⟩
     rcases List.mem_append.mp hv with hv | hv
     ·obtain ⟨m',o',a'⟩:=hws v hv
      exact ⟨m',o',sqT_up (s''.sqT a') hDy⟩
     ·rw [List.mem_singleton.mp hv]
      exact ⟨m,mo,sqT_up ma hDy⟩
    ·rintro ys Hb ⟨sH,hDy,ws,rfl,hws,lws⟩
     have gal:=sH _ _ gal
     refine ⟨lm,D2,_,_,rfl,rfl,gal,hDy,le1000 (by rw [List.length_map,List.length_map]; omega),?_⟩
     have nlm:H7 lm = none:=hlm
     refine ⟨_,us2 ++ ws,rfl,same_out (sa7.trans sH) nlm,by rw [upd_ne np2]; exact sH _ _ ga9,by rw [upd_same,List.map_append],fun v hv=>?_,by rw [List.length_append,lws]; omega⟩
     rcases List.mem_append.mp hv with hv | hv
     ·obtain ⟨m',o',a'⟩:=hR v hv
      exact ⟨m',o',sqT_up (sH.sqT a') gal⟩
     ·obtain ⟨m',o',a'⟩:=hws v hv
      exact ⟨m',o',sqT_up a' gal⟩
   ·rintro σ Ha ⟨v3,us2,rfl,sa7,ga9,gal,hR,lus⟩
    rw [List.length_map] at lus
    exact key2 _ _ ⟨v3,us2,rfl,sa7,gal,hR,by omega⟩
  rintro σ9 H9 ⟨v3,us2,rfl,s9,g9,hR,lus⟩
  refine ⟨_,pss_one (ps_set (i:=4) scLaw.nd rfl (Or.inl rfl) (pe_slice sl_list (pv 4) po_none (po_some pe_int))),?_⟩
  refine ⟨_,rfl,_,rfl,lm,_,rfl,SqL.of g9,fun l2 hl2=>?_⟩
  rw [show cutV (us2.map V.ref) none (some 60) = (us2.take 60).map V.ref from (cut_takeN (n:=60)).trans (List.map_take ..).symm]
  have s10:=same_new hl2 (.lst ((us2.take 60).map V.ref))
  obtain ⟨ms2,hms2,mok2⟩:=mvs_of (K:=K) (n:=n2) (H:=upd H9 l2 (.lst ((us2.take 60).map V.ref))) (us:=us2.take 60) (fun u hu=>by
   obtain ⟨m,o,a⟩:=hR u (List.mem_of_mem_take hu)
   exact ⟨m,o,s10.sqT a⟩)
  exact key _ _ ⟨n2,l2,us2.take 60,ms2,_,rfl,s07.trans (s9.trans s10),(s9.trans s10) _ _ hpa,⟨upd_same,hms2,mok2⟩,by omega,by rw [<- hms2.length,List.length_take]; omega⟩
 clear M0 lms hpa
 rintro σ10 H10 ⟨n,lm,us,ms,v3,rfl,s10,hpa,M,bn,lms⟩
 refine pss_go (ps_for PassesOwn.never rfl (pi_range1 rfl U.range (ac pe_int pa_nil)) (pg_name (i:=5) scLaw.nd rfl (Or.inl rfl)) pss_all) ?_
 refine ⟨4,rfl,by decide,by decide,for_range (n:=4) (fun i σ H'=>∃ (v3 v5 v6 v7 v8 v9 v10 v11:Option V),σ = [some (.ref sa),some (.ref pa),some (.int (n:Nat)),v3,some (.ref lm),v5,v6,v7,v8,v9,v10,v11]/\Same H10 H') ⟨_,_,_,_,_,_,_,_,rfl,Same.refl _⟩ ?_ ?_⟩
 rotate_left
 ·rintro σ H' ⟨_,_,_,_,_,_,_,_,rfl,_⟩
  exact ⟨_,pss_one (ps_ret pe_bl),q _⟩
 rintro i σ H11 hi ⟨v3',v5,v6,v7,v8,v9,v10,v11,rfl,s11⟩
 clear v3
 refine pss_go (ps_set (i:=3) scLaw.nd rfl (Or.inr rfl) (cF cC hr1 (ac (pv 0) (ac (pe_op op_add pe_int (pv 5)) pa_nil)))) ?_
 have ek:(1:Int) + (0 + (i:Int)) = ((1 + i:Nat):Int):=by omega
 refine ⟨_,rfl,_,rfl,_,_,rfl,rfl,sa,ns,1 + i,(by rw [ek]; rfl),(s10.trans s11).seq hS,h63,fun cell H12 s12 hc=>?_⟩
 have s112:=s11.trans s12
 dsimp only [gName]
 refine pss_go (ps_asg (cF cA hr3 (ac (pe_op op_add (pe_op op_mod (pv 3) pe_int) (pe_op op_mul pe_int (pe_op op_fdiv (pv 3) pe_int))) (ac (pe_op op_fdiv (pv 3) pe_int) (ac (pv 1) (ac pe_int pa_nil))))) (pg_tup rfl (pgs_cons (pg_name (i:=6) scLaw.nd rfl (Or.inl rfl)) (pgs_cons (pg_name (i:=7) scLaw.nd rfl (Or.inl rfl)) pgs_nil)))) ?_
 refine ⟨_,rfl,_,_,rfl,rfl,(by show (0:Int) < 7; decide),_,rfl,_,_,rfl,rfl,⟨by decide,by decide⟩,_,_,rfl,rfl,.inl ⟨by decide,by decide⟩,_,_,rfl,rfl,_,rfl,_,_,rfl,rfl,⟨by decide,by decide⟩,_,rfl,cell % 7 + 9 * (cell / 7),cell / 3,pa,7,poolL c1,rfl,s112 _ _ hpa,by decide,by rw [poolL_len]; decide,bits7 (bz hc),Nat.le_trans (PySem.intBits_le_of_natAbs (Int.natAbs_ediv_le_natAbs cell 3) (bz hc)) (by decide),fun p4 H13 s13 hTwo=>?_⟩
 obtain ⟨l3,l4,ws,_,_,_,_,ep4,el3,el4,hws⟩:=hTwo
 have lT:=anyT_len (cell % 7 + 9 * (cell / 7))
 have lP:=anyP_len (cell / 3) (poolL c1) 7
 generalize anyT (cell % 7 + 9 * (cell / 7)) = ts at el3 lT
 generalize anyP (cell / 3) (poolL c1) 7 = ps at hws lP
 have lws:ws.length = ps.length:=by rw [hws.length,List.length_map]
 have s113:=s112.trans s13
 refine ⟨p4,_,rfl,SqT.of ep4,rfl,_,_,rfl,_,_,rfl,rfl,?_⟩
 dsimp only [gName]
 refine pss_go (ps_set (i:=8) scLaw.nd rfl (Or.inl rfl) (cF cI hr2 (ac (pv 6) (ac (pv 7) (ac (pe_op op_fdiv (pv 3) pe_int) pa_nil))))) ?_
 refine ⟨_,rfl,_,rfl,_,rfl,_,_,rfl,rfl,⟨by decide,by decide⟩,l3,l4,cell / 9,ws,ts,ps,rfl,el3,el4,hws,by omega,by omega,fun lc zs H14 s14 nlc hlc hzs=>?_⟩
 obtain ⟨cT1,cP1⟩:=itemsF_laid (cell / 9) ts ps
 have hzs:Paired (Says K T' H14 3) zs ((itemsF (cell / 9) ts ps).map itemD):=Paired.imp' (fun _ _ z=>says_ok (fun _ _ _=>True.intro) z) hzs
 have hct:∀ (l:Addr) (zs':List V) (H':Hp),H' l = some (.lst zs')->Paired (Says K T' H' 3) zs' ((itemsF (cell / 9) ts ps).map itemD)->Says K T' H' 4 (.ref l) (.lst ((itemsF (cell / 9) ts ps).map itemD)):=fun l zs' H' h1 h2=>Says.lst True.intro h1 h2
 generalize hcte:itemsF (cell / 9) ts ps = ct at cT1 cP1 hzs hct
 have cN1:namesOf ct = ps.map (·.1):=by unfold namesOf; rw [cP1]
 have s114:=s113.trans s14
 dsimp only [gName]
 refine pss_go (ps_lc (i:=9) [] ["_law_name","_law_thing_here"] [none,none] scLaw.nd rfl (Or.inl rfl) rfl ⟨rfl,rfl,rfl,rfl⟩ (pi_list (pv 7)) (gown_tup2 (K:=K) (n:=2) 0 1) rfl rfl rfl
   (fun pins fp s H C=>⟨pg_tup rfl (pgs_cons (pg_name (i:=0) ndL3 rfl (Or.inl rfl) (.inr rfl)) (pgs_cons (pg_name (i:=1) ndL3 rfl (Or.inl rfl) (.inr rfl)) pgs_nil)),pif_nil,pv 0⟩)) ?_
 refine ⟨_,rfl,l4,rfl,⟨_,SqL.of (s14 _ _ el4)⟩,fun D hD=>?_⟩
 have hps2:Paired (Says K T' H14 1) ws (ps.map pairD):=pairs_same s14 hws
 refine lc_sel (K:=K) (xs:=ws) ps (fun _=>true) (fun p=>V.str p.1) hD (SqL.of (s14 _ _ el4)) (by omega) (by omega) (fun j x y H' Nn S hx hy sH nn1 ss1=>?_) (fun H15 s15 hD15=>?_)
 ·obtain ⟨d,hd,hyy⟩:=Paired.get hps2 hx
  obtain ⟨pr',hpr,rfl⟩:=pair_get hd
  rw [hpr] at hy
  cases hy
  obtain ⟨b,rfl,hb⟩:=pair_says (hyy.same sH)
  refine ⟨b,_,rfl,hb,rfl,_,_,rfl,_,_,rfl,rfl,?_⟩
  exact ⟨fun _=>⟨_,rfl,nn1 _ (Same.refl _) rfl⟩,fun e=>Bool.noConfusion e⟩
 rw [List.filter_eq_self.mpr (fun _ _=>rfl)] at hD15
 have hD15:H15 D = some (.lst ((namesOf ct).map V.str)):=by rw [hD15,cN1,List.map_map]; rfl
 have s115:=s114.trans s15
 dsimp only [gName]
 refine pss_go (ps_set (i:=10) scLaw.nd rfl (Or.inl rfl) (cTy call_list_of U.list PyProof.Rows.boot_list (ac (pv 4) pa_nil))) ?_
 refine ⟨_,rfl,lm,_,rfl,.inl (SqL.of (s115 _ _ M.l)),fun lh hlh=>?_⟩
 have s16:=same_new hlh (.lst (us.map V.ref))
 have g16:upd H15 lh (.lst (us.map V.ref)) lh = some (.lst (us.map V.ref)):=upd_same
 generalize upd H15 lh (.lst (us.map V.ref)) = H16 at s16 g16 |-
 have s116:=s115.trans s16
 have M16:=M.same s116
 have hD16:=s16 _ _ hD15
 have hlc16:=(s15.trans s16) _ _ hlc
 have hzs16:Paired (Says K T' H16 3) zs (ct.map itemD):=items_same (s15.trans s16) hzs
 have el3':=(s14.trans (s15.trans s16)) _ _ el3
 have el4':=(s14.trans (s15.trans s16)) _ _ el4
 have hws':=pairs_same (s14.trans (s15.trans s16)) hws
 dsimp only [gName]
 clear hD hD15 hlh hlc hzs el3 el4 hws hps2 ep4
 refine pss_go (ps_for PassesOwn.never rfl (pi_list (pe_lst (ac (pv 10) (ac (pe_slice sl_list (pv 10) po_none (po_some (pe_op op_fdiv (cB call_len_seq U.len PySem.boot_len (ac (pv 10) pa_nil)) pe_int))) (ac (pe_listRev rfl rfl U.list rfl hrv (ac (pv 10) pa_nil)) pa_nil))))) (pg_name (i:=11) scLaw.nd rfl (Or.inl rfl)) pss_all) ?_
 refine seq_via (fun σ' H'=>∃ (v11:Option V),σ' = [some (.ref sa),some (.ref pa),some (.int (n:Nat)),some (.int cell),some (.ref lm),some (.int (0 + i:Int)),some (.ref l3),some (.ref l4),some (.ref lc),some (.ref D),some (.ref lh),v11]/\Same H16 H') ?_ (fun key=>?_)
 rotate_left
 ·refine ⟨_,rfl,_,rfl,_,rfl,lh,_,rfl,.inl (SqL.of g16),_,_,rfl,rfl,⟨by decide,by decide⟩,_,rfl,lh,_,rfl,SqL.of g16,fun l2 hl2=>?_⟩
  have ehf:((us.map V.ref).length:Int) / 2 = ((us.length / 2:Nat):Int):=by rw [List.length_map]; omega
  rw [ehf,show cutV (us.map V.ref) none (some ((us.length / 2:Nat):Int)) = (us.take (us.length / 2)).map V.ref from (cut_takeN).trans (List.map_take ..).symm]
  have t1:=same_new hl2 (.lst ((us.take (us.length / 2)).map V.ref))
  have a1:upd H16 l2 (.lst ((us.take (us.length / 2)).map V.ref)) l2 = some (.lst ((us.take (us.length / 2)).map V.ref)):=upd_same
  generalize upd H16 l2 (.lst ((us.take (us.length / 2)).map V.ref)) = G1 at t1 a1 |-
  refine ⟨_,rfl,lh,_,rfl,SqL.of (t1 _ _ g16),by rw [List.length_map,M.p.length]; omega,fun lr hlr=>?_⟩
  rw [<- List.map_reverse]
  have t2:=same_new hlr (.lst (us.reverse.map V.ref))
  have a2:upd G1 lr (.lst (us.reverse.map V.ref)) lr = some (.lst (us.reverse.map V.ref)):=upd_same
  generalize upd G1 lr (.lst (us.reverse.map V.ref)) = G2 at t2 a2 |-
  refine ⟨(by show 3<=sizeLine; decide),fun lz hlz=>?_⟩
  have t3:=same_new hlz (.lst [.ref lh,.ref l2,.ref lr])
  have a3:upd G2 lz (.lst [.ref lh,.ref l2,.ref lr]) lz = some (.lst [.ref lh,.ref l2,.ref lr]):=upd_same
  generalize upd G2 lz (.lst [.ref lh,.ref l2,.ref lr]) = G3 at t3 a3 |-
  have t13:=t1.trans (t2.trans t3)
  have MG:=M16.same t13
  have each:∀ (k:Nat) x,([.ref lh,.ref l2,.ref lr]:List V)[k]? = some x->∃ a us' ms',x = .ref a/\MvsAt K G3 a n us' ms'/\ms'.length<=100:=fun k x hx=>by
   match k,hx with
   | 0,hx=>cases hx; exact ⟨lh,us,ms,rfl,⟨t13 _ _ g16,MG.p,MG.o⟩,by omega⟩
   | 1,hx=>cases hx; exact ⟨l2,_,ms.take (us.length / 2),rfl,⟨(t2.trans t3) _ _ a1,pairedTake MG.p _,fun m hm=>MG.o m (List.mem_of_mem_take hm)⟩,by rw [List.length_take]; omega⟩
   | 2,hx=>cases hx; exact ⟨lr,_,ms.reverse,rfl,⟨t3 _ _ a2,pairedRev MG.p,fun m hm=>MG.o m (List.mem_reverse.mp hm)⟩,by rw [List.length_reverse]; omega⟩
   | k + 3,hx=>cases hx
  refine ⟨lz,rfl,⟨_,SqL.of a3⟩,for_list (K:=K) (a:=lz) (xs:=[.ref lh,.ref l2,.ref lr]) (fun k σ H'=>∃ v11:Option V,σ = [some (.ref sa),some (.ref pa),some (.int (n:Nat)),some (.int cell),some (.ref lm),some (.int (0 + i:Int)),some (.ref l3),some (.ref l4),some (.ref lc),some (.ref D),some (.ref lh),v11]/\Same G3 H') ⟨_,rfl,Same.refl _⟩ (fun k σ H' _ ⟨_,_,h⟩=>SqL.of (h _ _ a3)) ?_ ?_⟩
  ·rintro k x σ G4 hx ⟨v11',rfl,t4⟩
   obtain ⟨a,us',ms',rfl,Ma,la⟩:=each k x hx
   have t14:=t13.trans t4
   have Ma:=Ma.same t4
   refine ⟨_,pss_one (ps_if (pt_not (pt_val (cF cR hr (ac (pv 2) (ac (pv 11) (ac (pv 8) (ac (cB call_len_seq U.len PySem.boot_len (ac (pv 6) pa_nil)) (ac (pv 9) pa_nil)))))))) (pss_one ps_dead) pss_nil),?_⟩
   refine ⟨_,rfl,_,rfl,_,rfl,_,rfl,l3,_,rfl,.inl (SqL.of (t14 _ _ el3')),_,rfl,a,lc,D,n,us',ms',zs,ct,(by rw [List.length_map,cT1]; rfl),Ma.l,Ma.p,Ma.o,bn,SqL.of (t14 _ _ hlc16),items_same t14 hzs16,by rw [cT1]; omega,by rw [cP1]; omega,t14 _ _ hD16,la,fun H' s'=>⟨_,rfl,?_⟩⟩
   refine iteF ?_
   exact ⟨_,rfl,t4.trans s'⟩
  ·rintro σ G4 ⟨v11',rfl,t4⟩
   exact key _ _ ⟨_,rfl,t13.trans t4⟩
 rintro σ17 H17 ⟨v11',rfl,s17⟩
 refine ⟨_,pss_one (ps_if (PW.pt (pw_or (pt_cmpR (op_neS hU) (pv 10) (pv 4) (nomark _)) (pw_or1 (pt_cmpR (op_neS hU) (pv 8) (cF cI hr2 (ac (pv 6) (ac (pv 7) (ac (pe_op op_fdiv (pv 3) pe_int) pa_nil)))) (nomark _))))) (pss_one ps_dead) pss_nil),?_⟩
 refine ⟨_,rfl,_,rfl,lh,lm,1,.lst (ms.map mvD),fun _=>True,fun _=>True,rfl,rfl,by decide,Says.lst True.intro (s17 _ _ g16) (mvs_to (M16.same s17).p),Says.lst True.intro (M16.same s17).l (mvs_to (M16.same s17).p),_,rfl,?_⟩
 refine iteF ?_
 refine ⟨_,rfl,_,rfl,_,rfl,_,rfl,_,_,rfl,rfl,⟨by decide,by decide⟩,l3,l4,cell / 9,ws,ts,ps,rfl,s17 _ _ el3',s17 _ _ el4',pairs_same s17 hws',by omega,by omega,fun lc2 zs2 H18 s18 nlc2 hlc2 hzs2=>?_⟩
 rw [hcte] at hzs2
 have hzs2:Paired (Says K T' H18 3) zs2 (ct.map itemD):=Paired.imp' (fun _ _ z=>says_ok (fun _ _ _=>True.intro) z) hzs2
 refine ⟨lc,lc2,3,.lst (ct.map itemD),fun _=>True,fun _=>True,rfl,rfl,by decide,hct lc zs H18 ((s17.trans s18) _ _ hlc16) (items_same (s17.trans s18) hzs16),hct lc2 zs2 H18 hlc2 hzs2,_,rfl,?_⟩
 refine iteF ?_
 exact ⟨_,_,_,_,_,_,_,_,rfl,s116.trans (s17.trans s18)⟩
end
end K52
namespace L2
open PySem PySem.Spec PyProof.Rows
section
variable {P:Program} {w:World} {K:PySem.W.Frag} {mg:Str->Option Value} {base h:Heap} {x q p p2 p3 p4 p5:Str} {st:Stmt} {f C T:Addr} {fd:FuncData} {sp:Sp} {k n:Nat}
structure TB (P:Program) (w:World) (K:PySem.W.Frag) (mg:Str->Option Value) (base:Heap):Prop where
 mgo:∀ {x:Str} {v:Value},PySem.W.nsIn K mainGlobals x = some (some v)->mg x = some v
structure GD (K:PySem.W.Frag) (x:Str) (st:Stmt) (f:Addr) (fd:FuncData):Prop where
 a:PySem.W.nsIn K mainGlobals x = some (some (.ref f))
 F:Fun K x x st f fd
structure MD (K:PySem.W.Frag) (C:Addr) (x q:Str) (st:Stmt) (f:Addr) (fd:FuncData):Prop where
 m:Meth K C x f
 F:Fun K x q st f fd
structure CD (K:PySem.W.Frag) (x:Str) (C:Addr):Prop where
 a:PySem.W.nsIn K mainGlobals x = some (some (.ref C))
 c:Cls K C
 ms:PySem.W.makesIn K C = true
 kc:PySem.W.keepIn K (.ref C) = true
theorem gd_mk {oc:Value} {od an:Option Addr} {osl:Array (Option Value)} {kV doc pm cdv ct:Value} (a:PySem.W.nsIn K mainGlobals x = some (some (.ref f))) (l:K.lookup f = some ⟨oc,od,.func (PySem.W.fnOf x x (defArgs st) (defBody st) (defScope st) .none kV doc pm an cdv ct),osl⟩)
  (c:PySem.W.codeIn K cdv x = true) (k:PySem.W.keepIn K (.ref f) = true):GD K x st f (PySem.W.fnOf x x (defArgs st) (defBody st) (defScope st) .none kV doc pm an cdv ct):=⟨a,fun_mk l c k⟩
theorem md_mk {oc:Value} {od an:Option Addr} {osl:Array (Option Value)} {kV doc pm cdv ct:Value} (a:PySem.W.findIn K (.ref C) x = some (some (.ref f))) (i:PySem.W.isFn K (.ref f) = true) (l:K.lookup f = some ⟨oc,od,.func (PySem.W.fnOf x q (defArgs st) (defBody st) (defScope st) .none kV doc pm an cdv ct),osl⟩)
  (c:PySem.W.codeIn K cdv q = true) (k:PySem.W.keepIn K (.ref f) = true):MD K C x q st f (PySem.W.fnOf x q (defArgs st) (defBody st) (defScope st) .none kV doc pm an cdv ct):=⟨⟨a,i,k⟩,fun_mk l c k⟩
theorem cd_mk (a:PySem.W.nsIn K mainGlobals x = some (some (.ref C))) (pg:PySem.W.plainGet K C Str.empty = true) (hd:PySem.W.hasDictIn K C = true) (po:PySem.W.plainOver K C = true) (sa:PySem.W.findIn K (.ref C) "__setattr__" = some (some (.builtin "object.__setattr__"))) (mk:PySem.W.makesIn K C = true) (kc:PySem.W.keepIn K (.ref C) = true):CD K x C:=⟨a,⟨pg,hd,po,sa⟩,mk,kc⟩
theorem Fun.b1 (F:Fun K x q st f fd) (h:∀ (kV doc pm:Value) (an:Option Addr) (cdv ct u:Value),bindArgs (PySem.W.fnOf x q (defArgs st) (defBody st) (defScope st) .none kV doc pm an cdv ct) ⟨[u],[]⟩ = pure [(p,u)]:=by intros; rfl):Binds K fd [p] []:=
 F.binds fun _ _ _ _ _ _ us hl=>match us,hl with | [_],_=>h _ _ _ _ _ _ _
theorem Fun.b2 (F:Fun K x q st f fd) (h:∀ (kV doc pm:Value) (an:Option Addr) (cdv ct u u2:Value),bindArgs (PySem.W.fnOf x q (defArgs st) (defBody st) (defScope st) .none kV doc pm an cdv ct) ⟨[u,u2],[]⟩ = pure [(p,u),(p2,u2)]:=by intros; rfl):Binds K fd [p,p2] []:=
 F.binds fun _ _ _ _ _ _ us hl=>match us,hl with | [_,_],_=>h _ _ _ _ _ _ _ _
theorem Fun.b3 (F:Fun K x q st f fd) (h:∀ (kV doc pm:Value) (an:Option Addr) (cdv ct u u2 u3:Value),bindArgs (PySem.W.fnOf x q (defArgs st) (defBody st) (defScope st) .none kV doc pm an cdv ct) ⟨[u,u2,u3],[]⟩ = pure [(p,u),(p2,u2),(p3,u3)]:=by intros; rfl):Binds K fd [p,p2,p3] []:=
 F.binds fun _ _ _ _ _ _ us hl=>match us,hl with | [_,_,_],_=>h _ _ _ _ _ _ _ _ _
theorem Fun.b4 (F:Fun K x q st f fd) (h:∀ (kV doc pm:Value) (an:Option Addr) (cdv ct u u2 u3 u4:Value),bindArgs (PySem.W.fnOf x q (defArgs st) (defBody st) (defScope st) .none kV doc pm an cdv ct) ⟨[u,u2,u3,u4],[]⟩ = pure [(p,u),(p2,u2),(p3,u3),(p4,u4)]:=by intros; rfl):Binds K fd [p,p2,p3,p4] []:=
 F.binds fun _ _ _ _ _ _ us hl=>match us,hl with | [_,_,_,_],_=>h _ _ _ _ _ _ _ _ _ _
theorem Fun.b5 (F:Fun K x q st f fd) (h:∀ (kV doc pm:Value) (an:Option Addr) (cdv ct u u2 u3 u4 u5:Value),bindArgs (PySem.W.fnOf x q (defArgs st) (defBody st) (defScope st) .none kV doc pm an cdv ct) ⟨[u,u2,u3,u4,u5],[]⟩ = pure [(p,u),(p2,u2),(p3,u3),(p4,u4),(p5,u5)]:=by intros; rfl):Binds K fd [p,p2,p3,p4,p5] []:=
 F.binds fun _ _ _ _ _ _ us hl=>match us,hl with | [_,_,_,_,_],_=>h _ _ _ _ _ _ _ _ _ _ _
theorem GD.c1 (g:GD K x st f fd) (B:TB P w K mg base) (ok:FnOk P w K mg base CX0 k f fd [p] sp) (h:∀ (kV doc pm:Value) (an:Option Addr) (cdv ct u:Value),bindArgs (PySem.W.fnOf x x (defArgs st) (defBody st) (defScope st) .none kV doc pm an cdv ct) ⟨[u],[]⟩ = pure [(p,u)]:=by intros; rfl):Callee P w K mg base k x f fd [p] sp:=⟨ok,B.mgo g.a,g.F.kp,g.F.b1 h⟩
theorem GD.c2 (g:GD K x st f fd) (B:TB P w K mg base) (ok:FnOk P w K mg base CX0 k f fd [p,p2] sp) (h:∀ (kV doc pm:Value) (an:Option Addr) (cdv ct u u2:Value),bindArgs (PySem.W.fnOf x x (defArgs st) (defBody st) (defScope st) .none kV doc pm an cdv ct) ⟨[u,u2],[]⟩ = pure [(p,u),(p2,u2)]:=by intros; rfl):Callee P w K mg base k x f fd [p,p2] sp:=⟨ok,B.mgo g.a,g.F.kp,g.F.b2 h⟩
theorem GD.c3 (g:GD K x st f fd) (B:TB P w K mg base) (ok:FnOk P w K mg base CX0 k f fd [p,p2,p3] sp) (h:∀ (kV doc pm:Value) (an:Option Addr) (cdv ct u u2 u3:Value),bindArgs (PySem.W.fnOf x x (defArgs st) (defBody st) (defScope st) .none kV doc pm an cdv ct) ⟨[u,u2,u3],[]⟩ = pure [(p,u),(p2,u2),(p3,u3)]:=by intros; rfl):Callee P w K mg base k x f fd [p,p2,p3] sp:=⟨ok,B.mgo g.a,g.F.kp,g.F.b3 h⟩
theorem GD.c4 (g:GD K x st f fd) (B:TB P w K mg base) (ok:FnOk P w K mg base CX0 k f fd [p,p2,p3,p4] sp) (h:∀ (kV doc pm:Value) (an:Option Addr) (cdv ct u u2 u3 u4:Value),bindArgs (PySem.W.fnOf x x (defArgs st) (defBody st) (defScope st) .none kV doc pm an cdv ct) ⟨[u,u2,u3,u4],[]⟩ = pure [(p,u),(p2,u2),(p3,u3),(p4,u4)]:=by intros; rfl):Callee P w K mg base k x f fd [p,p2,p3,p4] sp:=⟨ok,B.mgo g.a,g.F.kp,g.F.b4 h⟩
theorem GD.c5 (g:GD K x st f fd) (B:TB P w K mg base) (ok:FnOk P w K mg base CX0 k f fd [p,p2,p3,p4,p5] sp) (h:∀ (kV doc pm:Value) (an:Option Addr) (cdv ct u u2 u3 u4 u5:Value),bindArgs (PySem.W.fnOf x x (defArgs st) (defBody st) (defScope st) .none kV doc pm an cdv ct) ⟨[u,u2,u3,u4,u5],[]⟩ = pure [(p,u),(p2,u2),(p3,u3),(p4,u4),(p5,u5)]:=by intros; rfl):Callee P w K mg base k x f fd [p,p2,p3,p4,p5] sp:=⟨ok,B.mgo g.a,g.F.kp,g.F.b5 h⟩
theorem GD.law (g:GD K x st f fd) (h:∀ (kV doc pm:Value) (an:Option Addr) (cdv ct u:Value),bindArgs (PySem.W.fnOf x x (defArgs st) (defBody st) (defScope st) .none kV doc pm an cdv ct) ⟨[u],[]⟩ = pure [(p,u)]:=by intros; rfl):∀ (s:Shared) (v:Value),BindsTo s fd ⟨[v],[]⟩ [(p,v)]:=by
 obtain ⟨oc,od,kV,doc,pm,an,cdv,ct,osl,rfl,lk,hcd⟩:=g.F.ex
 exact fun s v=>.of_eq (h kV doc pm an cdv ct v)
end
end L2
def PySem.W.Fast.tw5033931500347097744:Unit:=()
def PySem.W.Fast.tw7466620272218659107:Unit:=()
def PySem.W.Fast.tw15470355147174959932:Unit:=()
def PySem.W.Fast.tw8426895216485358266:Unit:=()
def PySem.W.Fast.tw497994590389529848:Unit:=()
def PySem.W.Fast.tw324479413759496524:Unit:=()
def PySem.W.Fast.tw7843598912169264256:Unit:=()
def PySem.W.Fast.tw14025636774051138121:Unit:=()
def PySem.W.Fast.tw15054921743189847186:Unit:=()
def PySem.W.Fast.tw15521476721485816078:Unit:=()
def PySem.W.Fast.tw11514448537425538198:Unit:=()
def PySem.W.Fast.tw1867332068354487662:Unit:=()
def PySem.W.Fast.tw6844687218497427035:Unit:=()
def PySem.W.Fast.tw16210770104973099388:Unit:=()
def PySem.W.Fast.tw15323484641055214221:Unit:=()
def PySem.W.Fast.tw16113717810410687754:Unit:=()
def PySem.W.Fast.tw16722030466326741938:Unit:=()
def PySem.W.Fast.tw14140024066869193263:Unit:=()
def PySem.W.Fast.tw11750897539952218008:Unit:=()
def PySem.W.Fast.tw18158718067849671537:Unit:=()
def PySem.W.Fast.tw15628921992132156381:Unit:=()
def PySem.W.Fast.tw7169573073130005757:Unit:=()
def PySem.W.Fast.tw14890475364498985939:Unit:=()
def PySem.W.Fast.tw11570009299316590366:Unit:=()
def PySem.W.Fast.tw2517704806745521467:Unit:=()
def PySem.W.Fast.tw6314473512535388305:Unit:=()
def PySem.W.Fast.tw13037410240267985390:Unit:=()
def PySem.W.Fast.tw7745280492266741619:Unit:=()
def PySem.W.Fast.tw4824231074786238341:Unit:=()
def PySem.W.Fast.tw2759210155829243960:Unit:=()
def PySem.W.Fast.tw10702675955673665370:Unit:=()
def PySem.W.Fast.tw2798868566555913934:Unit:=()
def PySem.W.Fast.tw13627935290669495464:Unit:=()
def PySem.W.Fast.tw6928190682504541887:Unit:=()
def PySem.W.Fast.tw6815942629592584479:Unit:=()
def PySem.W.Fast.tw16464892993558059853:Unit:=()
def PySem.W.Fast.tw4680895459888189780:Unit:=()
def PySem.W.Fast.tw6610447279231147737:Unit:=()
def PySem.W.Fast.tw10579541892920827394:Unit:=()
def PySem.W.Fast.tw11932191571497143163:Unit:=()
def PySem.W.Fast.tw5726101532034238541:Unit:=()
def PySem.W.Fast.tw1136745812508796046:Unit:=()
def PySem.W.Fast.tw14853476242888099609:Unit:=()
def PySem.W.Fast.tw4919032733073753159:Unit:=()
def PySem.W.Fast.tw14645523820340082514:Unit:=()
def PySem.W.Fast.tw17131586585070086891:Unit:=()
def PySem.W.Fast.tw10469401686192642043:Unit:=()
def PySem.W.Fast.tw8334530507273271853:Unit:=()
def PySem.W.Fast.tw5851709243626149222:Unit:=()
def PySem.W.Fast.tw13330266196211000402:Unit:=()
def PySem.W.Fast.tw975781708456925360:Unit:=()
def PySem.W.Fast.tw11577363831800394678:Unit:=()
def PySem.W.Fast.tw13761334717394426530:Unit:=()
def PySem.W.Fast.tw9268317083410775582:Unit:=()
def PySem.W.Fast.tw5741910975537635407:Unit:=()
def PySem.W.Fast.tw6893799921142125901:Unit:=()
def PySem.W.Fast.tw12946806305015668027:Unit:=()
def PySem.W.Fast.tw4075873404672780159:Unit:=()
def PySem.W.Fast.tw17935438336147273111:Unit:=()
namespace K52
open PySem L2 PyProof.Rows
theorem ktab_deeds {w:World} {K:PySem.W.Frag} {Da:Addr} {es:Array DictEntry} {n:Nat} {ad:Nat->Addr} (hl:K.lookup Da = some ⟨.type "dict",none,.dict es n,#[]⟩) (hk:PySem.W.KeysLit w.params es.toList) (h:∀ i,i < 8->PySem.W.nsIn K Da (wdM i) = some (some (.ref (ad i)))):KTab w K Da (deedT ad):=by
 refine ⟨⟨es,n,hl,hk⟩,fun x v hx=>?_⟩
 unfold deedT at hx
 cases e:(List.range 8).find? fun i=>decide (wdM i = x) with
 | none=>rw [e] at hx; cases hx
 | some i=>
  rw [e] at hx
  cases hx
  have h1:=List.mem_range.mp (List.mem_of_find?_eq_some e)
  have h2:wdM i = x:=by simpa using List.find?_some e
  rw [<- h2]
  exact ⟨_,h i h1,rfl⟩
theorem all_mk {l:PySem.W.OpenLaw} {w:World} {K:PySem.W.Frag} {h:Heap} {mg:Str->Option Value} {fa Da CW f1 f2 f3 f4 f5 f6 f7 f8 f9 f10 f11 f12 f13 f14 f15 f16 f17 f18 f19 f20 f21 f22 f23 f24 f25 f26 f27 f28 f29 f30 f31 CE E0 E1 E2 E3 E4 E5 E6 E7 E8 E9 E10 E11 E12 E13 E14 E15:Addr} {e1 e2 e3 e4 e5 e6 e7 e8 e9 e10 e11 e12 e13 e14 e15 e16 e17 e18 e19 e20 e21 e22 e23 e24 e25 e26 e27 e28 e29 e30 e31:FuncData} {nD:Nat} {esD:Array DictEntry} (X:K.In h) (G:h.Ns mainGlobals mg) (hfa:mg "law" = some (.ref fa))
  (cCW:CD K "Work" CW)
  (nCW:PySem.W.findIn K (.ref CW) "entries" = some none/\PySem.W.findIn K (.ref CW) "unused_places" = some none/\PySem.W.findIn K (.ref CW) "names" = some none/\PySem.W.findIn K (.ref CW) "unused_names" = some none/\PySem.W.findIn K (.ref CW) "doors" = some none/\PySem.W.findIn K (.ref CW) "barred" = some none)
  (yM:PySem.W.nsIn K mainGlobals "Misfit" = some (some (.ref E15)))
  (g1:MD K E15 "__init__" "Misfit.__init__" sXMis f1 e1)
  (g2:MD K CW "__init__" "Work.__init__" sWInit f2 e2)
  (g3:GD K "do_take" sTake f3 e3)
  (g4:GD K "do_gather" sGather f4 e4)
  (g5:GD K "do_end" sEnd f5 e5)
  (g6:GD K "do_door" sDoor f6 e6)
  (g7:GD K "do_bar" sBar f7 e7)
  (g8:GD K "do_names" sNames f8 e8)
  (g9:GD K "do_need" sNeed f9 e9)
  (g10:GD K "do_free" sDFree f10 e10)
  (g11:GD K "laid" sLaid f11 e11)
  (g12:GD K "shape" sShape f12 e12)
  (g13:GD K "refuse_doubled" sRDbl f13 e13)
  (g14:GD K "lead" sLead f14 e14)
  (g15:GD K "bound" sBound f15 e15)
  (g16:GD K "_law_cell" sCell f16 e16)
  (g17:GD K "_law_is_int" sIsInt f17 e17)
  (g18:GD K "_law_mix" sMix f18 e18)
  (g19:GD K "_law_pool" sPool f19 e19)
  (g20:GD K "_law_thing" sThing f20 e20)
  (g21:GD K "_law_items" sItems f21 e21)
  (g22:GD K "_law_any" sAny f22 e22)
  (g23:GD K "_law_through" sThrough f23 e23)
  (g24:GD K "_law_step" sStep f24 e24)
  (g25:GD K "_law_run" sRun f25 e25)
  (g26:GD K "_law_words" sWords f26 e26)
  (g27:GD K "_law_said" sSaid f27 e27)
  (g28:GD K "_law_move" sMove f28 e28)
  (g29:GD K "_law_plain" sPlain f29 e29)
  (g30:GD K "_law_right" sRight f30 e30)
  (g31:GD K "law" sLaw f31 e31)
  (zisinstance:PySem.W.nsIn K mainGlobals "isinstance" = some none)
  (zstr:PySem.W.nsIn K mainGlobals "str" = some none)
  (zbool:PySem.W.nsIn K mainGlobals "bool" = some none)
  (zlen:PySem.W.nsIn K mainGlobals "len" = some none)
  (zrange:PySem.W.nsIn K mainGlobals "range" = some none)
  (zlist:PySem.W.nsIn K mainGlobals "list" = some none)
  (zenumerate:PySem.W.nsIn K mainGlobals "enumerate" = some none)
  (zmin:PySem.W.nsIn K mainGlobals "min" = some none)
  (zmax:PySem.W.nsIn K mainGlobals "max" = some none)
  (zint:PySem.W.nsIn K mainGlobals "int" = some none)
  (ztuple:PySem.W.nsIn K mainGlobals "tuple" = some none)
  (zreversed:PySem.W.nsIn K mainGlobals "reversed" = some none)
  (zValueError:PySem.W.nsIn K mainGlobals "ValueError" = some none)
  (yDa:PySem.W.nsIn K mainGlobals "DEEDS" = some (some (.ref Da)))
  (lDa:K.lookup Da = some ⟨.type "dict",none,.dict esD nD,#[]⟩)
  (kDa:PySem.W.KeysLit w.params esD.toList)
  (eD0:PySem.W.nsIn K Da "take" = some (some (.ref f3)))
  (eD1:PySem.W.nsIn K Da "gather" = some (some (.ref f4)))
  (eD2:PySem.W.nsIn K Da "end" = some (some (.ref f5)))
  (eD3:PySem.W.nsIn K Da "door" = some (some (.ref f6)))
  (eD4:PySem.W.nsIn K Da "bar" = some (some (.ref f7)))
  (eD5:PySem.W.nsIn K Da "names" = some (some (.ref f8)))
  (eD6:PySem.W.nsIn K Da "need" = some (some (.ref f9)))
  (eD7:PySem.W.nsIn K Da "free" = some (some (.ref f10)))
  (yCE:PySem.W.nsIn K mainGlobals "CallError" = some (some (.ref CE)))
  (xg:PySem.W.specialIn K (.builtin "object.__class__") "__get__" = some (some (.builtin "getset_descriptor.__get__"))/\PySem.W.takesIn K (.builtin "object.__class__") = some true)
  (yE0:PySem.W.nsIn K mainGlobals "NoName" = some (some (.ref E0)))
  (yE1:PySem.W.nsIn K mainGlobals "TooMany" = some (some (.ref E1)))
  (yE2:PySem.W.nsIn K mainGlobals "BadOrder" = some (some (.ref E2)))
  (yE3:PySem.W.nsIn K mainGlobals "Twice" = some (some (.ref E3)))
  (yE4:PySem.W.nsIn K mainGlobals "NoChange" = some (some (.ref E4)))
  (yE5:PySem.W.nsIn K mainGlobals "NoDefault" = some (some (.ref E5)))
  (yE6:PySem.W.nsIn K mainGlobals "NoText" = some (some (.ref E6)))
  (yE7:PySem.W.nsIn K mainGlobals "NoRow" = some (some (.ref E7)))
  (yE8:PySem.W.nsIn K mainGlobals "Unknown" = some (some (.ref E8)))
  (yE9:PySem.W.nsIn K mainGlobals "Doubled" = some (some (.ref E9)))
  (yE10:PySem.W.nsIn K mainGlobals "Over" = some (some (.ref E10)))
  (yE11:PySem.W.nsIn K mainGlobals "Barred" = some (some (.ref E11)))
  (yE12:PySem.W.nsIn K mainGlobals "Again" = some (some (.ref E12)))
  (yE13:PySem.W.nsIn K mainGlobals "Strange" = some (some (.ref E13)))
  (yE14:PySem.W.nsIn K mainGlobals "Lacking" = some (some (.ref E14)))
  (ec9:(PySem.W.clsIn K E9).isSome = true/\L2.xmIn K E9 = true/\L2.xtIn K E9 = true)
  (ec10:(PySem.W.clsIn K E10).isSome = true/\L2.xmIn K E10 = true/\L2.xtIn K E10 = true)
  (ec11:(PySem.W.clsIn K E11).isSome = true/\L2.xmIn K E11 = true/\L2.xtIn K E11 = true)
  (ec12:(PySem.W.clsIn K E12).isSome = true/\L2.xmIn K E12 = true/\L2.xtIn K E12 = true)
  (ec13:(PySem.W.clsIn K E13).isSome = true/\L2.xmIn K E13 = true/\L2.xtIn K E13 = true)
  (ec14:(PySem.W.clsIn K E14).isSome = true/\L2.xmIn K E14 = true/\L2.xtIn K E14 = true)
  (ea9:PySem.W.findIn K (.ref E9) "__getattribute__" = some (some (.builtin "BaseException.__getattribute__"))/\PySem.W.findIn K (.ref E9) "__getattr__" = some none/\PySem.W.findIn K (.ref E9) "__class__" = some (some (.builtin "object.__class__"))/\PySem.W.mroIn K E9 (.type "BaseException") = some true/\PySem.W.mroIn K E9 (.type "object") = some true/\PySem.W.keepIn K (.ref E9) = true/\PySem.W.findIn K (.ref E9) "__init__" = some (some (.ref f1))/\PySem.W.specialIn K (.ref E9) "__call__" = some (some (.builtin "type.__call__"))/\PySem.W.instIn K (.ref E9) (.type "type") = some true/\PySem.W.findIn K (.ref E9) "__setattr__" = some (some (.builtin "object.__setattr__"))/\PySem.W.findIn K (.ref E9) "number" = some none)
  (ea10:PySem.W.findIn K (.ref E10) "__getattribute__" = some (some (.builtin "BaseException.__getattribute__"))/\PySem.W.findIn K (.ref E10) "__getattr__" = some none/\PySem.W.findIn K (.ref E10) "__class__" = some (some (.builtin "object.__class__"))/\PySem.W.mroIn K E10 (.type "BaseException") = some true/\PySem.W.mroIn K E10 (.type "object") = some true/\PySem.W.keepIn K (.ref E10) = true/\PySem.W.findIn K (.ref E10) "__init__" = some (some (.ref f1))/\PySem.W.specialIn K (.ref E10) "__call__" = some (some (.builtin "type.__call__"))/\PySem.W.instIn K (.ref E10) (.type "type") = some true/\PySem.W.findIn K (.ref E10) "__setattr__" = some (some (.builtin "object.__setattr__"))/\PySem.W.findIn K (.ref E10) "number" = some none)
  (ea11:PySem.W.findIn K (.ref E11) "__getattribute__" = some (some (.builtin "BaseException.__getattribute__"))/\PySem.W.findIn K (.ref E11) "__getattr__" = some none/\PySem.W.findIn K (.ref E11) "__class__" = some (some (.builtin "object.__class__"))/\PySem.W.mroIn K E11 (.type "BaseException") = some true/\PySem.W.mroIn K E11 (.type "object") = some true/\PySem.W.keepIn K (.ref E11) = true/\PySem.W.findIn K (.ref E11) "__init__" = some (some (.ref f1))/\PySem.W.specialIn K (.ref E11) "__call__" = some (some (.builtin "type.__call__"))/\PySem.W.instIn K (.ref E11) (.type "type") = some true/\PySem.W.findIn K (.ref E11) "__setattr__" = some (some (.builtin "object.__setattr__"))/\PySem.W.findIn K (.ref E11) "number" = some none)
  (ea12:PySem.W.findIn K (.ref E12) "__getattribute__" = some (some (.builtin "BaseException.__getattribute__"))/\PySem.W.findIn K (.ref E12) "__getattr__" = some none/\PySem.W.findIn K (.ref E12) "__class__" = some (some (.builtin "object.__class__"))/\PySem.W.mroIn K E12 (.type "BaseException") = some true/\PySem.W.mroIn K E12 (.type "object") = some true/\PySem.W.keepIn K (.ref E12) = true/\PySem.W.findIn K (.ref E12) "__init__" = some (some (.ref f1))/\PySem.W.specialIn K (.ref E12) "__call__" = some (some (.builtin "type.__call__"))/\PySem.W.instIn K (.ref E12) (.type "type") = some true/\PySem.W.findIn K (.ref E12) "__setattr__" = some (some (.builtin "object.__setattr__"))/\PySem.W.findIn K (.ref E12) "number" = some none)
  (ea13:PySem.W.findIn K (.ref E13) "__getattribute__" = some (some (.builtin "BaseException.__getattribute__"))/\PySem.W.findIn K (.ref E13) "__getattr__" = some none/\PySem.W.findIn K (.ref E13) "__class__" = some (some (.builtin "object.__class__"))/\PySem.W.mroIn K E13 (.type "BaseException") = some true/\PySem.W.mroIn K E13 (.type "object") = some true/\PySem.W.keepIn K (.ref E13) = true/\PySem.W.findIn K (.ref E13) "__init__" = some (some (.ref f1))/\PySem.W.specialIn K (.ref E13) "__call__" = some (some (.builtin "type.__call__"))/\PySem.W.instIn K (.ref E13) (.type "type") = some true/\PySem.W.findIn K (.ref E13) "__setattr__" = some (some (.builtin "object.__setattr__"))/\PySem.W.findIn K (.ref E13) "number" = some none)
  (ea14:PySem.W.findIn K (.ref E14) "__getattribute__" = some (some (.builtin "BaseException.__getattribute__"))/\PySem.W.findIn K (.ref E14) "__getattr__" = some none/\PySem.W.findIn K (.ref E14) "__class__" = some (some (.builtin "object.__class__"))/\PySem.W.mroIn K E14 (.type "BaseException") = some true/\PySem.W.mroIn K E14 (.type "object") = some true/\PySem.W.keepIn K (.ref E14) = true/\PySem.W.findIn K (.ref E14) "__init__" = some (some (.ref f1))/\PySem.W.specialIn K (.ref E14) "__call__" = some (some (.builtin "type.__call__"))/\PySem.W.instIn K (.ref E14) (.type "type") = some true/\PySem.W.findIn K (.ref E14) "__setattr__" = some (some (.builtin "object.__setattr__"))/\PySem.W.findIn K (.ref E14) "number" = some none)
  (k9:PySem.W.kitOne K (.ref E9) (.ref E9) = some true/\PySem.W.kitOne K (.ref E9) (.ref E10) = some false/\PySem.W.kitOne K (.ref E9) (.ref E11) = some false/\PySem.W.kitOne K (.ref E9) (.ref E12) = some false/\PySem.W.kitOne K (.ref E9) (.ref E13) = some false/\PySem.W.kitOne K (.ref E9) (.ref E14) = some false/\PySem.W.kitOne K (.ref E9) (.ref E15) = some true/\PySem.W.kitOne K (.ref E9) (.type "ValueError") = some true/\PySem.W.kitAny K (.ref E9) [.ref E2,.ref E4,.ref E5,.ref E0,.ref E7,.ref E6,.ref E1,.ref E3,.ref E8] = some false)
  (k10:PySem.W.kitOne K (.ref E10) (.ref E9) = some false/\PySem.W.kitOne K (.ref E10) (.ref E10) = some true/\PySem.W.kitOne K (.ref E10) (.ref E11) = some false/\PySem.W.kitOne K (.ref E10) (.ref E12) = some false/\PySem.W.kitOne K (.ref E10) (.ref E13) = some false/\PySem.W.kitOne K (.ref E10) (.ref E14) = some false/\PySem.W.kitOne K (.ref E10) (.ref E15) = some true/\PySem.W.kitOne K (.ref E10) (.type "ValueError") = some true/\PySem.W.kitAny K (.ref E10) [.ref E2,.ref E4,.ref E5,.ref E0,.ref E7,.ref E6,.ref E1,.ref E3,.ref E8] = some false)
  (k11:PySem.W.kitOne K (.ref E11) (.ref E9) = some false/\PySem.W.kitOne K (.ref E11) (.ref E10) = some false/\PySem.W.kitOne K (.ref E11) (.ref E11) = some true/\PySem.W.kitOne K (.ref E11) (.ref E12) = some false/\PySem.W.kitOne K (.ref E11) (.ref E13) = some false/\PySem.W.kitOne K (.ref E11) (.ref E14) = some false/\PySem.W.kitOne K (.ref E11) (.ref E15) = some true/\PySem.W.kitOne K (.ref E11) (.type "ValueError") = some true/\PySem.W.kitAny K (.ref E11) [.ref E2,.ref E4,.ref E5,.ref E0,.ref E7,.ref E6,.ref E1,.ref E3,.ref E8] = some false)
  (k12:PySem.W.kitOne K (.ref E12) (.ref E9) = some false/\PySem.W.kitOne K (.ref E12) (.ref E10) = some false/\PySem.W.kitOne K (.ref E12) (.ref E11) = some false/\PySem.W.kitOne K (.ref E12) (.ref E12) = some true/\PySem.W.kitOne K (.ref E12) (.ref E13) = some false/\PySem.W.kitOne K (.ref E12) (.ref E14) = some false/\PySem.W.kitOne K (.ref E12) (.ref E15) = some true/\PySem.W.kitOne K (.ref E12) (.type "ValueError") = some true/\PySem.W.kitAny K (.ref E12) [.ref E2,.ref E4,.ref E5,.ref E0,.ref E7,.ref E6,.ref E1,.ref E3,.ref E8] = some false)
  (k13:PySem.W.kitOne K (.ref E13) (.ref E9) = some false/\PySem.W.kitOne K (.ref E13) (.ref E10) = some false/\PySem.W.kitOne K (.ref E13) (.ref E11) = some false/\PySem.W.kitOne K (.ref E13) (.ref E12) = some false/\PySem.W.kitOne K (.ref E13) (.ref E13) = some true/\PySem.W.kitOne K (.ref E13) (.ref E14) = some false/\PySem.W.kitOne K (.ref E13) (.ref E15) = some true/\PySem.W.kitOne K (.ref E13) (.type "ValueError") = some true/\PySem.W.kitAny K (.ref E13) [.ref E2,.ref E4,.ref E5,.ref E0,.ref E7,.ref E6,.ref E1,.ref E3,.ref E8] = some false)
  (k14:PySem.W.kitOne K (.ref E14) (.ref E9) = some false/\PySem.W.kitOne K (.ref E14) (.ref E10) = some false/\PySem.W.kitOne K (.ref E14) (.ref E11) = some false/\PySem.W.kitOne K (.ref E14) (.ref E12) = some false/\PySem.W.kitOne K (.ref E14) (.ref E13) = some false/\PySem.W.kitOne K (.ref E14) (.ref E14) = some true/\PySem.W.kitOne K (.ref E14) (.ref E15) = some true/\PySem.W.kitOne K (.ref E14) (.type "ValueError") = some true/\PySem.W.kitAny K (.ref E14) [.ref E2,.ref E4,.ref E5,.ref E0,.ref E7,.ref E6,.ref E1,.ref E3,.ref E8] = some false)
  (em9:PySem.W.exmOne K (.ref E9) (.ref CE) = some true)
  (em10:PySem.W.exmOne K (.ref E10) (.ref CE) = some true)
  (em11:PySem.W.exmOne K (.ref E11) (.ref CE) = some true)
  (em12:PySem.W.exmOne K (.ref E12) (.ref CE) = some true)
  (em13:PySem.W.exmOne K (.ref E13) (.ref CE) = some true)
  (em14:PySem.W.exmOne K (.ref E14) (.ref CE) = some true)
  : ∃ fd:FuncData,(∀ (s:Shared) (v:Value),BindsTo s fd ⟨[v],[]⟩ [("_law_script",v)])/\∀ base:Heap,K.In base->base.Ns mainGlobals mg->FnOk l.prog w K mg base CX0 8 fa fd ["_law_script"] (spLawB K):=by
 have e:=hfa.symm.trans (PySem.W.mg_of X G g31.a)
 cases e
 have no:∀ {x:Str},PySem.W.nsIn K mainGlobals x = some none->mg x = none:=fun z=>PySem.W.mg_none_of X G z
 let cl:Nat->Addr:=fun j=>match j with | 0=>E9 | 1=>E10 | 2=>E11 | 3=>E12 | 4=>E13 | _=>E14
 let oc:Nat->Addr:=fun j=>match j with | 0=>E2 | 1=>E4 | 2=>E5 | 3=>E0 | 4=>E7 | 5=>E6 | 6=>E1 | 7=>E3 | _=>E8
 have ex9:ExcCls K E9:=⟨ec9.1,ea9.1,ea9.2.1,ea9.2.2.1,xg.1,xg.2,ea9.2.2.2.1,ea9.2.2.2.2.1⟩
 have so9:SortW K cl oc E15 CE 0:=⟨ex9,⟨ec9.2.2,ea9.2.2.2.2.2.2.2.2.2.1,ea9.2.2.2.2.1⟩,ea9.2.2.2.2.2.2.2.2.2.2,fun l hl=>match l,hl with | 0,_=>k9.1 | 1,_=>k9.2.1 | 2,_=>k9.2.2.1 | 3,_=>k9.2.2.2.1 | 4,_=>k9.2.2.2.2.1 | 5,_=>k9.2.2.2.2.2.1 | l + 6,h=>absurd h (by omega),k9.2.2.2.2.2.2.2.2,k9.2.2.2.2.2.2.1,k9.2.2.2.2.2.2.2.1,em9⟩
 have ex10:ExcCls K E10:=⟨ec10.1,ea10.1,ea10.2.1,ea10.2.2.1,xg.1,xg.2,ea10.2.2.2.1,ea10.2.2.2.2.1⟩
 have so10:SortW K cl oc E15 CE 1:=⟨ex10,⟨ec10.2.2,ea10.2.2.2.2.2.2.2.2.2.1,ea10.2.2.2.2.1⟩,ea10.2.2.2.2.2.2.2.2.2.2,fun l hl=>match l,hl with | 0,_=>k10.1 | 1,_=>k10.2.1 | 2,_=>k10.2.2.1 | 3,_=>k10.2.2.2.1 | 4,_=>k10.2.2.2.2.1 | 5,_=>k10.2.2.2.2.2.1 | l + 6,h=>absurd h (by omega),k10.2.2.2.2.2.2.2.2,k10.2.2.2.2.2.2.1,k10.2.2.2.2.2.2.2.1,em10⟩
 have ex11:ExcCls K E11:=⟨ec11.1,ea11.1,ea11.2.1,ea11.2.2.1,xg.1,xg.2,ea11.2.2.2.1,ea11.2.2.2.2.1⟩
 have so11:SortW K cl oc E15 CE 2:=⟨ex11,⟨ec11.2.2,ea11.2.2.2.2.2.2.2.2.2.1,ea11.2.2.2.2.1⟩,ea11.2.2.2.2.2.2.2.2.2.2,fun l hl=>match l,hl with | 0,_=>k11.1 | 1,_=>k11.2.1 | 2,_=>k11.2.2.1 | 3,_=>k11.2.2.2.1 | 4,_=>k11.2.2.2.2.1 | 5,_=>k11.2.2.2.2.2.1 | l + 6,h=>absurd h (by omega),k11.2.2.2.2.2.2.2.2,k11.2.2.2.2.2.2.1,k11.2.2.2.2.2.2.2.1,em11⟩
 have ex12:ExcCls K E12:=⟨ec12.1,ea12.1,ea12.2.1,ea12.2.2.1,xg.1,xg.2,ea12.2.2.2.1,ea12.2.2.2.2.1⟩
 have so12:SortW K cl oc E15 CE 3:=⟨ex12,⟨ec12.2.2,ea12.2.2.2.2.2.2.2.2.2.1,ea12.2.2.2.2.1⟩,ea12.2.2.2.2.2.2.2.2.2.2,fun l hl=>match l,hl with | 0,_=>k12.1 | 1,_=>k12.2.1 | 2,_=>k12.2.2.1 | 3,_=>k12.2.2.2.1 | 4,_=>k12.2.2.2.2.1 | 5,_=>k12.2.2.2.2.2.1 | l + 6,h=>absurd h (by omega),k12.2.2.2.2.2.2.2.2,k12.2.2.2.2.2.2.1,k12.2.2.2.2.2.2.2.1,em12⟩
 have ex13:ExcCls K E13:=⟨ec13.1,ea13.1,ea13.2.1,ea13.2.2.1,xg.1,xg.2,ea13.2.2.2.1,ea13.2.2.2.2.1⟩
 have so13:SortW K cl oc E15 CE 4:=⟨ex13,⟨ec13.2.2,ea13.2.2.2.2.2.2.2.2.2.1,ea13.2.2.2.2.1⟩,ea13.2.2.2.2.2.2.2.2.2.2,fun l hl=>match l,hl with | 0,_=>k13.1 | 1,_=>k13.2.1 | 2,_=>k13.2.2.1 | 3,_=>k13.2.2.2.1 | 4,_=>k13.2.2.2.2.1 | 5,_=>k13.2.2.2.2.2.1 | l + 6,h=>absurd h (by omega),k13.2.2.2.2.2.2.2.2,k13.2.2.2.2.2.2.1,k13.2.2.2.2.2.2.2.1,em13⟩
 have ex14:ExcCls K E14:=⟨ec14.1,ea14.1,ea14.2.1,ea14.2.2.1,xg.1,xg.2,ea14.2.2.2.1,ea14.2.2.2.2.1⟩
 have so14:SortW K cl oc E15 CE 5:=⟨ex14,⟨ec14.2.2,ea14.2.2.2.2.2.2.2.2.2.1,ea14.2.2.2.2.1⟩,ea14.2.2.2.2.2.2.2.2.2.2,fun l hl=>match l,hl with | 0,_=>k14.1 | 1,_=>k14.2.1 | 2,_=>k14.2.2.1 | 3,_=>k14.2.2.2.1 | 4,_=>k14.2.2.2.2.1 | 5,_=>k14.2.2.2.2.2.1 | l + 6,h=>absurd h (by omega),k14.2.2.2.2.2.2.2.2,k14.2.2.2.2.2.2.1,k14.2.2.2.2.2.2.2.1,em14⟩
 have so:∀ i,i < 6->SortW K cl oc E15 CE i:=fun i hi=>match i,hi with | 0,_=>so9 | 1,_=>so10 | 2,_=>so11 | 3,_=>so12 | 4,_=>so13 | 5,_=>so14 | l + 6,h=>absurd h (by omega)
 have UW:TxtW mg cl oc E15 CE:=⟨no zisinstance,no zValueError,PySem.W.mg_of X G yM,PySem.W.mg_of X G yCE,PySem.W.mg_of X G yE9,PySem.W.mg_of X G yE10,PySem.W.mg_of X G yE11,PySem.W.mg_of X G yE12,PySem.W.mg_of X G yE13,PySem.W.mg_of X G yE14,PySem.W.mg_of X G yE2,PySem.W.mg_of X G yE4,PySem.W.mg_of X G yE5,PySem.W.mg_of X G yE0,PySem.W.mg_of X G yE7,PySem.W.mg_of X G yE6,PySem.W.mg_of X G yE1,PySem.W.mg_of X G yE3,PySem.W.mg_of X G yE8⟩
 have UL:TxtL mg:=⟨no zlen,no zrange,no zmin,no zmax,no zenumerate,no zlist,no zisinstance,no zbool,no zint⟩
 have T2:Txt2 K mg:=⟨no zisinstance,no zstr,no zbool,no zint,no ztuple,no zlist,no zlen,no zrange,no zenumerate⟩
 have C:WC K CW:=⟨cCW.c,nCW.1,nCW.2.1,nCW.2.2.1,nCW.2.2.2.1,nCW.2.2.2.2.1,nCW.2.2.2.2.2⟩
 let ad:Nat->Addr:=fun j=>match j with | 0=>f3 | 1=>f4 | 2=>f5 | 3=>f6 | 4=>f7 | 5=>f8 | 6=>f9 | _=>f10
 let fds:Nat->FuncData:=fun j=>match j with | 0=>e3 | 1=>e4 | 2=>e5 | 3=>e6 | 4=>e7 | 5=>e8 | 6=>e9 | _=>e10
 have KT:KTab w K Da (deedT ad):=ktab_deeds lDa kDa fun i hi=>match i,hi with | 0,_=>eD0 | 1,_=>eD1 | 2,_=>eD2 | 3,_=>eD3 | 4,_=>eD4 | 5,_=>eD5 | 6,_=>eD6 | 7,_=>eD7 | i + 8,h=>absurd h (by omega)
 refine ⟨_,g31.law,fun base KB GB=>?_⟩
 have B:TB l.prog w K mg base:=⟨fun e=>PySem.W.mg_of X G e⟩
 have B':=B
 have x9:XCls l.prog w K mg base "Doubled" (cl 0) f1 _ "number" "number":=⟨⟨ec9.2.1,ea9.2.2.2.2.2.2.1,g1.m.fn,ea9.2.2.2.2.2.2.2.1,ea9.2.2.2.2.2.2.2.2.1,ea9.2.2.2.2.2.1⟩,⟨ec9.2.2,ea9.2.2.2.2.2.2.2.2.2.1,ea9.2.2.2.2.1⟩,ea9.2.2.2.2.2.2.2.2.2.2,ex9,PySem.W.mg_of X G yE9,ok_xmis g1.F,g1.F.b2⟩
 have x10:XCls l.prog w K mg base "Over" (cl 1) f1 _ "number" "number":=⟨⟨ec10.2.1,ea10.2.2.2.2.2.2.1,g1.m.fn,ea10.2.2.2.2.2.2.2.1,ea10.2.2.2.2.2.2.2.2.1,ea10.2.2.2.2.2.1⟩,⟨ec10.2.2,ea10.2.2.2.2.2.2.2.2.2.1,ea10.2.2.2.2.1⟩,ea10.2.2.2.2.2.2.2.2.2.2,ex10,PySem.W.mg_of X G yE10,ok_xmis g1.F,g1.F.b2⟩
 have x11:XCls l.prog w K mg base "Barred" (cl 2) f1 _ "number" "number":=⟨⟨ec11.2.1,ea11.2.2.2.2.2.2.1,g1.m.fn,ea11.2.2.2.2.2.2.2.1,ea11.2.2.2.2.2.2.2.2.1,ea11.2.2.2.2.2.1⟩,⟨ec11.2.2,ea11.2.2.2.2.2.2.2.2.2.1,ea11.2.2.2.2.1⟩,ea11.2.2.2.2.2.2.2.2.2.2,ex11,PySem.W.mg_of X G yE11,ok_xmis g1.F,g1.F.b2⟩
 have x12:XCls l.prog w K mg base "Again" (cl 3) f1 _ "number" "number":=⟨⟨ec12.2.1,ea12.2.2.2.2.2.2.1,g1.m.fn,ea12.2.2.2.2.2.2.2.1,ea12.2.2.2.2.2.2.2.2.1,ea12.2.2.2.2.2.1⟩,⟨ec12.2.2,ea12.2.2.2.2.2.2.2.2.2.1,ea12.2.2.2.2.1⟩,ea12.2.2.2.2.2.2.2.2.2.2,ex12,PySem.W.mg_of X G yE12,ok_xmis g1.F,g1.F.b2⟩
 have x13:XCls l.prog w K mg base "Strange" (cl 4) f1 _ "number" "number":=⟨⟨ec13.2.1,ea13.2.2.2.2.2.2.1,g1.m.fn,ea13.2.2.2.2.2.2.2.1,ea13.2.2.2.2.2.2.2.2.1,ea13.2.2.2.2.2.1⟩,⟨ec13.2.2,ea13.2.2.2.2.2.2.2.2.2.1,ea13.2.2.2.2.1⟩,ea13.2.2.2.2.2.2.2.2.2.2,ex13,PySem.W.mg_of X G yE13,ok_xmis g1.F,g1.F.b2⟩
 have x14:XCls l.prog w K mg base "Lacking" (cl 5) f1 _ "number" "number":=⟨⟨ec14.2.1,ea14.2.2.2.2.2.2.1,g1.m.fn,ea14.2.2.2.2.2.2.2.1,ea14.2.2.2.2.2.2.2.2.1,ea14.2.2.2.2.2.1⟩,⟨ec14.2.2,ea14.2.2.2.2.2.2.2.2.2.1,ea14.2.2.2.2.1⟩,ea14.2.2.2.2.2.2.2.2.2.2,ex14,PySem.W.mg_of X G yE14,ok_xmis g1.F,g1.F.b2⟩
 have X6:X6 l.prog w K mg base cl f1 _:=⟨x9,x10,x11,x12,x13,x14⟩
 have cLd:CalleeS l.prog w K mg base 3 "lead" f14 _ ["work","q","number"] (spLead CW cl):=⟨ok_lead g14.F C X6,B.mgo g14.a,g14.F.kp,g14.F.b3⟩
 have DD:Deeds l.prog w K mg base (CXs l.prog w) 4 (Fin 8) (fun j=>ad j.val) (fun j=>fds j.val) ["work","move"] (fun j=>spDeed K CW cl j.val):=⟨fun j=>match j with | ⟨0,_⟩=>ok_take g3.F C | ⟨1,_⟩=>ok_gather g4.F C | ⟨2,_⟩=>ok_end g5.F C X6 | ⟨3,_⟩=>ok_door g6.F C | ⟨4,_⟩=>ok_bar g7.F C | ⟨5,_⟩=>ok_names g8.F UL C X6 cLd | ⟨6,_⟩=>ok_need g9.F C X6 | ⟨7,_⟩=>ok_free g10.F C | ⟨j + 8,h⟩=>absurd h (by omega),fun j=>match j with | ⟨0,_⟩=>g3.F.kp | ⟨1,_⟩=>g4.F.kp | ⟨2,_⟩=>g5.F.kp | ⟨3,_⟩=>g6.F.kp | ⟨4,_⟩=>g7.F.kp | ⟨5,_⟩=>g8.F.kp | ⟨6,_⟩=>g9.F.kp | ⟨7,_⟩=>g10.F.kp | ⟨j + 8,h⟩=>absurd h (by omega),fun j=>match j with | ⟨0,_⟩=>g3.F.b2 | ⟨1,_⟩=>g4.F.b2 | ⟨2,_⟩=>g5.F.b2 | ⟨3,_⟩=>g6.F.b2 | ⟨4,_⟩=>g7.F.b2 | ⟨5,_⟩=>g8.F.b2 | ⟨6,_⟩=>g9.F.b2 | ⟨7,_⟩=>g10.F.b2 | ⟨j + 8,h⟩=>absurd h (by omega)⟩
 have cL:=g11.c1 B (ok_laid g11.F)
 have cSh:=g12.c1 B (ok_shape g12.F (no zlen) cL)
 have cRd:CalleeS l.prog w K mg base 3 "refuse_doubled" f13 _ ["names"] (spRDbl cl):=⟨ok_rdbl g13.F UL X6,B.mgo g13.a,g13.F.kp,g13.F.b1⟩
 have GW:FnOk l.prog w K mg base CX0 1 f2 _ ["self","parameter_count","many","names"] (spWInit CW):=ok_winit g2.F UL C
 have cBo:CalleeS l.prog w K mg base 5 "bound" f15 _ ["binder","call"] (spBound K cl):=⟨ok_bound g15.F C cSh cRd ⟨cCW.ms,g2.m.at_,g2.m.fn,cCW.kc⟩ (PySem.W.mg_of X G cCW.a) GW g2.F.b4 KT (PySem.W.mg_of X G yDa) DD,B.mgo g15.a,g15.F.kp,g15.F.b2⟩
 have cC:=g16.c2 B (ok_cell g16.F)
 have cIP:=g17.c1 B (ok_isInt g17.F T2)
 have cMx:=g18.c2 B (ok_mix g18.F)
 have cPl:=g19.c1 B (ok_pool g19.F T2)
 have cTh:=g20.c2 B (ok_thing g20.F cMx)
 have cIt:=g21.c3 B (ok_items g21.F UL cMx)
 have cAn:=g22.c4 B (ok_any g22.F UL cMx cTh)
 have cTr:=g23.c5 B (ok_through g23.F UL)
 have cSt:=g24.c3 B (ok_step g24.F UL)
 have cRn:=g25.c4 B (ok_run g25.F UL cTr cSt)
 have cMv:=g28.c3 B (ok_move g28.F)
 have cPn:=g29.c1 B (ok_plain g29.F UL T2 cIP)
 have cII:CalleeM l.prog w K mg base 1 "_law_is_int" f17 _ ["_law_found"] spIsInt:=⟨ok_isIntM g17.F T2,B.mgo g17.a,g17.F.kp,g17.F.b1⟩
 have cWo:CalleeH l.prog w K mg base 2 "_law_words" f26 _ ["_law_e"] (spWords K cl oc E15 CE):=⟨fun ea=>ok_words g26.F UW cII ea,B.mgo g26.a,g26.F.kp,g26.F.b1⟩
 have cSa:=g27.c2 B (ok_said g27.F UW so cBo cWo)
 have cRi:=g30.c5 B (ok_right g30.F UL cRn cSa cPn)
 exact ok_law g31.F UL (no zreversed) cC cPl cMv cMx cAn cIt cRi
theorem walk {l:PySem.W.OpenLaw} {q:Program} {loose:List Str} {XP:(Str->Option Value)->Heap->Prop} {YP:World->Heap->Prop} {d:DefRec} {K:Params->PySem.W.Frag} (hn:l.most = some 63) (hdf:d.params.defaults = [])
  (hY:∀ (w:World) (h:Heap),YP w h->(K w.params).In h)
  (F:∀ (w:World) (mg:Str->Option Value) (fa:Addr) (h:Heap),(K w.params).In h->h.Ns mainGlobals mg->mg d.name = some (.ref fa)->
   ∃ fd:FuncData,(∀ (s:Shared) (u:Value),BindsTo s fd ⟨[u],[]⟩ [("_law_script",u)])/\∀ base:Heap,(K w.params).In base->base.Ns mainGlobals mg->FnOk l.prog w (K w.params) mg base CX0 8 fa fd ["_law_script"] (spLawB (K w.params))) :
  PySem.W.WalkO q loose XP YP l.row.toRowW d [] (fun f vs=>PySem.call f vs):=
 L2.walk_ofB (n:=63) (k:=8) (x:="_law_script") (CX:=fun _=>CX0) (sp:=fun w=>spLawB (K w.params)) hn (by decide) hdf ⟨rfl,by decide,by decide⟩ hY F (fun _ _ a ns hl hb _ hS=>⟨a,ns,rfl,hS,hl,hb,fun _=>rfl⟩) fun _ _ _ _ _ z=>z
end K52
open PySem PySem.W PyProof.Rows
set_option maxRecDepth 100000 in
set_option maxHeartbeats 0 in
theorem PySem.Challenge.cw_callbinds_k52_moves_done_holds : PySem.Challenge.rw_callbinds_k52_moves_done.Holds := by
 w_on; o_law; k_head; (case hw => w_witness2)
 k_fill
 refine K52.walk (l := PySem.Challenge.rw_callbinds_k52_moves_done) rfl rfl (fun w h Y => PySem.W.kIn_of Y) ?F
 case F =>
  intro w mg fa h KX G hmg
  refine' K52.all_mk KX G hmg ?cCW ?nCW ?yM ?g1 ?g2 ?g3 ?g4 ?g5 ?g6 ?g7 ?g8 ?g9 ?g10 ?g11 ?g12 ?g13 ?g14 ?g15 ?g16 ?g17 ?g18 ?g19 ?g20 ?g21 ?g22 ?g23 ?g24 ?g25 ?g26 ?g27 ?g28 ?g29 ?g30 ?g31 ?zisinstance ?zstr ?zbool ?zlen ?zrange ?zlist ?zenumerate ?zmin ?zmax ?zint ?ztuple ?zreversed ?zValueError ?yDa ?lDa ?kDa ?eD0 ?eD1 ?eD2 ?eD3 ?eD4 ?eD5 ?eD6 ?eD7 ?yCE ?xg ?yE0 ?yE1 ?yE2 ?yE3 ?yE4 ?yE5 ?yE6 ?yE7 ?yE8 ?yE9 ?yE10 ?yE11 ?yE12 ?yE13 ?yE14 ?ec9 ?ec10 ?ec11 ?ec12 ?ec13 ?ec14 ?ea9 ?ea10 ?ea11 ?ea12 ?ea13 ?ea14 ?k9 ?k10 ?k11 ?k12 ?k13 ?k14 ?em9 ?em10 ?em11 ?em12 ?em13 ?em14
  (case cCW => apply L2.cd_mk <;> k_is)
  (case nCW => exact ⟨by k_is, by k_is, by k_is, by k_is, by k_is, by k_is⟩)
  (case yM => k_is)
  (case g1 | g2 => apply L2.md_mk <;> k_is)
  (case g3 | g4 | g5 | g6 | g7 | g8 | g9 | g10 | g11 | g12 | g13 | g14 | g15 | g16 | g17 | g18 | g19 | g20 | g21 | g22 | g23 | g24 | g25 | g26 | g27 | g28 | g29 | g30 | g31 => apply L2.gd_mk <;> k_is)
  (case zisinstance | zstr | zbool | zlen | zrange | zlist | zenumerate | zmin | zmax | zint | ztuple | zreversed | zValueError | yDa | lDa => k_is)
  (case kDa => k_keys)
  (case eD0 | eD1 | eD2 | eD3 | eD4 | eD5 | eD6 | eD7 | yCE => k_is)
  (case xg => exact ⟨by k_is, by k_is⟩)
  (case yE0 | yE1 | yE2 | yE3 | yE4 | yE5 | yE6 | yE7 | yE8 | yE9 | yE10 | yE11 | yE12 | yE13 | yE14 => k_is)
  (case ec9 | ec10 | ec11 | ec12 | ec13 | ec14 => exact ⟨by first | kernel_rfl | exact rfl, by first | kernel_rfl | exact rfl, by first | kernel_rfl | exact rfl⟩)
  (case ea9 | ea10 | ea11 | ea12 | ea13 | ea14 => exact ⟨by k_is, by k_is, by k_is, by k_is, by k_is, by k_is, by k_is, by k_is, by k_is, by k_is, by k_is⟩)
  (case k9 | k10 | k11 | k12 | k13 | k14 => exact ⟨by kit_is, by kit_is, by kit_is, by kit_is, by kit_is, by kit_is, by kit_is, by kit_is, by kit_is⟩)
  (case em9 | em10 | em11 | em12 | em13 | em14 => kts_exm)
#print axioms PySem.Challenge.cw_callbinds_k52_moves_done_holds
