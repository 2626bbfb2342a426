import PyProof.Rows.All
import Wide.All
import OpenK.AllK
import Wide.FinOn
import Lean
import PyProof.EqAt
import PyProof.EqKinds
import PyProof.TupleCall
import KE.KTryMore
import PyProof.ExcAttrAll.ValueError
import KE.KRevIter
import PyProof.SetNew
import PyProof.SetRoads
import PyProof.Rows.SetObj
import PyProof.DictCompW
import PyProof.DictItems
import PyProof.Rows.SetFrom
import PyProof.ListRange
import PyProof.Rows.Range3
import KE.IntBitsLaws
import PyProof.AttrMissHeap
import PyProof.FactsAll.bool_1
import KE.KDictOf
import PyProof.WalkInts
import PyProof.CollectIter
import KE.RegKIsAll
import KE.RegKTryMore
import PySem.Challenge.RW_callbinds_k54_rooms
set_option Elab.async false
set_option linter.all false
set_option maxRecDepth 100000
set_option maxHeartbeats 4000000
namespace L2
open PySem PySem.Spec PyProof.Rows
abbrev Key:=Sum Int Str
def keyIs:Key->Value->Bool
 | .inl k,v=>Value.isInt k v
 | .inr x,v=>Value.isStrOf x v
def keyH (w:World):Key->Int
 | .inl k=>hashInt k
 | .inr x=>hashStr w x
theorem keyIs_shape:∀ {k:Key} {v:Value},keyIs k v = true->(∃ i t,k = Sum.inl i/\v = Value.int i t)\/(∃ x t,k = Sum.inr x/\v = Value.str x t)
 | .inl i,v,h=>by
  obtain ⟨t,e⟩:=Value.isInt_shape (k:=i) (v:=v) h
  exact .inl ⟨i,t,rfl,e⟩
 | .inr x,v,h=>by
  obtain ⟨t,e⟩:=Value.isStrOf_shape (x:=x) (v:=v) h
  exact .inr ⟨x,t,rfl,e⟩
theorem keyIs_int (i:Int) (t:Tok):keyIs (.inl i) (.int i t) = true:=by simp [keyIs,Value.isInt]
theorem keyIs_str (x:Str) (t:Tok):keyIs (.inr x) (.str x t) = true:=by simp [keyIs,Value.isStrOf]
theorem key_ll (a b:Int):decide ((Sum.inl a:Key) = Sum.inl b) = (a == b):=by
 by_cases e:a = b
 ·subst e; simp
 ·have h:¬ (Sum.inl a:Key) = Sum.inl b:=fun q=>e (Sum.inl.inj q)
  rw [decide_eq_false h]
  exact (beq_eq_false_iff_ne.mpr e).symm
theorem key_rr (a b:Str):decide ((Sum.inr a:Key) = Sum.inr b) = decide (a = b):=by
 by_cases e:a = b
 ·subst e; simp
 ·have h:¬ (Sum.inr a:Key) = Sum.inr b:=fun q=>e (Sum.inr.inj q)
  rw [decide_eq_false h,decide_eq_false e]
theorem key_lr (a:Int) (b:Str):decide ((Sum.inl a:Key) = Sum.inr b) = false:=decide_eq_false (fun q=>nomatch q)
theorem key_rl (a:Str) (b:Int):decide ((Sum.inr a:Key) = Sum.inl b) = false:=decide_eq_false (fun q=>nomatch q)
def mixKind (prog:Program) (w:World):PySem.KeyKind prog w Key where
 is:=keyIs
 hash:=keyH w
 inj:=fun v a b ha hb=>by
  rcases keyIs_shape ha with ⟨i,t,rfl,rfl⟩ | ⟨x,t,rfl,rfl⟩
  ·rcases keyIs_shape hb with ⟨j,u,rfl,e⟩ | ⟨y,u,rfl,e⟩
   ·injection e with e1 _; rw [e1]
   ·exact nomatch e
  ·rcases keyIs_shape hb with ⟨j,u,rfl,e⟩ | ⟨y,u,rfl,e⟩
   ·exact nomatch e
   ·injection e with e1 _; rw [e1]
 byValue:=fun k v h=>by
  rcases keyIs_shape h with ⟨i,t,rfl,rfl⟩ | ⟨x,t,rfl,rfl⟩ <;> rfl
 pyHash:=fun hv h=>by
  rcases keyIs_shape hv with ⟨i,t,rfl,rfl⟩ | ⟨x,t,rfl,rfl⟩
  ·exact wpAny_pyHash_int h
  ·exact wpAny_pyHash_str h
 eqBool:=fun hu hv h=>by
  rcases keyIs_shape hu with ⟨i,t,rfl,rfl⟩ | ⟨x,t,rfl,rfl⟩
  ·rcases keyIs_shape hv with ⟨j,u,rfl,rfl⟩ | ⟨y,u,rfl,rfl⟩
   ·rw [key_ll] at h; exact wpAny_eqBool_int h
   ·rw [key_lr] at h; exact SeqAt.EqAt.int_str i t y u _ _ _ _ h
  ·rcases keyIs_shape hv with ⟨j,u,rfl,rfl⟩ | ⟨y,u,rfl,rfl⟩
   ·rw [key_rl] at h; exact SeqAt.EqAt.str_int x t j u _ _ _ _ h
   ·rw [key_rr] at h; exact wpAny_eqBool_str h
 «strs»:=fun k x t v h=>by
  rcases keyIs_shape h with ⟨i,u,rfl,e⟩ | ⟨y,u,rfl,e⟩
  ·exact nomatch e
  ·injection e with e1 _
   subst e1
   cases v <;> rfl
theorem mixKind_int (prog:Program) (w:World) (i:Int) (t:Tok):(mixKind prog w).is (.inl i) (.int i t) = true:=keyIs_int i t
theorem mixKind_str (prog:Program) (w:World) (x:Str) (t:Tok):(mixKind prog w).is (.inr x) (.str x t) = true:=keyIs_str x t
inductive V where
 | non | bl (b:Bool) | int (i:Int) | str (x:Str) | byt (b:Array UInt8) | flt (b:UInt64) | ref (a:Addr) | ty (n:String)
 deriving DecidableEq
def RelV:V->Value->Prop
 | .non,u=>u = Value.none
 | .bl b,u=>u = Value.bool b
 | .int i,u=>∃ t,u = Value.int i t
 | .str x,u=>∃ t,u = Value.str x t
 | .byt b,u=>∃ t,u = Value.bytes b t
 | .flt b,u=>∃ t,u = Value.float b t
 | .ref a,u=>u = Value.ref a
 | .ty n,u=>u = Value.type n
abbrev Vals:List V->List Value->Prop:=Paired RelV
theorem Vals.length {xs:List V} {us:List Value} (r:Vals xs us):xs.length = us.length:=Paired.length r
theorem Vals.get:∀ {xs:List V} {us:List Value} {i:Nat} {x:V},Vals xs us->xs[i]? = some x->∃ u,us[i]? = some u/\RelV x u
 | _,_,_,_,.nil,e=>by simp at e
 | _,_,0,_,.cons r _,e=>by simp at e; subst e; exact ⟨_,rfl,r⟩
 | _,_,i + 1,x,.cons _ t,e=>by
  obtain ⟨u,h1,h2⟩:=Vals.get (i:=i) (x:=x) t (by simpa using e)
  exact ⟨u,by simpa using h1,h2⟩
theorem Vals.append:∀ {xs ys:List V} {us ws:List Value},Vals xs us->Vals ys ws->Vals (xs ++ ys) (us ++ ws)
 | _,_,_,_,.nil,s=>s
 | _,_,_,_,.cons r t,s=>.cons r (Vals.append t s)
theorem Vals.take:∀ {xs:List V} {us:List Value} (n:Nat),Vals xs us->Vals (xs.take n) (us.take n)
 | _,_,0,_=>.nil
 | _,_,_ + 1,.nil=>.nil
 | _,_,n + 1,.cons r t=>.cons r (Vals.take n t)
theorem Vals.drop:∀ {xs:List V} {us:List Value} (n:Nat),Vals xs us->Vals (xs.drop n) (us.drop n)
 | _,_,0,r=>r
 | _,_,_ + 1,.nil=>.nil
 | _,_,n + 1,.cons _ t=>Vals.drop n t
def RelO:Option V->Option Value->Prop
 | some v,some u=>RelV v u
 | none,none=>True
 | _,_=>False
def KV {κ : Type}:List (κ × V)->List (κ × Value)->Prop:=Paired fun (p : κ × V) (q : κ × Value)=>p.1 = q.1/\RelV p.2 q.2
def kV:Key->V
 | .inl i=>.int i
 | .inr x=>.str x
inductive HO where
 | lst (xs:List V)
 | tup (xs:List V)
 | dK (kvs:List (Key × V)) | dT (kvs:List (List Key × V))
 | set (S:Int->Bool) (n:Nat)
 | ins (C dx:Addr) (fs:List (Str × V))
 | own (x:Addr)
 | xd (fs:List (Str × V))
 | met (f x:Addr)
 | rng (lo hi:Int)
 | frz (o:Obj) (u:HO)
 | tbl (ps:Array Value)
 | ext (φ : Heap->Prop)
abbrev Hp:=Addr->Option HO
def upd (H:Hp) (a:Addr) (o:HO):Hp:=fun b=>if b = a then some o else H b
theorem upd_same {H:Hp} {a:Addr} {o:HO}:upd H a o a = some o:=by unfold upd; rw [if_pos rfl]
theorem upd_ne {H:Hp} {a b:Addr} {o:HO} (h:b ≠ a):upd H a o b = H b:=by unfold upd; rw [if_neg h]
theorem upd_upd {H:Hp} {a:Addr} {o u:HO}:upd (upd H a o) a u = upd H a u:=by
 funext b; unfold upd; split <;> rfl
theorem ne_of {H:Hp} {a b:Addr} {o u:HO} (h:H a = some o) (h':H b = some u) (d:o ≠ u):a ≠ b:=by
 intro e; subst e; rw [h] at h'; exact d (Option.some.inj h')
theorem ne_of_none {H:Hp} {a b:Addr} {o:HO} (h:H a = some o) (h':H b = none):a ≠ b:=by
 intro e; subst e; rw [h] at h'; cases h'
section
variable (P:Program) (w:World)
def ObjOk (H:Hp) (h:Heap) (a:Addr):HO->Prop
 | .lst xs=>xs.length<=sizeLine/\∃ (its:List Value) (n:Nat),Vals xs its/\h.get? a = some { cls:=.type "list",data:=.seq its.toArray n }
 | .tup xs=>xs.length<=sizeLine/\∃ its:List Value,Vals xs its/\IsTup h a its.toArray
 | .dK kvs=>kvs.length<=sizeLine/\(a == sysModules) = false/\∃ vs,KV kvs vs/\h.DictOf (mixKind P w) a vs
 | .dT kvs=>kvs.length<=sizeLine/\(a == sysModules) = false/\∃ xs:List (List Key × Addr × Value),
   Paired (fun (p:List Key × V) (q:List Key × Addr × Value)=>p.1 = q.1/\H q.2.1 = some (.tup (p.1.map kV))/\RelV p.2 q.2.2) kvs xs/\
   ∃ o es ep,h.get? a = some o/\o.ExactDict/\o.data = .dict es ep/\es.toList = xs.map (entryOfKey (tupleKind (mixKind P w)))/\(xs.map (·.1)).Nodup
 | .set S n=>h.SetOf (intKind P w) a S n
 | .ins C dx fs=>H dx = some (.own a)/\fs.length<=1000/\dx ≠ a/\h.get? a = some (PySem.W.instObj C dx)/\
   ∃ mA,h.Ns1 dx mA/\(∀ f,RelO (fs.lookup f) (mA f))/\PySem.Within mA (fs.map (·.1))
 | .own _=>∃ o,h.get? a = some o
 | .xd fs=>∃ mA,h.Ns1 a mA/\∀ f,RelO (fs.lookup f) (mA f)
 | .rng lo hi=>∃ t u v,h.get? a = some { cls:=.type "range",data:=.fields #[.int lo t,.int hi u,.int 1 v] }
 | .frz o u=>h.get? a = some o/\ObjOk H h a u
 | .tbl ps=>h.get? a = some { cls:=.none,data:=.fields ps }
 | .met f x=>h.get? a = some (PySem.W.methodObj (.ref f) (.ref x))
 | .ext φ=>φ h/\(∃ o,h.get? a = some o)/\∀ h1 h2:Heap,φ h1->(∀ o,h1.get? a = some o->h2.get? a = some o)->φ h2
def HOk (H:Hp) (h:Heap):Prop:=∀ a o,H a = some o->ObjOk P w H h a o
end
section
variable {P:Program} {w:World} {H H':Hp} {h h':Heap} {a:Addr} {o:HO}
theorem ObjOk.lt (x:ObjOk P w H h a o):a < h.objs.size:=by
 cases o with
 | lst xs=>obtain ⟨_,_,_,_,e⟩:=x; exact Heap.lt_size e
 | tup xs=>obtain ⟨_,_,_,p⟩:=x; exact p.lt
 | dK kvs=>obtain ⟨_,_,_,_,o,_,_,e,_⟩:=x; exact Heap.lt_size e
 | dT kvs=>obtain ⟨_,_,_,_,o,_,_,e,_⟩:=x; exact Heap.lt_size e
 | set S n=>obtain ⟨o,_,_,_,e,_⟩:=x; exact Heap.lt_size e
 | ins C dx fs=>obtain ⟨_,_,_,e,_⟩:=x; exact Heap.lt_size e
 | own y=>obtain ⟨_,e⟩:=x; exact Heap.lt_size e
 | xd fs=>obtain ⟨_,⟨_,_,_,e,_⟩,_⟩:=x; exact Heap.lt_size e
 | rng lo hi=>obtain ⟨_,_,_,e⟩:=x; exact Heap.lt_size e
 | frz ob u=>obtain ⟨e,_⟩:=x; exact Heap.lt_size e
 | tbl ps=>exact Heap.lt_size (show h.get? a = some _ from x)
 | met f y=>exact Heap.lt_size (show h.get? a = some _ from x)
 | ext φ=>obtain ⟨_,⟨_,e⟩,_⟩:=x; exact Heap.lt_size e
theorem Paired.mapP {α β : Type} {F G : α->β->Prop}:∀ {l₁:List α} {l₂:List β},Paired F l₁ l₂->(∀ a b,F a b->G a b)->Paired G l₁ l₂
 | _,_,.nil,_=>.nil
 | _,_,.cons r t,f=>.cons (f _ _ r) (Paired.mapP t f)
theorem Paired.imp' {α β : Type} {F G : α->β->Prop} (f:∀ a b,F a b->G a b) {l₁:List α} {l₂:List β} (r:Paired F l₁ l₂):Paired G l₁ l₂:=Paired.mapP r f
theorem ObjOk.stay (x:ObjOk P w H h a o) (k:∀ b u,(b = a\/H b = some (.own a))->h.get? b = some u->h'.get? b = some u)
  (ho:∀ b,H b = some (.own a)->H' b = some (.own a)) (ht:∀ b xs,H b = some (.tup xs)->H' b = some (.tup xs)):ObjOk P w H' h' a o:=by
 induction o with
 | lst xs=>obtain ⟨z,its,n,r,e⟩:=x; exact ⟨z,its,n,r,k _ _ (.inl rfl) e⟩
 | tup xs=>obtain ⟨z,its,r,ob,e,c⟩:=x; exact ⟨z,its,r,ob,k _ _ (.inl rfl) e,c⟩
 | dK kvs=>obtain ⟨z,y,vs,r,ob,es,ep,e,c⟩:=x; exact ⟨z,y,vs,r,ob,es,ep,k _ _ (.inl rfl) e,c⟩
 | dT kvs=>
  obtain ⟨z,y,xs,r,ob,es,ep,e,c⟩:=x
  exact ⟨z,y,xs,Paired.mapP r fun p q z=>⟨z.1,ht _ _ z.2.1,z.2.2⟩,ob,es,ep,k _ _ (.inl rfl) e,c⟩
 | set S n=>obtain ⟨ob,es,ep,t,e,c⟩:=x; exact ⟨ob,es,ep,t,k _ _ (.inl rfl) e,c⟩
 | ins C dx fs=>
  obtain ⟨d,z,ne,e,mA,⟨od,es,ep,e2,c⟩,r⟩:=x
  exact ⟨ho _ d,z,ne,k _ _ (.inl rfl) e,mA,⟨od,es,ep,k _ _ (.inr d) e2,c⟩,r⟩
 | own y=>obtain ⟨ob,e⟩:=x; exact ⟨ob,k _ _ (.inl rfl) e⟩
 | xd fs=>obtain ⟨mA,⟨od,es,ep,e,c⟩,r⟩:=x; exact ⟨mA,⟨od,es,ep,k _ _ (.inl rfl) e,c⟩,r⟩
 | rng lo hi=>obtain ⟨t,u,v,e⟩:=x; exact ⟨t,u,v,k _ _ (.inl rfl) e⟩
 | frz ob u ih=>obtain ⟨e,q⟩:=x; exact ⟨k _ _ (.inl rfl) e,ih q⟩
 | tbl ps=>
  have e:h.get? a = some { cls:=.none,data:=.fields ps }:=x
  show h'.get? a = some { cls:=.none,data:=.fields ps }
  exact k a _ (.inl rfl) e
 | met f y=>
  have e:h.get? a = some (PySem.W.methodObj (.ref f) (.ref y)):=x
  show h'.get? a = some (PySem.W.methodObj (.ref f) (.ref y))
  exact k a _ (.inl rfl) e
 | ext φ=>obtain ⟨p,⟨o,e⟩,st⟩:=x; exact ⟨st _ _ p fun o q=>k _ _ (.inl rfl) q,⟨o,k _ _ (.inl rfl) e⟩,st⟩
theorem HOk.lt (x:HOk P w H h) (e:H a = some o):a < h.objs.size:=(x a o e).lt
theorem HOk.fresh (x:HOk P w H h) (e:h.objs.size<=a):H a = none:=by
 cases q:H a with
 | none=>rfl
 | some u=>exact absurd (Nat.lt_of_lt_of_le (x.lt q) e) (Nat.lt_irrefl _)
theorem HOk.kept (x:HOk P w H h) (k:∀ b u,h.get? b = some u->h'.get? b = some u):HOk P w H h':=fun a o e=>
 (x a o e).stay (fun b u _ q=>k b u q) (fun _ q=>q) fun _ _ q=>q
theorem HOk.laid (x:HOk P w H h) (k:∀ b u,h.get? b = some u->h'.get? b = some u) (hp:h.objs.size<=a) (new:ObjOk P w (upd H a o) h' a o):HOk P w (upd H a o) h':=fun b u e=>by
 have hn:=x.fresh hp
 by_cases hb:b = a
 ·subst hb; rw [upd_same] at e; cases e; exact new
 ·rw [upd_ne hb] at e
  exact (x b u e).stay (fun c v _ q=>k c v q) (fun c q=>by rw [upd_ne (ne_of_none q hn)]; exact q) fun c xs q=>by rw [upd_ne (ne_of_none q hn)]; exact q
end
def Rd (H:Hp) (a:Addr) (u:HO):Prop:=H a = some u\/∃ o,H a = some (.frz o u)
theorem Rd.ok {P:Program} {w:World} {H:Hp} {h:Heap} {a:Addr} {u:HO} (r:Rd H a u) (x:HOk P w H h):ObjOk P w H h a u:=by
 rcases r with r | ⟨o,r⟩
 ·exact x a u r
 ·obtain ⟨_,q⟩:=x a _ r
  exact q
def Mut:Option HO->Prop
 | some (.lst _)=>True
 | some (.dK _)=>True
 | some (.dT _)=>True
 | some (.set _ _)=>True
 | some (.ins _ _ _)=>True
 | some (.ext _)=>True
 | _=>False
section
variable {P:Program} {w:World} {H:Hp} {h h':Heap} {x e:Addr} {o':HO}
theorem HOk.write (ok:HOk P w H h) (mu:Mut (H x)) (he:e = x\/H e = some (.own x)) (k:∀ b u,b ≠ e->h.get? b = some u->h'.get? b = some u) (heo:∃ u,h'.get? e = some u)
  (new:ObjOk P w (upd H x o') h' x o'):HOk P w (upd H x o') h':=fun b u q=>by
 have nown:∀ c y,H c = some (.own y)->c ≠ x:=fun c y r z=>by subst z; rw [r] at mu; exact mu
 have ntup:∀ c xs,H c = some (.tup xs)->c ≠ x:=fun c xs r z=>by subst z; rw [r] at mu; exact mu
 by_cases hb:b = x
 ·subst hb; rw [upd_same] at q; cases q; exact new
 ·rw [upd_ne hb] at q
  by_cases hbe:b = e
  ·have q':H b = some (.own x):=by
    rcases he with z | z
    ·exact absurd (hbe.trans z) hb
    ·rw [hbe]; exact z
   rw [q] at q'; cases q'
   obtain ⟨v,hv⟩:=heo
   exact ⟨v,by rw [hbe]; exact hv⟩
  ·refine (ok b u q).stay (fun c v hc r=>k c v ?_ r) (fun c r=>by rw [upd_ne (nown c b r)]; exact r) fun c xs r=>by rw [upd_ne (ntup c xs r)]; exact r
   rcases hc with rfl | hc
   ·exact hbe
   ·rintro rfl
    rcases he with z | z
    ·exact nown c b hc z
    ·rw [hc] at z; cases z; exact hb rfl
end
structure Un (fs ex:List Addr) (H H':Hp) (h h':Heap):Prop where
 keep:∀ b o,h.get? b = some o->H b = none->b ∉ fs->b ∉ ex->h'.get? b = some o
 slot:∀ b o,h.get? b = some o->H b = none->b ∈ fs->b ∉ ex->∃ sl,h'.get? b = some { o with slots:=sl }
 free:∀ b o,h.get? b = some o->H b = none->b ∉ ex->H' b = none
 there:∀ b o,h.get? b = some o->b ∉ ex->∃ o',h'.get? b = some o'
 tups:∀ b xs,H b = some (.tup xs)->H' b = some (.tup xs)
 frzs:∀ b o u,H b = some (.frz o u)->H' b = some (.frz o u)
 tbls:∀ b ps,H b = some (.tbl ps)->∃ more,H' b = some (.tbl (ps ++ more))
section
variable {fs fs' ex ex':List Addr} {H H1 H2:Hp} {h h1 h2 h':Heap} {a x e:Addr} {o:HO}
theorem Un.any (u:Un fs ex H H1 h h1) {b:Addr} {ob:Obj} (q:h.get? b = some ob) (n:H b = none) (hx:b ∉ ex):∃ sl,h1.get? b = some { ob with slots:=sl }:=by
 by_cases hb:b ∈ fs
 ·exact u.slot b ob q n hb hx
 ·exact ⟨ob.slots,u.keep b ob q n hb hx⟩
theorem Un.kept (k:∀ b u,h.get? b = some u->h'.get? b = some u):Un fs ex H H h h':=
 ⟨fun b ob q _ _ _=>k b ob q,fun b ob q _ _ _=>⟨ob.slots,k b ob q⟩,fun _ _ _ n _=>n,fun b ob q _=>⟨ob,k b ob q⟩,fun _ _ q=>q,fun _ _ _ q=>q,fun _ ps q=>⟨#[],by rw [q]; simp⟩⟩
theorem Un.refl:Un fs ex H H h h:=Un.kept fun _ _ q=>q
theorem Un.laid (k:∀ b u,h.get? b = some u->h'.get? b = some u) (hp:h.objs.size<=a) (hn:H a = none):Un fs ex H (upd H a o) h h' where
 keep:=fun b u q _ _ _=>k b u q
 slot:=fun b u q _ _ _=>⟨u.slots,k b u q⟩
 free:=fun b u q n _=>by rw [upd_ne (Nat.ne_of_lt (Nat.lt_of_lt_of_le (Heap.lt_size q) hp))]; exact n
 there:=fun b u q _=>⟨u,k b u q⟩
 tups:=fun b xs q=>by rw [upd_ne (ne_of_none q hn)]; exact q
 frzs:=fun b u xs q=>by rw [upd_ne (ne_of_none q hn)]; exact q
 tbls:=fun b ps q=>⟨#[],by rw [upd_ne (ne_of_none q hn),q]; simp⟩
theorem Un.write (mu:Mut (H x)) (he:e = x\/H e = some (.own x)) (k:∀ b u,b ≠ e->h.get? b = some u->h'.get? b = some u) (heo:∃ u,h'.get? e = some u):Un fs ex H (upd H x o) h h':=by
 have hx:∀ b,H b = none->b ≠ x:=fun b n z=>by subst z; rw [n] at mu; exact mu
 have hb:∀ b,H b = none->b ≠ e:=fun b n z=>by
  subst z
  rcases he with r | r
  ·exact hx b n r
  ·rw [n] at r; cases r
 have hm:∀ b u,H b = some u->¬ Mut (some u)->b ≠ x:=fun b u q nm z=>by subst z; rw [q] at mu; exact nm mu
 refine ⟨fun b u q n _ _=>k b u (hb b n) q,fun b u q n _ _=>⟨u.slots,k b u (hb b n) q⟩,fun b u q n _=>by rw [upd_ne (hx b n)]; exact n,fun b u q _=>?_,
  fun b xs q=>by rw [upd_ne (hm b _ q fun z=>z)]; exact q,fun b u xs q=>by rw [upd_ne (hm b _ q fun z=>z)]; exact q,fun b ps q=>⟨#[],by rw [upd_ne (hm b _ q fun z=>z),q]; simp⟩⟩
 by_cases hbe:b = e
 ·subst hbe; exact heo
 ·exact ⟨u,k b u hbe q⟩
end
def trk (h:Heap) (H:Hp):List Addr:=(List.range h.objs.size).filter fun a=>(H a).isSome
def hidT (h:Heap) (H:Hp):Heap:=PySem.W.hideAll h (trk h H)
theorem hidT_size (h:Heap) (H:Hp):(hidT h H).objs.size = h.objs.size:=PySem.W.hideAll_size _ _
theorem hidT_get {h:Heap} {H:Hp} {b:Addr} {o:Obj} (e:h.get? b = some o) (n:H b = none):(hidT h H).get? b = some o:=
 PySem.W.hideAll_get _ e fun hm=>by
  have q:(H b).isSome = true:=(List.mem_filter.mp hm).2
  rw [n] at q; simp at q
theorem of_hidT {h:Heap} {H:Hp} {b:Addr} {o:Obj} (e:(hidT h H).get? b = some o):h.get? b = some o/\H b = none:=by
 have e':h.get? b = some o:=PySem.W.of_hideAll (trk h H) e
 refine ⟨e',?_⟩
 cases q:H b with
 | none=>rfl
 | some x=>
  have hm:b ∈ trk h H:=List.mem_filter.mpr ⟨List.mem_range.mpr (Heap.lt_size e'),by simp [q]⟩
  have z:(hidT h H).get? b = none:=PySem.W.hideAll_none (trk h H) hm
  rw [z] at e; cases e
def allNews (g h:Heap) (L:Addr):List (Addr × Obj):=(List.range h.objs.size).filterMap fun a=>if a = L\/(g.get? a).isSome = true then none else (h.get? a).map fun o=>(a,o)
def rest (g h:Heap) (L d:Addr):List (Addr × Obj):=(allNews g h L).filter fun p=>decide (p.1 ≠ d)
structure Mod (K:PySem.W.Frag) (mg:Str->Option Value) (base:Heap):Prop where
 kin:K.In base
 glob:base.Ns mainGlobals mg
 blt:∃ mb,base.Ns builtinsNs mb/\∀ x:Str,x ≠ "__name__"->mb x = bootBuiltins x
 nolimit:base.NoLimit
structure Cx where
 prog:Program
 w:World
 K:PySem.W.Frag
 mg:Str->Option Value
 base:Heap
 A:Around
 N:List Str
 s₀:Shared
 H₀:Hp
 env:Env
 outer:List Env
 stack:List Env
 ex:List Addr
 fn:Str->Bool
 calm:Bool
 pn:List (Addr × Obj)
 xe:Value->Shared->Prop
def frs (l:List Env):List Addr:=l.filterMap (·.frame)
abbrev Cx.fs (X:Cx):List Addr:=frs X.outer
def Vis (sc:Scope) (x:Str):Prop:=sc.names.lookup x = some .local\/sc.names.lookup x = some .cell\/sc.names.lookup x = some .free
def Loc (sc:Scope) (x:Str):Prop:=sc.names.lookup x = some .local\/sc.names.lookup x = some .cell
def Look (env:Env) (h:Heap) (m:Str->Option Value) (x:Str) (u:Value):Prop:=
 (env.kindOf x = some .local/\m x = some u)\/((env.kindOf x = some .cell\/env.kindOf x = some .free)/\∃ c,env.cells.lookup x = some c/\h.IsCell c (some u))
structure Cx.Ok (X:Cx):Prop where
 mod:Mod X.K X.mg X.base
 kind:X.env.scope.kind = .function
 glob:X.env.globals = mainGlobals
 blt:X.env.builtins = builtinsNs
 above:X.s₀.heap.objs.size<=X.env.locals
 inj:∀ x y c,X.env.cells.lookup x = some c->X.env.cells.lookup y = some c->x = y
 has:∀ x,(X.env.kindOf x = some .cell\/X.env.kindOf x = some .free)->∃ c,X.env.cells.lookup x = some c
 cab:∀ x c,X.fn x = true->X.env.cells.lookup x = some c->X.s₀.heap.objs.size<=c
 hd:X.calm = true->X.A.handled = none
 frames:X.A.frames = some X.stack
 stk:X.stack = X.outer\/(X.stack = X.env :: X.outer/\X.env.frame = some X.env.locals)
 exf:∀ b ∈ X.ex,b ≠ X.env.locals/\∀ x c,X.env.cells.lookup x = some c->c ≠ b
 bs:∀ b o,X.base.get? b = some o->X.s₀.heap.get? b = some o/\X.H₀ b = none
 bsz:X.base.objs.size<=X.s₀.heap.objs.size
 noex:∀ b o,X.base.get? b = some o->b ∉ X.ex
 exfs:∀ b ∈ X.ex,b ∉ X.fs
 funs:X.s₀.heap.FunFrames X.base X.outer
 frf:∀ b ∈ X.fs,X.H₀ b = none
structure Inv (X:Cx) (pins:List (Addr × Obj)) (σ : List (Option V)) (H:Hp) (s:Shared):Prop where
 ok:X.Ok
 os:s.os = X.s₀.os
 bare:AllBare s.gens
 base:Un X.fs X.ex X.H₀ H X.s₀.heap s.heap
 loc:∃ m,s.heap.Ns X.env.locals m/\∀ (i:Nat) (x:Str) (v:V),X.N[i]? = some x->σ[i]? = some (some v)->Vis X.env.scope x->∃ u,RelV v u/\Look X.env s.heap m x u
 cell:∀ x c,X.env.cells.lookup x = some c->∃ v,s.heap.IsCell c v
 free:H X.env.locals = none
 freeC:∀ x c,X.env.cells.lookup x = some c->H c = none
 pin:∀ p ∈ X.pn ++ pins,s.heap.get? p.1 = some p.2/\H p.1 = none/\p.1 ≠ X.env.locals/\p.1 ∉ X.fs/\∀ v,p.2.data ≠ .cell v
 hok:HOk X.prog X.w H s.heap
 len : σ.length = X.N.length
section
variable {X:Cx} {pins:List (Addr × Obj)} {σ : List (Option V)} {H H':Hp} {s:Shared} {h':Heap}
theorem Cx.Ok.nofr (ok:X.Ok) {b:Addr} {o:Obj} (e:X.base.get? b = some o):b ∉ X.fs:=fun hb=>by
 have:=(ok.funs.mem hb).1
 rw [e] at this; cases this
theorem Inv.bs (I:Inv X pins σ H s):∀ b o,X.base.get? b = some o->s.heap.get? b = some o/\H b = none:=fun b o e=>
 ⟨I.base.keep b o (I.ok.bs b o e).1 (I.ok.bs b o e).2 (I.ok.nofr e) (I.ok.noex b o e),I.base.free b o (I.ok.bs b o e).1 (I.ok.bs b o e).2 (I.ok.noex b o e)⟩
theorem Inv.bk (I:Inv X pins σ H s):∀ b o,X.base.get? b = some o->s.heap.get? b = some o:=fun b o e=>(I.bs b o e).1
theorem Inv.mod (I:Inv X pins σ H s):Mod X.K X.mg X.base:=I.ok.mod
theorem Inv.kIn (I:Inv X pins σ H s):X.K.In s.heap:=I.ok.mod.kin.keeps I.bk
theorem Inv.fr (I:Inv X pins σ H s):∃ m,Fr X.base X.env.locals s.heap m:=
 let ⟨m,hn,_⟩:=I.loc
 ⟨m,hn,I.bk,Nat.le_trans I.ok.bsz I.ok.above⟩
theorem Inv.lt (I:Inv X pins σ H s):X.env.locals < s.heap.objs.size:=let ⟨_,hn,_⟩:=I.loc; hn.lt
theorem Inv.sz (I:Inv X pins σ H s):X.s₀.heap.objs.size<=s.heap.objs.size:=Nat.le_trans I.ok.above (Nat.le_of_lt I.lt)
theorem Inv.nofs (I:Inv X pins σ H s) {a:Addr} (h:s.heap.objs.size<=a):a ∉ X.fs:=fun hb=>by
 obtain ⟨_,o,ho,_⟩:=I.ok.funs.mem hb
 exact absurd (Nat.lt_of_lt_of_le (Heap.lt_size ho) (Nat.le_trans I.sz h)) (Nat.lt_irrefl _)
theorem Inv.cne (I:Inv X pins σ H s):∀ x c,X.env.cells.lookup x = some c->c ≠ X.env.locals:=fun x c e z=>by
 obtain ⟨v,o,ho,hd⟩:=I.cell x c e
 obtain ⟨m,⟨o',es,ep,ho',hd',_⟩,_⟩:=I.loc
 rw [z,ho'] at ho; cases ho; rw [hd'] at hd; cases hd
theorem Inv.funs (I:Inv X pins σ H s):s.heap.FunFrames X.base X.outer:=by
 have all:∀ (l:List Env),(∀ b ∈ frs l,b ∈ X.fs)->X.s₀.heap.FunFrames X.base l->s.heap.FunFrames X.base l:=by
  intro l
  induction l with
  | nil=>intro _ _; trivial
  | cons env r ih=>
   intro hs hl
   obtain ⟨hk,⟨L,o,hf,hn,ho,hd⟩,hr⟩:=hl
   have hL:L ∈ X.fs:=hs L (by unfold frs; rw [List.filterMap_cons,hf]; exact List.mem_cons_self)
   obtain ⟨sl,e⟩:=I.base.slot L o ho (I.ok.frf L hL) hL fun z=>I.ok.exfs L z hL
   exact ⟨hk,⟨L,_,hf,hn,e,hd⟩,ih (fun b hb=>hs b (by unfold frs; rw [List.filterMap_cons,hf]; exact List.mem_cons_of_mem _ hb)) hr⟩
 exact all X.outer (fun _ hb=>hb) I.ok.funs
theorem Inv.stack (I:Inv X pins σ H s):s.heap.FunFrames X.base X.stack:=by
 rcases I.ok.stk with e | ⟨e,hf⟩
 ·rw [e]; exact I.funs
 ·rw [e]
  obtain ⟨m,hn,_⟩:=I.loc
  refine .cons (by rw [I.ok.kind]; decide) hf hn ?_ I.funs
  exact Heap.get?_none_of_le (Nat.le_trans I.ok.bsz I.ok.above)
theorem Inv.stkSub (I:Inv X pins σ H s):∀ b ∈ frs X.stack,b ∈ X.env.locals :: X.fs:=fun b hb=>by
 rcases I.ok.stk with e | ⟨e,hf⟩
 ·rw [e] at hb; exact List.mem_cons_of_mem _ hb
 ·rw [e] at hb
  unfold frs at hb
  rw [List.filterMap_cons,hf] at hb
  exact hb
theorem Inv.stkFree (I:Inv X pins σ H s):∀ b ∈ frs X.stack,H b = none:=fun b hb=>by
 rcases List.mem_cons.mp (I.stkSub b hb) with e | hb
 ·rw [e]; exact I.free
 ·obtain ⟨_,o,ho,_⟩:=I.ok.funs.mem hb
  exact I.base.free b o ho (I.ok.frf b hb) fun z=>I.ok.exfs b z hb
theorem Inv.step {g':Array GenState} {t':Nat} {d':Drawn} {ch:List Addr} (I:Inv X pins σ H s)
  (hch:∀ b ∈ ch,(b ∈ X.ex\/X.s₀.heap.objs.size<=b)/\b ≠ X.env.locals/\(∀ x c,X.env.cells.lookup x = some c->c ≠ b)/\∀ p ∈ X.pn ++ pins,p.1 ≠ b)
  (keep:∀ b o,b ≠ X.env.locals->b ∉ X.fs->b ∉ ch->s.heap.get? b = some o->H b = none->h'.get? b = some o)
  (slot:∀ b o,b ≠ X.env.locals->b ∈ X.fs->b ∉ ch->s.heap.get? b = some o->H b = none->∃ sl,h'.get? b = some { o with slots:=sl }) (free:∀ b o,b ∉ ch->s.heap.get? b = some o->H b = none->H' b = none)
  (there:∀ b o,b ∉ ch->s.heap.get? b = some o->∃ o',h'.get? b = some o')
  (tups:∀ b xs,H b = some (.tup xs)->H' b = some (.tup xs)) (frzs:∀ b o u,H b = some (.frz o u)->H' b = some (.frz o u)) (tbls:∀ b ps,H b = some (.tbl ps)->∃ more,H' b = some (.tbl (ps ++ more)))
  (ns:∀ m,s.heap.Ns X.env.locals m->h'.Ns X.env.locals m) (hok:HOk X.prog X.w H' h') (hg:AllBare g') :
  Inv X pins σ H' { s with heap:=h',gens:=g',drawn:=d',toks:=t' }:=by
 have neL:∀ b o,X.s₀.heap.get? b = some o->b ≠ X.env.locals:=fun b o e=>Nat.ne_of_lt (Nat.lt_of_lt_of_le (Heap.lt_size e) I.ok.above)
 have neC:∀ b o,X.s₀.heap.get? b = some o->b ∉ X.ex->b ∉ ch:=fun b o e hx hb=>by
  rcases (hch b hb).1 with z | z
  ·exact hx z
  ·exact absurd (Nat.lt_of_lt_of_le (Heap.lt_size e) z) (Nat.lt_irrefl _)
 have cellK:∀ x c,X.env.cells.lookup x = some c->∀ v,s.heap.IsCell c v->h'.IsCell c v:=fun x c e v ⟨o,ho,hd⟩=>by
  have nch:c ∉ ch:=fun z=>(hch c z).2.2.1 x c e rfl
  by_cases hc:c ∈ X.fs
  ·obtain ⟨sl,q⟩:=slot c o (I.cne x c e) hc nch ho (I.freeC x c e)
   exact ⟨_,q,hd⟩
  ·exact ⟨o,keep c o (I.cne x c e) hc nch ho (I.freeC x c e),hd⟩
 refine ⟨I.ok,I.os,hg,⟨fun b o e n hb hx=>?_,fun b o e n hb hx=>?_,fun b o e n hx=>?_,fun b o e hx=>?_,fun b xs e=>tups b xs (I.base.tups b xs e),fun b o xs e=>frzs b o xs (I.base.frzs b o xs e),fun b ps e=>?_⟩,?_,fun x c e=>?_,?_,fun x c e=>?_,fun p hp=>?_,hok,I.len⟩
 ·exact keep b o (neL b o e) hb (neC b o e hx) (I.base.keep b o e n hb hx) (I.base.free b o e n hx)
 ·obtain ⟨sl,e1⟩:=I.base.slot b o e n hb hx
  obtain ⟨sl',e2⟩:=slot b _ (neL b o e) hb (neC b o e hx) e1 (I.base.free b o e n hx)
  exact ⟨sl',e2⟩
 ·obtain ⟨o',e1⟩:=I.base.there b o e hx
  exact free b o' (neC b o e hx) e1 (I.base.free b o e n hx)
 ·obtain ⟨o',e1⟩:=I.base.there b o e hx
  exact there b o' (neC b o e hx) e1
 ·obtain ⟨m1,e1⟩:=I.base.tbls b ps e
  obtain ⟨m2,e2⟩:=tbls b _ e1
  exact ⟨m1 ++ m2,by rw [e2,Array.append_assoc]⟩
 ·obtain ⟨m,hn,hl⟩:=I.loc
  refine ⟨m,ns m hn,fun i x v e1 e2 e3=>?_⟩
  obtain ⟨u,r,l⟩:=hl i x v e1 e2 e3
  refine ⟨u,r,?_⟩
  rcases l with l | ⟨k,c,e,z⟩
  ·exact .inl l
  ·exact .inr ⟨k,c,e,cellK x c e _ z⟩
 ·obtain ⟨v,z⟩:=I.cell x c e
  exact ⟨v,cellK x c e v z⟩
 ·obtain ⟨m,⟨o,_,_,ho,_⟩,_⟩:=I.loc
  exact free _ o (fun z=>(hch _ z).2.1 rfl) ho I.free
 ·obtain ⟨v,o,ho,hd⟩:=I.cell x c e
  exact free c o (fun z=>(hch c z).2.2.1 x c e rfl) ho (I.freeC x c e)
 ·obtain ⟨e,n,ne,nf,d⟩:=I.pin p hp
  have nch:p.1 ∉ ch:=fun z=>(hch p.1 z).2.2.2 p hp rfl
  exact ⟨keep p.1 p.2 ne nf nch e n,free p.1 p.2 nch e n,ne,nf,d⟩
theorem Inv.un {t':Nat} (I:Inv X pins σ H s) (u:Un X.fs [] H H' s.heap h') (hok:HOk X.prog X.w H' h'):Inv X pins σ H' { s with heap:=h',toks:=t' }:=by
 obtain ⟨m,⟨o,es,ep,ho,r⟩,_⟩:=id I.loc
 obtain ⟨sl,hL⟩:=u.any ho I.free (by simp)
 exact I.step (g':=s.gens) (d':=s.drawn) (ch:=[]) (fun _ z=>nomatch z) (fun b o _ hb _ e n=>u.keep b o e n hb (by simp)) (fun b o _ hb _ e n=>u.slot b o e n hb (by simp)) (fun b o _ e n=>u.free b o e n (by simp)) (fun b o _ e=>u.there b o e (by simp)) u.tups u.frzs u.tbls (fun m' hm=>by
  obtain ⟨o',es',ep',ho',r'⟩:=hm
  rw [ho] at ho'; cases ho'
  exact ⟨_,es',ep',hL,r'⟩) hok I.bare
theorem Inv.call {g':Array GenState} {t':Nat} {d':Drawn} {ch:List Addr} (I:Inv X pins σ H s) (u:Un (frs X.stack) ch H H' s.heap h') (hok:HOk X.prog X.w H' h') (hg:AllBare g')
  (hch:∀ b ∈ ch,(b ∈ X.ex\/X.s₀.heap.objs.size<=b)/\b ≠ X.env.locals/\(∀ x c,X.env.cells.lookup x = some c->c ≠ b)/\∀ p ∈ X.pn ++ pins,p.1 ≠ b) :
  Inv X pins σ H' { s with heap:=h',gens:=g',drawn:=d',toks:=t' }:=by
 obtain ⟨m,⟨o,es,ep,ho,r⟩,_⟩:=id I.loc
 obtain ⟨sl,hL⟩:=u.any ho I.free fun z=>(hch _ z).2.1 rfl
 exact I.step (ch:=ch) hch (fun b o hL hb hc e n=>u.keep b o e n (fun z=>(List.mem_cons.mp (I.stkSub b z)).elim hL hb) hc) (fun b o _ _ hc e n=>u.any e n hc) (fun b o hc e n=>u.free b o e n hc) (fun b o hc e=>u.there b o e hc) u.tups u.frzs u.tbls (fun m' hm=>by
  obtain ⟨o',es',ep',ho',r'⟩:=hm
  rw [ho] at ho'; cases ho'
  exact ⟨_,es',ep',hL,r'⟩) hok hg
theorem Inv.turned {t':Nat} {it:Addr} (I:Inv X pins σ H s) (k:∀ b o,b ≠ it->s.heap.get? b = some o->h'.get? b = some o) (hn:H it = none) (hL:it ≠ X.env.locals)
  (h1:it ∈ X.ex\/X.s₀.heap.objs.size<=it) (h2:∀ x c,X.env.cells.lookup x = some c->c ≠ it) (h3:∀ p ∈ X.pn ++ pins,p.1 ≠ it):Inv X pins σ H { s with heap:=h',toks:=t' }:=by
 have nit:∀ b u,H b = some u->b ≠ it:=fun b u e z=>by rw [z,hn] at e; cases e
 refine I.step (g':=s.gens) (d':=s.drawn) (ch:=[it]) (fun b hb=>?_) (fun b o _ _ hc e _=>k b o (fun z=>hc (by simp [z])) e) (fun b o _ _ hc e _=>⟨o.slots,k b o (fun z=>hc (by simp [z])) e⟩) (fun _ _ _ _ n=>n)
  (fun b o hc e=>⟨o,k b o (fun z=>hc (by simp [z])) e⟩) (fun _ _ e=>e) (fun _ _ _ e=>e) (fun b ps e=>⟨#[],by rw [e]; simp⟩) (fun m hm=>?_) (fun b u e=>?_) I.bare
 ·have e:b = it:=by simpa using hb
  subst e
  exact ⟨h1,hL,h2,h3⟩
 ·obtain ⟨o,es,ep,ho,r⟩:=hm
  exact ⟨o,es,ep,k _ o (Ne.symm hL) ho,r⟩
 ·refine (I.hok b u e).stay (fun c v hc q=>k c v ?_ q) (fun _ q=>q) fun _ _ q=>q
  rcases hc with z | z
  ·rw [z]; exact nit b u e
  ·exact nit c _ z
theorem Inv.tok (I:Inv X pins σ H s) (t:Nat):Inv X pins σ H { s with toks:=t }:=I.un (h':=s.heap) (t':=t) Un.refl I.hok
theorem Inv.kept {t':Nat} (I:Inv X pins σ H s) (k:∀ b u,s.heap.get? b = some u->h'.get? b = some u):Inv X pins σ H { s with heap:=h',toks:=t' }:=I.un (Un.kept k) (I.hok.kept k)
theorem Inv.laid {a:Addr} {o:HO} {t':Nat} (I:Inv X pins σ H s) (k:∀ b u,s.heap.get? b = some u->h'.get? b = some u) (hp:s.heap.objs.size<=a) (new:ObjOk X.prog X.w (upd H a o) h' a o) :
  Inv X pins σ (upd H a o) { s with heap:=h',toks:=t' }:=I.un (Un.laid k hp (I.hok.fresh hp)) (I.hok.laid k hp new)
theorem Inv.write {x e:Addr} {o:HO} {t':Nat} (I:Inv X pins σ H s) (mu:Mut (H x)) (he:e = x\/H e = some (.own x)) (k:∀ b u,b ≠ e->s.heap.get? b = some u->h'.get? b = some u) (heo:∃ u,h'.get? e = some u)
  (new:ObjOk X.prog X.w (upd H x o) h' x o):Inv X pins σ (upd H x o) { s with heap:=h',toks:=t' }:=I.un (Un.write mu he k heo) (I.hok.write mu he k heo new)
theorem Inv.weak {σ':List (Option V)} (I:Inv X pins σ H s) (hl : σ'.length = σ.length) (w:∀ (i:Nat) v,σ'[i]? = some (some v)->σ[i]? = some (some v)):Inv X pins σ' H s:=
 ⟨I.ok,I.os,I.bare,I.base,let ⟨m,hn,hl'⟩:=I.loc; ⟨m,hn,fun i x v e1 e2 e3=>hl' i x v e1 (w i v e2) e3⟩,I.cell,I.free,I.freeC,I.pin,I.hok,hl.trans I.len⟩
theorem Inv.pins_of {pins':List (Addr × Obj)} (I:Inv X pins σ H s) (h:∀ p ∈ pins',s.heap.get? p.1 = some p.2/\H p.1 = none/\p.1 ≠ X.env.locals/\p.1 ∉ X.fs/\∀ v,p.2.data ≠ .cell v):Inv X pins' σ H s:=
 ⟨I.ok,I.os,I.bare,I.base,I.loc,I.cell,I.free,I.freeC,fun p hp=>(List.mem_append.mp hp).elim (fun z=>I.pin p (List.mem_append_left _ z)) (h p),I.hok,I.len⟩
theorem nodup_ix {N:List Str} (hN:N.Nodup) {i j:Nat} {x:Str} (a:N[i]? = some x) (b:N[j]? = some x):i = j:=by
 obtain ⟨h1,e1⟩:=List.getElem?_eq_some_iff.mp a
 obtain ⟨h2,e2⟩:=List.getElem?_eq_some_iff.mp b
 exact (List.getElem_inj hN).mp (e1.trans e2.symm)
theorem store_ok2 {M:Model} {A:Around} {E:Value->Shared->Prop} {i:Nat} {x:Str} {v:V} {u:Value} {Q:Unit->Shared->Prop} (I:Inv X pins σ H s) (hN:X.N.Nodup) (hi:X.N[i]? = some x) (hx:Loc X.env.scope x) (r:RelV v u)
  (h:∀ s',Inv X pins (σ.set i (some v)) H s'->(∃ a,Heap.SameBut a s.heap s'.heap/\(a = X.env.locals\/X.env.cells.lookup x = some a))->Q () s') (hf:X.fn x = true\/X.env.scope.names.lookup x = some .local:=by first | exact .inl rfl | exact .inr rfl | assumption):wpAny M A (storeName X.env x u) Q E s:=by
 obtain ⟨m,hn,hl⟩:=id I.loc
 have hcls:(X.env.scope.kind == .class || (X.env.scope.kind == .module && X.env.locals != X.env.globals)) = false:=by rw [I.ok.kind]; rfl
 have hiσ : i < σ.length:=by rw [I.len]; exact (List.getElem?_eq_some_iff.mp hi).1
 have cne:=I.cne
 have tracked:∀ {a:Addr} {h':Heap},(∃ o,s.heap.get? a = some o/\H a = none)->Heap.SameBut a s.heap h'->HOk X.prog X.w H h':=fun {a h'} ha hs b ob e=>by
  obtain ⟨_,_,hfree⟩:=ha
  refine (I.hok b ob e).stay (fun c w' hc q=>(hs.2 c ?_).trans q) (fun _ q=>q) fun _ _ q=>q
  rintro rfl
  rcases hc with rfl | hc
  ·rw [hfree] at e; cases e
  ·rw [hfree] at hc; cases hc
 rcases hx with hk | hk
 ·refine wpAny_storeName_local hk hn (fun h' hn' hs=>?_) hcls
  obtain ⟨oL,_,_,hoL,_⟩:=id hn
  refine h _ ⟨I.ok,I.os,I.bare,⟨fun b o e n hb hx=>?_,fun b o e n hb hx=>?_,I.base.free,fun b o e hx=>?_,I.base.tups,I.base.frzs,I.base.tbls⟩,⟨_,hn',fun j y v' e1 e2 e3=>?_⟩,fun y c e=>?_,I.free,I.freeC,fun p hp=>?_,tracked ⟨oL,hoL,I.free⟩ hs,by simpa using I.len⟩ ⟨_,hs,.inl rfl⟩
  ·exact (hs.2 b (Nat.ne_of_lt (Nat.lt_of_lt_of_le (Heap.lt_size e) I.ok.above))).trans (I.base.keep b o e n hb hx)
  ·obtain ⟨sl,e1⟩:=I.base.slot b o e n hb hx
   exact ⟨sl,(hs.2 b (Nat.ne_of_lt (Nat.lt_of_lt_of_le (Heap.lt_size e) I.ok.above))).trans e1⟩
  ·obtain ⟨o',e1⟩:=I.base.there b o e hx
   exact ⟨o',(hs.2 b (Nat.ne_of_lt (Nat.lt_of_lt_of_le (Heap.lt_size e) I.ok.above))).trans e1⟩
  ·by_cases hj:j = i
   ·subst hj
    rw [hi] at e1; cases e1
    rw [List.getElem?_set_self hiσ] at e2
    cases e2
    exact ⟨u,r,.inl ⟨hk,by simp⟩⟩
   ·rw [List.getElem?_set_ne (Ne.symm hj)] at e2
    obtain ⟨u',r',q⟩:=hl j y v' e1 e2 e3
    refine ⟨u',r',?_⟩
    rcases q with ⟨k,e⟩ | ⟨k,c,e,z⟩
    ·refine .inl ⟨k,?_⟩
     have:y ≠ x:=fun e=>hj (nodup_ix hN e1 (e ▸ hi))
     simp [this,e]
    ·exact .inr ⟨k,c,e,z.sameBut hs (cne y c e)⟩
  ·obtain ⟨w',z⟩:=I.cell y c e
   exact ⟨w',z.sameBut hs (cne y c e)⟩
  ·obtain ⟨e,n,ne,nf,d⟩:=I.pin p hp
   exact ⟨(hs.2 p.1 ne).trans e,n,ne,nf,d⟩
 ·have hfn:X.fn x = true:=by
   rcases hf with z | z
   ·exact z
   ·rw [z] at hk; cases hk
  obtain ⟨c,hc⟩:=I.ok.has x (.inl hk)
  obtain ⟨w',z⟩:=I.cell x c hc
  refine wpAny_storeName_cell I.ok.kind hk hc z (fun h' hc' hs=>?_)
  obtain ⟨oc,hoc,hocd⟩:=id z
  refine h { s with heap:=h' } ⟨I.ok,I.os,I.bare,⟨fun b o e n hb hx=>?_,fun b o e n hb hx=>?_,I.base.free,fun b o e hx=>?_,I.base.tups,I.base.frzs,I.base.tbls⟩,⟨m,hn.sameBut hs (Ne.symm (cne x c hc)),fun j y v' e1 e2 e3=>?_⟩,fun y c' e=>?_,I.free,I.freeC,fun p hp=>?_,tracked ⟨oc,hoc,I.freeC x c hc⟩ hs,by simpa using I.len⟩ ⟨c,hs,.inr hc⟩
  ·exact (hs.2 b (Nat.ne_of_lt (Nat.lt_of_lt_of_le (Heap.lt_size e) (I.ok.cab x c hfn hc)))).trans (I.base.keep b o e n hb hx)
  ·obtain ⟨sl,e1⟩:=I.base.slot b o e n hb hx
   exact ⟨sl,(hs.2 b (Nat.ne_of_lt (Nat.lt_of_lt_of_le (Heap.lt_size e) (I.ok.cab x c hfn hc)))).trans e1⟩
  ·obtain ⟨o',e1⟩:=I.base.there b o e hx
   exact ⟨o',(hs.2 b (Nat.ne_of_lt (Nat.lt_of_lt_of_le (Heap.lt_size e) (I.ok.cab x c hfn hc)))).trans e1⟩
  ·by_cases hj:j = i
   ·subst hj
    rw [hi] at e1; cases e1
    rw [List.getElem?_set_self hiσ] at e2
    cases e2
    exact ⟨u,r,.inr ⟨.inl hk,c,hc,hc'⟩⟩
   ·rw [List.getElem?_set_ne (Ne.symm hj)] at e2
    obtain ⟨u',r',q⟩:=hl j y v' e1 e2 e3
    refine ⟨u',r',?_⟩
    rcases q with q | ⟨k,c',e,z'⟩
    ·exact .inl q
    ·refine .inr ⟨k,c',e,z'.sameBut hs ?_⟩
     rintro rfl
     exact hj (nodup_ix hN e1 (I.ok.inj _ _ _ e hc ▸ hi))
  ·by_cases hcc:c' = c
   ·subst hcc; exact ⟨_,hc'⟩
   ·obtain ⟨w2,z2⟩:=I.cell y c' e
    exact ⟨w2,z2.sameBut hs hcc⟩
  ·obtain ⟨e,n,ne,nf,d⟩:=I.pin p hp
   refine ⟨(hs.2 p.1 ?_).trans e,n,ne,nf,d⟩
   intro q
   rw [q,hoc] at e
   have q':oc = p.2:=Option.some.inj e
   exact d w' (by rw [<- q']; exact hocd)
theorem store_ok {M:Model} {A:Around} {E:Value->Shared->Prop} {i:Nat} {x:Str} {v:V} {u:Value} {Q:Unit->Shared->Prop} (I:Inv X pins σ H s) (hN:X.N.Nodup) (hi:X.N[i]? = some x) (hx:Loc X.env.scope x) (r:RelV v u)
  (h:∀ s',Inv X pins (σ.set i (some v)) H s'->Q () s') (hf:X.fn x = true\/X.env.scope.names.lookup x = some .local:=by first | exact .inl rfl | exact .inr rfl | assumption):wpAny M A (storeName X.env x u) Q E s:=
 store_ok2 I hN hi hx r (fun s' I' _=>h s' I') hf
theorem Inv.call' {s':Shared} {ch:List Addr} (I:Inv X pins σ H s) (ho:s'.os = s.os) (u:Un (frs X.stack) ch H H' s.heap s'.heap) (hok:HOk X.prog X.w H' s'.heap) (hg:AllBare s'.gens)
  (hch:∀ b ∈ ch,(b ∈ X.ex\/X.s₀.heap.objs.size<=b)/\b ≠ X.env.locals/\(∀ x c,X.env.cells.lookup x = some c->c ≠ b)/\∀ p ∈ X.pn ++ pins,p.1 ≠ b):Inv X pins σ H' s':=by
 obtain ⟨h',g',d',t',o'⟩:=s'
 have e:o' = s.os:=ho
 subst e
 exact I.call (g':=g') (t':=t') (d':=d') u hok hg hch
end
abbrev XK:=Value->Option Addr->Hp->Prop
abbrev St:=List (Option V)
abbrev VK:=V->Hp->Prop
abbrev TE:=St->Hp->VK->Prop
abbrev TT:=St->Hp->(Bool->Hp->Prop)->Prop
abbrev TA:=St->Hp->(List V->Hp->Prop)->Prop
structure Ends where
 nx:St->Hp->Prop
 rt:VK
 bk:St->Hp->Prop:=fun _ _=>False
 ct:St->Hp->Prop:=fun _ _=>False
abbrev TS:=Ends->St->Hp->Prop
def EP (X:Cx) (pins:List (Addr × Obj)) (σ : St) (Q:VK) (u:Value) (s':Shared):Prop:=∃ v H',Inv X pins σ H' s'/\RelV v u/\Q v H'
def TP (X:Cx) (pins:List (Addr × Obj)) (σ : St) (Q:Bool->Hp->Prop) (b:Bool) (s':Shared):Prop:=∃ H',Inv X pins σ H' s'/\Q b H'
def AP (X:Cx) (pins:List (Addr × Obj)) (σ : St) (Q:List V->Hp->Prop) (us:List Value) (s':Shared):Prop:=∃ vs H',Inv X pins σ H' s'/\Vals vs us/\Q vs H'
def SP (X:Cx) (pins:List (Addr × Obj)) (D:Ends) (f:Flow) (s':Shared):Prop:=
 match f with
 | .next=>∃ σ' H',Inv X pins σ' H' s'/\D.nx σ' H'
 | .brk=>∃ σ' H',Inv X pins σ' H' s'/\D.bk σ' H'
 | .cont=>∃ σ' H',Inv X pins σ' H' s'/\D.ct σ' H'
 | .ret u=>∃ v σ' H',Inv X pins σ' H' s'/\RelV v u/\D.rt v H'
structure PE (X:Cx) (e:Expr) (t:TE):Prop where
 run:∀ (pins:List (Addr × Obj)) (s:Shared) (σ : St) (H:Hp) (Q:VK),Inv X pins σ H s->t σ H Q->wpAny (model X.prog X.w) X.A (eval e X.env) (EP X pins σ Q) X.xe s
instance {X:Cx} {e:Expr} {t:TE}:CoeFun (PE X e t) (fun _=>∀ (pins:List (Addr × Obj)) (s:Shared) (σ : St) (H:Hp) (Q:VK),Inv X pins σ H s->t σ H Q->wpAny (model X.prog X.w) X.A (eval e X.env) (EP X pins σ Q) X.xe s):=⟨PE.run⟩
structure PT (X:Cx) (e:Expr) (t:TT):Prop where
 run:∀ (pins:List (Addr × Obj)) (s:Shared) (σ : St) (H:Hp) (Q:Bool->Hp->Prop),Inv X pins σ H s->t σ H Q->wpAny (model X.prog X.w) X.A (isTrue e X.env (eval e X.env)) (TP X pins σ Q) X.xe s
instance {X:Cx} {e:Expr} {t:TT}:CoeFun (PT X e t) (fun _=>∀ (pins:List (Addr × Obj)) (s:Shared) (σ : St) (H:Hp) (Q:Bool->Hp->Prop),Inv X pins σ H s->t σ H Q->wpAny (model X.prog X.w) X.A (isTrue e X.env (eval e X.env)) (TP X pins σ Q) X.xe s):=⟨PT.run⟩
structure PW (X:Cx) (e:Expr) (t:TT):Prop where
 run:∀ (whole:Sem Value) (pins:List (Addr × Obj)) (s:Shared) (σ : St) (H:Hp) (Q:Bool->Hp->Prop),Inv X pins σ H s->t σ H Q->wpAny (model X.prog X.w) X.A (isTrue e X.env whole) (TP X pins σ Q) X.xe s
instance {X:Cx} {e:Expr} {t:TT}:CoeFun (PW X e t) (fun _=>∀ (whole:Sem Value) (pins:List (Addr × Obj)) (s:Shared) (σ : St) (H:Hp) (Q:Bool->Hp->Prop),Inv X pins σ H s->t σ H Q->wpAny (model X.prog X.w) X.A (isTrue e X.env whole) (TP X pins σ Q) X.xe s):=⟨PW.run⟩
theorem PW.pt {X:Cx} {e:Expr} {t:TT} (h:PW X e t):PT X e t:=⟨h _⟩
structure PA (X:Cx) (es:List Expr) (t:TA):Prop where
 run:∀ (pos:Pos) (pins:List (Addr × Obj)) (s:Shared) (σ : St) (H:Hp) (Q:List V->Hp->Prop),Inv X pins σ H s->t σ H Q->wpAny (model X.prog X.w) X.A (spliced (backTo pos (starEach es X.env))) (AP X pins σ Q) X.xe s
instance {X:Cx} {es:List Expr} {t:TA}:CoeFun (PA X es t) (fun _=>∀ (pos:Pos) (pins:List (Addr × Obj)) (s:Shared) (σ : St) (H:Hp) (Q:List V->Hp->Prop),Inv X pins σ H s->t σ H Q->wpAny (model X.prog X.w) X.A (spliced (backTo pos (starEach es X.env))) (AP X pins σ Q) X.xe s):=⟨PA.run⟩
structure PS (X:Cx) (st:Stmt) (t:TS):Prop where
 run:∀ (pins:List (Addr × Obj)) (s:Shared) (σ : St) (H:Hp) (D:Ends),Inv X pins σ H s->t D σ H->wpAny (model X.prog X.w) X.A (exec st X.env) (SP X pins D) X.xe s
instance {X:Cx} {st:Stmt} {t:TS}:CoeFun (PS X st t) (fun _=>∀ (pins:List (Addr × Obj)) (s:Shared) (σ : St) (H:Hp) (D:Ends),Inv X pins σ H s->t D σ H->wpAny (model X.prog X.w) X.A (exec st X.env) (SP X pins D) X.xe s):=⟨PS.run⟩
structure PSs (X:Cx) (st:List Stmt) (t:TS):Prop where
 run:∀ (pins:List (Addr × Obj)) (s:Shared) (σ : St) (H:Hp) (D:Ends),Inv X pins σ H s->t D σ H->wpAny (model X.prog X.w) X.A (execs st X.env) (SP X pins D) X.xe s
instance {X:Cx} {st:List Stmt} {t:TS}:CoeFun (PSs X st t) (fun _=>∀ (pins:List (Addr × Obj)) (s:Shared) (σ : St) (H:Hp) (D:Ends),Inv X pins σ H s->t D σ H->wpAny (model X.prog X.w) X.A (execs st X.env) (SP X pins D) X.xe s):=⟨PSs.run⟩
theorem thn {α : Type} {t:Sem α} {Q Q' : α->Shared->Prop} {M:Model} {A:Around} {E:Value->Shared->Prop} {s:Shared} (h:wpAny M A t Q E s) (hQ:∀ a s,Q a s->Q' a s):wpAny M A t Q' E s:=wpAny_mono h hQ fun _ _ x=>x
section
variable {X:Cx}
theorem bin {a b:Expr} {ta tb:TE} (ha:PE X a ta) (hb:PE X b tb) {pins:List (Addr × Obj)} {s:Shared} {σ : St} {H:Hp} {R:V->V->Hp->Prop} (I:Inv X pins σ H s) (h:ta σ H fun x H1=>tb σ H1 fun y H2=>R x y H2)
  {α : Type} {Q : α->Shared->Prop} {f:Value->Value->Sem α}
  (hf:∀ v u s2 x y H2,Inv X pins σ H2 s2->RelV x v->RelV y u->R x y H2->wpAny (model X.prog X.w) X.A (f v u) Q X.xe s2) :
  wpAny (model X.prog X.w) X.A (eval a X.env) (fun v s₁=>wpAny (model X.prog X.w) X.A (eval b X.env) (fun u s₂=>wpAny (model X.prog X.w) X.A (f v u) Q X.xe s₂) X.xe s₁) X.xe s:=by
 refine thn (ha pins s σ H _ I h) fun v s1 ⟨x,H1,I1,r1,q1⟩=>?_
 refine thn (hb pins s1 σ H1 _ I1 q1) fun u s2 ⟨y,H2,I2,r2,q2⟩=>?_
 exact hf v u s2 x y H2 I2 r1 r2 q2
def tVar (i:Nat):TE:=fun σ H Q=>∃ v,σ[i]? = some (some v)/\Q v H
def tC (v:V):TE:=fun _ H Q=>Q v H
theorem pe_var {i:Nat} {x:Str} {pos:Pos} (hN:X.N[i]? = some x) (hv:Vis X.env.scope x) (hd:(x == ("__debug__" : Str)) = false:=by decide) (hcd:(x == ("__classdict__" : Str)) = false:=by decide):PE X (.Name x pos) (tVar i):=by
 refine ⟨?_⟩
 intro pins s σ H Q I h
 obtain ⟨v,e,h⟩:=h
 obtain ⟨m,hn,hl⟩:=I.loc
 obtain ⟨u,r,l⟩:=hl i x v hN e hv
 have fin:EP X pins σ Q u s:=⟨v,H,I,r,h⟩
 rcases l with ⟨hk,hm⟩ | ⟨hk,c,hc,hcell⟩
 ·exact wpAny_Name (wpAny_loadName_local I.ok.kind hk hn hm fin) hd
 ·rcases hk with hk | hk
  ·exact wpAny_Name (wpAny_loadName_cell I.ok.kind hk hc hcell fin) hd
  ·exact wpAny_Name (wpAny_loadName_free I.ok.kind hk hc hcell fin hcd) hd
theorem pe_int {i j pos}:PE X (.Constant (.int i) j pos) (tC (.int i)):=⟨fun _ _ _ H _ I h=>wpAny_Constant_int ⟨.int i,H,I.tok _,⟨_,rfl⟩,h⟩⟩
theorem pe_bl {b j pos}:PE X (.Constant (.bool b) j pos) (tC (.bl b)):=⟨fun _ _ _ H _ I h=>Constant_bool ⟨.bl b,H,I,rfl,h⟩⟩
theorem pe_non {j pos}:PE X (.Constant .none j pos) (tC .non):=⟨fun _ _ _ H _ I h=>Constant_none ⟨.non,H,I,rfl,h⟩⟩
theorem pe_str {x j pos}:PE X (.Constant (.str x) j pos) (tC (.str x)):=⟨fun _ _ _ H _ I h=>Calls.Constant_str ⟨.str x,H,I.tok _,⟨_,rfl⟩,h⟩⟩
def Gl (X:Cx) (x:Str):Prop:=X.env.kindOf x = some .globalImplicit
theorem ld_glob {E:Value->Shared->Prop} {pins:List (Addr × Obj)} {s:Shared} {σ : St} {H:Hp} {x:Str} {u:Value} {pos:Pos} {Q:Value->Shared->Prop} (I:Inv X pins σ H s) (hg:Gl X x) (hm:X.mg x = some u) (h:Q u s)
  (hd:(x == ("__debug__" : Str)) = false:=by decide):wpAny (model X.prog X.w) X.A (eval (.Name x pos) X.env) Q E s:=
 Calls.Name_function_global I.ok.kind hg (Calls.loadGlobal_global (by rw [I.ok.glob]; exact I.mod.glob.keeps I.bk) hm h) hd
theorem ld_blt {E:Value->Shared->Prop} {pins:List (Addr × Obj)} {s:Shared} {σ : St} {H:Hp} {x:Str} {u:Value} {pos:Pos} {Q:Value->Shared->Prop} (I:Inv X pins σ H s) (hg:Gl X x) (hm:X.mg x = none) (hv:bootBuiltins x = some u) (h:Q u s)
  (hn:x ≠ "__name__":=by decide) (hd:(x == ("__debug__" : Str)) = false:=by decide):wpAny (model X.prog X.w) X.A (eval (.Name x pos) X.env) Q E s:=by
 obtain ⟨mb,h1,h2⟩:=I.mod.blt
 exact Calls.Name_function_global I.ok.kind hg (Calls.loadGlobal_builtin (by rw [I.ok.glob]; exact I.mod.glob.keeps I.bk) hm (by rw [I.ok.blt]; exact h1.keeps I.bk) ((h2 x hn).trans hv) h) hd
theorem pe_glob {x:Str} {v:V} {u:Value} {pos:Pos} (hg:Gl X x) (hm:X.mg x = some u) (r:RelV v u) (hd:(x == ("__debug__" : Str)) = false:=by decide):PE X (.Name x pos) (tC v):=⟨fun _ _ _ H _ I h=>ld_glob I hg hm ⟨v,H,I,r,h⟩ hd⟩
theorem pe_bltn {x:Str} {v:V} {u:Value} {pos:Pos} (hg:Gl X x) (hm:X.mg x = none) (hv:bootBuiltins x = some u) (r:RelV v u) (hn:x ≠ "__name__":=by decide) (hd:(x == ("__debug__" : Str)) = false:=by decide):PE X (.Name x pos) (tC v):=⟨fun _ _ _ H _ I h=>ld_blt I hg hm hv ⟨v,H,I,r,h⟩ hn hd⟩
variable {a b:Expr} {ta tb:TE} {pos:Pos}
structure PC (X:Cx) (op:CmpOp) (a b:Expr) (t:TE):Prop where
 run:∀ (pins:List (Addr × Obj)) (s:Shared) (σ : St) (H:Hp) (Q:VK),Inv X pins σ H s->t σ H Q->
  wpAny (model X.prog X.w) X.A (eval a X.env) (fun v s₁=>wpAny (model X.prog X.w) X.A (eval b X.env) (fun u s₂=>wpAny (model X.prog X.w) X.A (compareOp op v u) (EP X pins σ Q) X.xe s₂) X.xe s₁) X.xe s
instance {X:Cx} {op:CmpOp} {a b:Expr} {t:TE}:CoeFun (PC X op a b t) (fun _=>∀ (pins:List (Addr × Obj)) (s:Shared) (σ : St) (H:Hp) (Q:VK),Inv X pins σ H s->t σ H Q->
  wpAny (model X.prog X.w) X.A (eval a X.env) (fun v s₁=>wpAny (model X.prog X.w) X.A (eval b X.env) (fun u s₂=>wpAny (model X.prog X.w) X.A (compareOp op v u) (EP X pins σ Q) X.xe s₂) X.xe s₁) X.xe s):=⟨PC.run⟩
theorem nobehind (b:Expr) {op:CmpOp} (h:op ≠ .In) (h2:op ≠ .NotIn):behindInMarks op b = false:=by
 have e1:(op == CmpOp.In) = false:=by cases op <;> first | rfl | exact absurd rfl h
 have e2:(op == CmpOp.NotIn) = false:=by cases op <;> first | rfl | exact absurd rfl h2
 cases b <;> simp [behindInMarks,e1,e2]
def tIsN (ta:TE):TE:=fun σ H Q=>ta σ H fun x H1=>Q (.bl (decide (x = .non))) H1
def tNotN (ta:TE):TE:=fun σ H Q=>ta σ H fun x H1=>Q (.bl (!decide (x = .non))) H1
theorem RelV.none_iff {x:V} {v:Value} (r:RelV x v):(v == Value.none) = decide (x = .non):=by
 cases x with
 | non=>cases r; rfl
 | bl _=>cases r; rfl
 | int _=>obtain ⟨t,rfl⟩:=r; rfl
 | str _=>obtain ⟨t,rfl⟩:=r; rfl
 | byt _=>obtain ⟨t,rfl⟩:=r; rfl
 | flt _=>obtain ⟨t,rfl⟩:=r; rfl
 | ref _=>cases r; rfl
 | ty _=>cases r; rfl
theorem pc_isN {j pos'} (ha:PE X a ta):PC X .Is a (.Constant .none j pos') (tIsN ta):=by
 refine ⟨?_⟩
 intro pins s σ H Q I h
 refine thn (ha pins s σ H _ I h) fun v s1 ⟨x,H1,I1,r1,q1⟩=>?_
 exact Constant_none (is_none_gen ⟨.bl _,H1,I1,by rw [r1.none_iff]; rfl,q1⟩)
theorem pc_notN {j pos'} (ha:PE X a ta):PC X .IsNot a (.Constant .none j pos') (tNotN ta):=by
 refine ⟨?_⟩
 intro pins s σ H Q I h
 refine thn (ha pins s σ H _ I h) fun v s1 ⟨x,H1,I1,r1,q1⟩=>?_
 exact Constant_none (isnot_none_gen ⟨.bl _,H1,I1,by rw [r1.none_iff]; rfl,q1⟩)
def tB (t:TE):TT:=fun σ H Q=>t σ H fun x H1=>∃ c,x = .bl c/\Q c H1
theorem pe_cmp {op:CmpOp} {t:TE} (h:PC X op a b t) (h1:behindInMarks op b = false:=by first | exact nobehind _ (by decide) (by decide) | rfl):PE X (.Compare a [op] [b] pos) t:=⟨fun pins s σ H Q I hw=>wpAny_Compare1 (h pins s σ H Q I hw) h1⟩
theorem pt_cmp {op:CmpOp} {t:TE} (h:PC X op a b t) (h1:behindInMarks op b = false:=by first | exact nobehind _ (by decide) (by decide) | rfl):PT X (.Compare a [op] [b] pos) (tB t):=by
 refine ⟨?_⟩
 intro pins s σ H Q I hw
 refine wpAny_isTrue_Compare1 (thn (h pins s σ H _ I hw) fun v s1 h1=>thn h1 fun u s2 h2=>thn h2 fun c s3 ⟨x,H1,I1,r1,q1⟩=>?_) h1
 obtain ⟨d,rfl,q⟩:=q1
 cases r1
 exact wpAny_truthy_bool ⟨H1,I1,q⟩
theorem pt_val {e:Expr} {t:TE} (h:PE X e t) (he:∀ whole,isTrue e X.env whole = (do let v <- whole; standAt e.pos; holding [v] (truthy v)):=by intro _; rfl):PT X e (tB t):=by
 refine ⟨?_⟩
 intro pins s σ H Q I hw
 refine isTrue_plain (thn (h pins s σ H _ I hw) fun v s1 ⟨x,H1,I1,r1,q1⟩=>?_) (he _)
 obtain ⟨d,rfl,q⟩:=q1
 cases r1
 exact wpAny_truthy_bool ⟨H1,I1,q⟩
variable {tA tB':TT} {rest:List Expr}
def tAnd (t u:TT):TT:=fun σ H Q=>t σ H fun c H1=>if c = true then u σ H1 Q else Q false H1
def tOr (t u:TT):TT:=fun σ H Q=>t σ H fun c H1=>if c = true then Q true H1 else u σ H1 Q
def tNot (t:TT):TT:=fun σ H Q=>t σ H fun c H1=>Q (!c) H1
theorem pw_and1 (ha:PT X a tA):PW X (.BoolOp .And [a] pos) tA:=by
 refine ⟨?_⟩
 intro wh pins s σ H Q I h
 refine isTrue_and (thn (ha pins s σ H Q I h) fun c s1 e=>?_)
 cases c with
 | true=>exact isTrue_and_nil e
 | false=>exact e
theorem pw_or1 (ha:PT X a tA):PW X (.BoolOp .Or [a] pos) tA:=by
 refine ⟨?_⟩
 intro wh pins s σ H Q I h
 refine isTrue_or (thn (ha pins s σ H Q I h) fun c s1 e=>?_)
 cases c with
 | false=>exact isTrue_or_nil e
 | true=>exact e
theorem pw_and (ha:PT X a tA) (hb:PW X (.BoolOp .And (b :: rest) pos) tB'):PW X (.BoolOp .And (a :: b :: rest) pos) (tAnd tA tB'):=by
 refine ⟨?_⟩
 intro wh pins s σ H Q I h
 refine isTrue_and (thn (ha pins s σ H _ I h) fun c s1 ⟨H1,I1,q1⟩=>?_)
 cases c with
 | true=>exact hb wh pins s1 σ H1 Q I1 q1
 | false=>exact ⟨H1,I1,q1⟩
theorem pw_or (ha:PT X a tA) (hb:PW X (.BoolOp .Or (b :: rest) pos) tB'):PW X (.BoolOp .Or (a :: b :: rest) pos) (tOr tA tB'):=by
 refine ⟨?_⟩
 intro wh pins s σ H Q I h
 refine isTrue_or (thn (ha pins s σ H _ I h) fun c s1 ⟨H1,I1,q1⟩=>?_)
 cases c with
 | true=>exact ⟨H1,I1,q1⟩
 | false=>exact hb wh pins s1 σ H1 Q I1 q1
theorem pt_not (ha:PT X a tA):PT X (.UnaryOp .Not a pos) (tNot tA):=by
 refine ⟨?_⟩
 intro pins s σ H Q I h
 exact isTrue_not (ha pins s σ H (fun c H1=>Q (!c) H1) I h)
def tAndV (ta tb:TE):TE:=fun σ H Q=>ta σ H fun x H1=>∃ c,x = .bl c/\if c = true then tb σ H1 Q else Q (.bl false) H1
def tOrV (ta tb:TE):TE:=fun σ H Q=>ta σ H fun x H1=>∃ c,x = .bl c/\if c = true then Q (.bl true) H1 else tb σ H1 Q
def tNotV (ta:TE):TE:=fun σ H Q=>ta σ H fun x H1=>∃ c,x = .bl c/\Q (.bl (!c)) H1
theorem pe_one {op} {t:TE} (h:PE X a t):PE X (.BoolOp op [a] pos) t:=⟨fun pins s σ H Q I hw=>BoolOp_one (h pins s σ H Q I hw)⟩
theorem pe_and (ha:PE X a ta) (hb:PE X (.BoolOp .And (b :: rest) pos) tb):PE X (.BoolOp .And (a :: b :: rest) pos) (tAndV ta tb):=by
 refine ⟨?_⟩
 intro pins s σ H Q I h
 refine BoolOp_and (thn (ha pins s σ H _ I h) fun v s1 ⟨x,H1,I1,r1,q1⟩=>?_)
 obtain ⟨c,rfl,q1⟩:=q1
 cases r1
 refine wpAny_truthy_bool ?_
 cases c with
 | true=>exact hb pins s1 σ H1 Q I1 q1
 | false=>exact ⟨.bl false,H1,I1,rfl,q1⟩
theorem pe_or (ha:PE X a ta) (hb:PE X (.BoolOp .Or (b :: rest) pos) tb):PE X (.BoolOp .Or (a :: b :: rest) pos) (tOrV ta tb):=by
 refine ⟨?_⟩
 intro pins s σ H Q I h
 refine BoolOp_or (thn (ha pins s σ H _ I h) fun v s1 ⟨x,H1,I1,r1,q1⟩=>?_)
 obtain ⟨c,rfl,q1⟩:=q1
 cases r1
 refine wpAny_truthy_bool ?_
 cases c with
 | false=>exact hb pins s1 σ H1 Q I1 q1
 | true=>exact ⟨.bl true,H1,I1,rfl,q1⟩
theorem pe_not (ha:PE X a ta):PE X (.UnaryOp .Not a pos) (tNotV ta):=by
 refine ⟨?_⟩
 intro pins s σ H Q I h
 refine UnaryOp_ (thn (ha pins s σ H _ I h) fun v s1 ⟨x,H1,I1,r1,q1⟩=>?_)
 obtain ⟨c,rfl,q1⟩:=q1
 cases r1
 exact not_of (wpAny_truthy_bool ⟨.bl (!c),H1,I1,rfl,q1⟩)
def tIf (t:TT) (ta tb:TE):TE:=fun σ H Q=>t σ H fun c H1=>if c = true then ta σ H1 Q else tb σ H1 Q
theorem pe_ifExp {c:Expr} (hc:PT X c tA) (ha:PE X a ta) (hb:PE X b tb):PE X (.IfExp c a b pos) (tIf tA ta tb):=by
 refine ⟨?_⟩
 intro pins s σ H Q I h
 refine wpAny_IfExp (thn (hc pins s σ H _ I h) fun d s1 ⟨H1,I1,q1⟩=>?_)
 cases d with
 | true=>exact ha pins s1 σ H1 Q I1 q1
 | false=>exact hb pins s1 σ H1 Q I1 q1
end
def SqL (K:PySem.W.Frag) (H:Hp) (a:Addr) (xs:List V):Prop:=
 Rd H a (.lst xs)\/
  ∃ (o:Obj) (its:Array Value) (n:Nat),K.lookup a = some o/\o.cls = .type "list"/\o.dict = none/\o.data = .seq its n/\its.size<=sizeLine/\Vals xs its.toList
def SqT (K:PySem.W.Frag) (H:Hp) (a:Addr) (xs:List V):Prop:=
 Rd H a (.tup xs)\/
  ∃ (o:Obj) (its:Array Value) (n:Nat),K.lookup a = some o/\o.cls = .type "tuple"/\o.data = .seq its n/\its.size<=sizeLine/\Vals xs its.toList
def absV:Value->Option V
 | .none=>some .non
 | .bool b=>some (.bl b)
 | .int i _=>some (.int i)
 | .str x _=>some (.str x)
 | .bytes b _=>some (.byt b)
 | .float b _=>some (.flt b)
 | .ref a=>some (.ref a)
 | .type n=>some (.ty n)
 | _=>none
theorem RelV.abs {x:V} {u:Value} (r:RelV x u):absV u = some x:=by
 cases x with
 | non=>cases r; rfl
 | bl _=>cases r; rfl
 | int _=>obtain ⟨t,rfl⟩:=r; rfl
 | str _=>obtain ⟨t,rfl⟩:=r; rfl
 | byt _=>obtain ⟨t,rfl⟩:=r; rfl
 | flt _=>obtain ⟨t,rfl⟩:=r; rfl
 | ref _=>cases r; rfl
 | ty _=>cases r; rfl
theorem RelV.inj {x y:V} {u:Value} (r:RelV x u) (q:RelV y u):x = y:=Option.some.inj (r.abs.symm.trans q.abs)
theorem Vals.inj:∀ {xs ys:List V} {us:List Value},Vals xs us->Vals ys us->xs = ys
 | _,_,_,.nil,.nil=>rfl
 | _,_,_,.cons r t,.cons r' t'=>by rw [r.inj r',Vals.inj t t']
section
variable {X:Cx} {pins:List (Addr × Obj)} {σ : St} {H:Hp} {s:Shared} {a:Addr} {xs ys:List V}
theorem SqL.of {K:PySem.W.Frag} (h:H a = some (.lst xs)):SqL K H a xs:=.inl (.inl h)
theorem SqT.of {K:PySem.W.Frag} (h:H a = some (.tup xs)):SqT K H a xs:=.inl (.inl h)
theorem Inv.list (I:Inv X pins σ H s) (h:SqL X.K H a xs):∃ its:List Value,Vals xs its/\PlainL s.heap a its.toArray/\xs.length<=sizeLine:=by
 rcases h with h | ⟨o,its,n,hk,hc,hd,hs,hz,r⟩
 ·obtain ⟨z,its,n,r,e⟩:=h.ok I.hok
  exact ⟨its,r,⟨_,n,e,rfl,rfl,rfl⟩,z⟩
 ·refine ⟨its.toList,r,⟨o,n,I.kIn a o hk,hc,hd,by simpa using hs⟩,?_⟩
  have e:=r.length
  simp only [Array.length_toList] at e
  omega
theorem Inv.tuple (I:Inv X pins σ H s) (h:SqT X.K H a xs):∃ its:List Value,Vals xs its/\IsTup s.heap a its.toArray/\xs.length<=sizeLine:=by
 rcases h with h | ⟨o,its,n,hk,hc,hs,hz,r⟩
 ·obtain ⟨z,its,r,p⟩:=h.ok I.hok
  exact ⟨its,r,p,z⟩
 ·refine ⟨its.toList,r,⟨o,I.kIn a o hk,hc,n,by simpa using hs⟩,?_⟩
  have e:=r.length
  simp only [Array.length_toList] at e
  omega
theorem Inv.list_inj (I:Inv X pins σ H s) (h:SqL X.K H a xs) (h':SqL X.K H a ys):xs = ys:=by
 obtain ⟨its,r,⟨o,n,e,_,_,d⟩,_⟩:=I.list h
 obtain ⟨its',r',⟨o',n',e',_,_,d'⟩,_⟩:=I.list h'
 rw [e] at e'; cases e'
 rw [d] at d'
 injection d' with d1 _
 have:its = its':=by simpa using congrArg Array.toList d1
 subst this
 exact r.inj r'
end
abbrev Cx.wish (X:Cx) (E:Value->Shared->Prop):Cx:={ X with xe:=E }
abbrev Cx.nox (X:Cx):Cx:=X.wish fun _ _=>False
theorem Cx.Ok.wish {X:Cx} (ok:X.Ok) (E:Value->Shared->Prop):(X.wish E).Ok:=
 ⟨ok.mod,ok.kind,ok.glob,ok.blt,ok.above,ok.inj,ok.has,ok.cab,ok.hd,ok.frames,ok.stk,ok.exf,ok.bs,ok.bsz,ok.noex,ok.exfs,ok.funs,ok.frf⟩
theorem Cx.Ok.unwish {X:Cx} {E:Value->Shared->Prop} (ok:(X.wish E).Ok):X.Ok:=
 ⟨ok.mod,ok.kind,ok.glob,ok.blt,ok.above,ok.inj,ok.has,ok.cab,ok.hd,ok.frames,ok.stk,ok.exf,ok.bs,ok.bsz,ok.noex,ok.exfs,ok.funs,ok.frf⟩
section
variable {X:Cx} {pins:List (Addr × Obj)} {σ : St} {H:Hp} {s:Shared} {E:Value->Shared->Prop}
theorem Inv.wish (I:Inv X pins σ H s) (E:Value->Shared->Prop):Inv (X.wish E) pins σ H s:=⟨I.ok.wish E,I.os,I.bare,I.base,I.loc,I.cell,I.free,I.freeC,I.pin,I.hok,I.len⟩
theorem Inv.unwish (I:Inv (X.wish E) pins σ H s):Inv X pins σ H s:=⟨I.ok.unwish,I.os,I.bare,I.base,I.loc,I.cell,I.free,I.freeC,I.pin,I.hok,I.len⟩
theorem SP.unwish {D:Ends} {f:Flow} {s':Shared} (h:SP (X.wish E) pins D f s'):SP X pins D f s':=by
 cases f with
 | next=>obtain ⟨σ',H',I,q⟩:=h; exact ⟨σ',H',I.unwish,q⟩
 | brk=>obtain ⟨σ',H',I,q⟩:=h; exact ⟨σ',H',I.unwish,q⟩
 | cont=>obtain ⟨σ',H',I,q⟩:=h; exact ⟨σ',H',I.unwish,q⟩
 | ret u=>obtain ⟨v,σ',H',I,r,q⟩:=h; exact ⟨v,σ',H',I.unwish,r,q⟩
theorem PSs.nox {st:List Stmt} {t:TS} (h:PSs X.nox st t):PSs X st t:=⟨fun pins s σ H D I hw=>
 wpAny_mono (h pins s σ H D (I.wish _) hw) (fun _ _ q=>q.unwish) fun _ _ z=>False.elim z⟩
end
section
variable {X:Cx} {st:Stmt} {rest:List Stmt} {t u:TS} {e:Expr} {te:TE} {pos:Pos}
def tNext:TS:=fun D σ H=>D.nx σ H
def tSeq (t u:TS):TS:=fun D σ H=>t { D with nx:=u D } σ H
theorem pss_nil:PSs X [] tNext:=⟨fun _ _ σ H _ I h=>wpAny_execs_nil ⟨σ,H,I,h⟩⟩
theorem pss_cons (h1:PS X st t) (h2:PSs X rest u):PSs X (st :: rest) (tSeq t u):=by
 refine ⟨?_⟩
 intro pins s σ H D I h
 refine wpAny_execs_cons (thn (h1 pins s σ H { D with nx:=u D } I h) fun f s1 q=>?_)
 cases f with
 | next=>
  obtain ⟨σ',H',I',q⟩:=q
  exact h2 pins s1 σ' H' D I' q
 | ret v=>exact q
 | brk=>exact q
 | cont=>exact q
theorem pss_one (h1:PS X st t):PSs X [st] t:=by
 refine ⟨?_⟩
 intro pins s σ H D I h
 refine wpAny_execs_cons (thn (h1 pins s σ H D I h) fun f s1 q=>?_)
 cases f with
 | next=>exact wpAny_execs_nil q
 | ret v=>exact q
 | brk=>exact q
 | cont=>exact q
theorem Inv.quiet {pins:List (Addr × Obj)} {σ : St} {H:Hp} {s:Shared} (I:Inv X pins σ H s):interactive X.env = false:=by simp [interactive,I.ok.kind]
def tDrop (te:TE):TS:=fun D σ H=>te σ H fun _ H1=>D.nx σ H1
theorem ps_expr (he:PE X e te) (hs:swapsWith e none pos.line X.env = pure false:=by rfl):PS X (.Expr e pos) (tDrop te):=by
 refine ⟨?_⟩
 intro pins s σ H D I h
 exact wpAny_Expr_any (thn (he pins s σ H _ I h) fun v s1 ⟨x,H1,I1,r1,q1⟩=>⟨σ,H1,I1,q1⟩) I.quiet hs
def tRet (te:TE):TS:=fun D σ H=>te σ H D.rt
theorem ps_ret (he:PE X e te):PS X (.Return (some e) pos) (tRet te):=by
 refine ⟨?_⟩
 intro pins s σ H D I h
 exact wpAny_Return_some (thn (he pins s σ H _ I h) fun v s1 ⟨x,H1,I1,r1,q1⟩=>⟨x,σ,H1,I1,r1,q1⟩)
def tIfS (c:TT) (t u:TS):TS:=fun D σ H=>c σ H fun b H1=>if b = true then t D σ H1 else u D σ H1
theorem ps_if {c:Expr} {a b:List Stmt} {tc:TT} (hc:PT X c tc) (ha:PSs X a t) (hb:PSs X b u):PS X (.If c a b pos) (tIfS tc t u):=by
 refine ⟨?_⟩
 intro pins s σ H D I h
 refine wpAny_If (thn (hc pins s σ H _ I h) fun d s1 ⟨H1,I1,q1⟩=>?_)
 cases d with
 | true=>exact ha pins s1 σ H1 D I1 q1
 | false=>exact hb pins s1 σ H1 D I1 q1
end
abbrev TG:=V->St->Hp->(St->Hp->Prop)->Prop
abbrev TGs:=List V->St->Hp->(St->Hp->Prop)->Prop
structure PG (X:Cx) (target:Expr) (t:TG):Prop where
 run:∀ (pins:List (Addr × Obj)) (s:Shared) (σ : St) (H:Hp) (v:V) (u:Value) (Q:St->Hp->Prop),Inv X pins σ H s->RelV v u->t v σ H Q->
  wpAny (model X.prog X.w) X.A (assign target X.env u) (fun _ s'=>∃ σ' H',Inv X pins σ' H' s'/\Q σ' H') X.xe s
instance {X:Cx} {target:Expr} {t:TG}:CoeFun (PG X target t) (fun _=>∀ (pins:List (Addr × Obj)) (s:Shared) (σ : St) (H:Hp) (v:V) (u:Value) (Q:St->Hp->Prop),Inv X pins σ H s->RelV v u->t v σ H Q->
  wpAny (model X.prog X.w) X.A (assign target X.env u) (fun _ s'=>∃ σ' H',Inv X pins σ' H' s'/\Q σ' H') X.xe s):=⟨PG.run⟩
structure PGs (X:Cx) (ts:List Expr) (t:TGs):Prop where
 run:∀ (pins:List (Addr × Obj)) (s:Shared) (σ : St) (H:Hp) (vs:List V) (us:List Value) (Q:St->Hp->Prop),Inv X pins σ H s->Vals vs us->t vs σ H Q->
  wpAny (model X.prog X.w) X.A (assignInOrder ((assignEach ts X.env).map (·.2)) us) (fun _ s'=>∃ σ' H',Inv X pins σ' H' s'/\Q σ' H') X.xe s
instance {X:Cx} {ts:List Expr} {t:TGs}:CoeFun (PGs X ts t) (fun _=>∀ (pins:List (Addr × Obj)) (s:Shared) (σ : St) (H:Hp) (vs:List V) (us:List Value) (Q:St->Hp->Prop),Inv X pins σ H s->Vals vs us->t vs σ H Q->
  wpAny (model X.prog X.w) X.A (assignInOrder ((assignEach ts X.env).map (·.2)) us) (fun _ s'=>∃ σ' H',Inv X pins σ' H' s'/\Q σ' H') X.xe s):=⟨PGs.run⟩
section
variable {X:Cx} {pos:Pos}
def gName (i:Nat):TG:=fun v σ H Q=>Q (σ.set i (some v)) H
theorem pg_name {i:Nat} {x:Str} (hN:X.N.Nodup) (hi:X.N[i]? = some x) (hx:Loc X.env.scope x) (hf:X.fn x = true\/X.env.scope.names.lookup x = some .local:=by first | exact .inl rfl | exact .inr rfl | assumption):PG X (.Name x pos) (gName i):=by
 refine ⟨?_⟩
 intro pins s σ H v u Q I r h
 exact wpAny_assign_Name (store_ok I hN hi hx r (fun s' I'=>⟨_,H,I',h⟩) hf)
def gNil:TGs:=fun vs σ H Q=>vs = []/\Q σ H
def gCons (t:TG) (u:TGs):TGs:=fun vs σ H Q=>∃ v r,vs = v :: r/\t v σ H fun σ' H'=>u r σ' H' Q
theorem pgs_nil:PGs X [] gNil:=by
 refine ⟨?_⟩
 intro pins s σ H vs us Q I r h
 obtain ⟨e,h⟩:=h
 subst e
 cases r
 exact assignInOrder_nil ⟨σ,H,I,h⟩
theorem pgs_cons {e:Expr} {es:List Expr} {t:TG} {u:TGs} (h1:PG X e t) (h2:PGs X es u)
  (hs:(assignEach (e :: es) X.env).map (·.2) = assign e X.env :: (assignEach es X.env).map (·.2):=by rfl):PGs X (e :: es) (gCons t u):=by
 refine ⟨?_⟩
 intro pins s σ H vs us Q I r h
 obtain ⟨v,vr,e1,h⟩:=h
 subst e1
 cases r with
 | cons r rr=>
  rw [hs]
  refine assignInOrder_cons (thn (h1 pins s σ H _ _ _ I r h) fun _ s1 ⟨σ1,H1,I1,q1⟩=>?_)
  exact h2 pins s1 σ1 H1 _ _ Q I1 rr q1
def gTup (K:PySem.W.Frag) (n:Nat) (t:TGs):TG:=fun v σ H Q=>∃ a xs,v = .ref a/\SqT K H a xs/\xs.length = n/\t xs σ H Q
theorem pg_tup {es:List Expr} {k:Nat} {t:TGs} {n:Nat} (hc:X.calm = true) (h:PGs X es t)
  (hn:(assignEach es X.env).length = n:=by rfl) (hst:(assignEach es X.env).findIdx? (·.1) = none:=by rfl):PG X (.Tuple es k pos) (gTup X.K n t):=by
 refine ⟨?_⟩
 intro pins s σ H v u Q I r hw
 obtain ⟨a,xs,e1,hq,hl,hw⟩:=hw
 subst e1
 cases r
 obtain ⟨its,rv,ht,hz⟩:=I.tuple hq
 refine assign_Tuple_tuple (I.ok.hd hc) ht (by simp [hn,<- hl,rv.length]) hst fun h' hx=>?_
 have I1:Inv X pins σ H { s with heap:=h' }:=I.kept (t':=s.toks) fun b o e=>hx b o (Nat.ne_of_lt (Heap.lt_size e)) e
 exact h pins _ σ H xs _ Q I1 (by simpa using rv) hw
def tAsg (te:TE) (g:TG):TS:=fun D σ H=>te σ H fun x H1=>g x σ H1 D.nx
theorem ps_asg {tg e:Expr} {te:TE} {g:TG} (he:PE X e te) (hg:PG X tg g) (hs:swapsWithSole [tg] e pos.line X.env = pure false:=by rfl) (hw:swappedStores [tg] e X.env = pure none:=by rfl)
  (h1:(assignEach [tg] X.env).map (·.2) = [assign tg X.env]:=by rfl):PS X (.Assign [tg] e pos) (tAsg te g):=by
 refine ⟨?_⟩
 intro pins s σ H D I h
 refine wpAny_Assign_stores (thn (he pins s σ H _ I h) fun v s1 ⟨x,H1,I1,r1,q1⟩=>?_) hs hw
 rw [h1]
 exact thn (hg pins s1 σ H1 x v _ I1 r1 q1) fun _ s2 q=>q
theorem ps_set {i:Nat} {x:Str} {e:Expr} {te:TE} {pos':Pos} (hN:X.N.Nodup) (hi:X.N[i]? = some x) (hx:Loc X.env.scope x) (he:PE X e te) (hs:swapsWith e (some (.Name x pos')) pos.line X.env = pure false:=by rfl) (hf:X.fn x = true\/X.env.scope.names.lookup x = some .local:=by first | exact .inl rfl | exact .inr rfl | assumption) :
  PS X (.Assign [.Name x pos'] e pos) (tAsg te (gName i)):=by
 refine ⟨?_⟩
 intro pins s σ H D I h
 refine wpAny_Assign_Name (thn (he pins s σ H _ I h) fun v s1 ⟨y,H1,I1,r1,q1⟩=>?_) hs
 exact store_ok I1 hN hi hx r1 (fun s2 I2=>⟨_,H1,I2,q1⟩) hf
end
structure It where
 go:Nat->Hp->Prop
 yld:Nat->Hp->V->Hp->Prop
 stop:Nat->Hp->Prop
def FpOk (X:Cx) (pins:List (Addr × Obj)) (H:Hp) (b:Addr):Prop:=
 H b = none/\b ≠ X.env.locals/\b ∉ X.fs/\(b ∈ X.ex\/X.s₀.heap.objs.size<=b)/\(∀ x c,X.env.cells.lookup x = some c->c ≠ b)/\∀ p ∈ X.pn ++ pins,p.1 ≠ b
theorem Inv.fpOk {X:Cx} {pins:List (Addr × Obj)} {σ : St} {H H':Hp} {s:Shared} {b:Addr} (I:Inv X pins σ H s) (hb:s.heap.objs.size<=b) (hn:H' b = none):FpOk X pins H' b:=by
 refine ⟨hn,Nat.ne_of_gt (Nat.lt_of_lt_of_le I.lt hb),I.nofs hb,.inr (Nat.le_trans I.sz hb),fun x c e z=>?_,fun p hp z=>?_⟩
 ·obtain ⟨v,q⟩:=I.cell x c e
  exact absurd (Nat.lt_of_lt_of_le q.lt (by rw [z]; exact hb)) (Nat.lt_irrefl _)
 ·exact absurd (Nat.lt_of_lt_of_le (Heap.lt_size (I.pin p hp).1) (by rw [z]; exact hb)) (Nat.lt_irrefl _)
structure Turn (P:Program) (w:World) (K:PySem.W.Frag) (tg:Expr) (J:It) (fp:List Addr) (it:Addr) (tn:Nat->Heap->Prop):Prop where
 mem:it ∈ fp
 obj:∀ i h,tn i h->∀ b ∈ fp,∃ o,h.get? b = some o/\∀ v,o.data ≠ .cell v
 keep:∀ i h h',tn i h->(∀ b ∈ fp,∀ o,h.get? b = some o->h'.get? b = some o)->tn i h'
 item:∀ (X:Cx),X.prog = P->X.w = w->X.K = K->X.calm = true->∀ (i:Nat) (pins:List (Addr × Obj)) (s:Shared) (σ : St) (H:Hp) (E:Value->Shared->Prop),Inv X pins σ H s->(∀ b ∈ fp,FpOk X pins H b)->tn i s.heap->J.go i H->
  wpAny (model P w) X.A (pyNext (.ref it)) (fun r s1=>∃ u,r = some u/\
   wpAny (model P w) X.A (letOwnedTupleGo tg (.ref it) u) (fun _ s2=>∃ x H',Inv X pins σ H' s2/\RelV x u/\J.yld i H x H'/\tn (i + 1) s2.heap/\∀ b ∈ fp,H' b = none) E s1) E s
 done:∀ (X:Cx),X.prog = P->X.w = w->X.K = K->X.calm = true->∀ (i:Nat) (pins:List (Addr × Obj)) (s:Shared) (σ : St) (H:Hp) (E:Value->Shared->Prop),Inv X pins σ H s->(∀ b ∈ fp,FpOk X pins H b)->tn i s.heap->J.stop i H->
  wpAny (model P w) X.A (pyNext (.ref it)) (fun r s1=>r = none/\Inv X pins σ H s1) E s
 self:∀ (A:Around) (i:Nat) (s:Shared) (Q:Value->Shared->Prop) (E:Value->Shared->Prop),tn i s.heap->Q (.ref it) s->wpAny (model P w) A (pyIter (.ref it)) Q E s
abbrev TI:=St->Hp->(It->Hp->Prop)->Prop
def PIE (X:Cx) (pins:List (Addr × Obj)) (σ : St) (tg:Expr) (R:It->Hp->Prop) (itv:Value) (s2:Shared):Prop:=
 ∃ (it:Addr) (fp:List Addr) (tn:Nat->Heap->Prop) (J:It) (H':Hp),itv = .ref it/\Inv X pins σ H' s2/\Turn X.prog X.w X.K tg J fp it tn/\tn 0 s2.heap/\(∀ b ∈ fp,FpOk X pins H' b)/\R J H'
structure PI (X:Cx) (tg iter:Expr) (wi:TI):Prop where
 run:∀ (pins:List (Addr × Obj)) (s:Shared) (σ : St) (H:Hp) (R:It->Hp->Prop),Inv X pins σ H s->wi σ H R->
  wpAny (model X.prog X.w) X.A (eval iter X.env) (fun v s1=>wpAny (model X.prog X.w) X.A (pyIter v) (PIE X pins σ tg R) X.xe s1) X.xe s
instance {X:Cx} {tg iter:Expr} {wi:TI}:CoeFun (PI X tg iter wi) (fun _=>∀ (pins:List (Addr × Obj)) (s:Shared) (σ : St) (H:Hp) (R:It->Hp->Prop),Inv X pins σ H s->wi σ H R->
  wpAny (model X.prog X.w) X.A (eval iter X.env) (fun v s1=>wpAny (model X.prog X.w) X.A (pyIter v) (PIE X pins σ tg R) X.xe s1) X.xe s):=⟨PI.run⟩
theorem go_of {M:Model} {A:Around} {E:Value->Shared->Prop} {s:Shared} {tg:Expr} {it:Addr} {u:Value} {o:Obj} {n:String} {vs:Array Value} {Q:Unit->Shared->Prop} (ho:s.heap.get? it = some o) (hc:o.cls = .type n) (hd:o.data = .fields vs)
  (hn:["enumerate","zip","dict_itemiterator","dict_reverseitemiterator","odict_iterator","itertools.zip_longest","itertools.pairwise"].contains n = false) (hQ:Q () s):wpAny M A (letOwnedTupleGo tg (.ref it) u) Q E s:=by
 unfold letOwnedTupleGo
 cases tg <;> first
  | exact wpAny_pure hQ
  | (cases u <;> first
    | exact wpAny_pure hQ
    | (refine wpAny_bind (wpAny_load ho ?_)
       rw [hc,hd]
       show wpAny M A (if (["enumerate","zip","dict_itemiterator","dict_reverseitemiterator","odict_iterator","itertools.zip_longest","itertools.pairwise"].contains n && vs[0]? == some (rawInt _)) = true then _ else _) Q E s
       rw [if_neg (by intro h; rw [hn,Bool.false_and] at h; cases h)]
       exact wpAny_pure hQ))
def Itl (K:PySem.W.Frag) (a:Addr):It:=
 ⟨fun i H=>∃ xs x,SqL K H a xs/\xs[i]? = some x,fun i H x H'=>H' = H/\∀ xs,SqL K H a xs->xs[i]? = some x,fun i H=>∃ xs,SqL K H a xs/\xs.length<=i⟩
def Itr (lo:Int) (n:Nat):It:=⟨fun i _=>i < n,fun i H x H'=>H' = H/\x = .int (lo + i),fun i _=>n<=i⟩
theorem turn_list {P:Program} {w:World} {K:PySem.W.Frag} {tg:Expr} (a it:Addr):Turn P w K tg (Itl K a) [it] it (fun i h=>h.IsListIter it a i) where
 mem:=by simp
 obj:=fun i h st b hb=>by
  have e:b = it:=by simpa using hb
  subst e
  obtain ⟨o,e,c,d⟩:=st
  exact ⟨o,e,fun v z=>by rw [d] at z; cases z⟩
 keep:=fun i h h' st k=>st.at fun o e=>k it (by simp) o e
 item:=by
  intro X hP hw hK hc i pins s σ H E I hf st hg
  subst hP hw hK
  obtain ⟨xs,x,hq,hx⟩:=hg
  obtain ⟨its,rv,p,hz⟩:=I.list hq
  obtain ⟨u,hu,ru⟩:=rv.get hx
  obtain ⟨f0,f1,f2,f3,f4,f5⟩:=hf it (by simp)
  refine wpAny_pyNext_list_item st p.isList (x:=u) (by simpa using hu) fun h' st' sb=>?_
  have I1:Inv X pins σ H { s with heap:=h' }:=I.turned (t':=s.toks) (fun b o hb e=>(sb.2 b hb).trans e) f0 f1 f3 f4 f5
  obtain ⟨o,e,c,d⟩:=id st'
  exact ⟨u,rfl,go_of (s:={ s with heap:=h' }) e c d (by decide) ⟨x,H,I1,ru,⟨rfl,fun ys hy=>by rw [I.list_inj hy hq]; exact hx⟩,st',fun b hb=>(hf b hb).1⟩⟩
 done:=by
  intro X hP hw hK hc i pins s σ H E I hf st hg
  subst hP hw hK
  obtain ⟨xs,hq,hx⟩:=hg
  obtain ⟨its,rv,p,hz⟩:=I.list hq
  obtain ⟨f0,f1,f2,f3,f4,f5⟩:=hf it (by simp)
  have hl:=rv.length
  exact wpAny_pyNext_list_end (I.ok.hd hc) st p.isList (by simp; omega) fun h' eb=>⟨rfl,I.turned (t':=s.toks) (fun b o hb e=>eb b o hb e) f0 f1 f3 f4 f5⟩
 self:=fun _ _ _ _ _ st h=>wpAny_pyIter_listiter st h
theorem turn_range {P:Program} {w:World} {K:PySem.W.Frag} {tg:Expr} (it:Addr) (lo:Int) (n:Nat):Turn P w K tg (Itr lo n) [it] it (fun i h=>IsRangeIter h it (lo + (i:Nat) * 1) ((n:Int) - (i:Nat)) 1) where
 mem:=by simp
 obj:=fun i h st b hb=>by
  have e:b = it:=by simpa using hb
  subst e
  exact ⟨_,st,fun v z=>by
   have z':Data.fields _ = Data.cell v:=z
   cases z'⟩
 keep:=fun i h h' st k=>k it (by simp) _ st
 item:=by
  intro X hP hw hK hc i pins s σ H E I hf st hg
  subst hP hw hK
  obtain ⟨f0,f1,f2,f3,f4,f5⟩:=hf it (by simp)
  have W:=Walks.range (prog:=X.prog) (w:=X.w) (I.ok.hd hc) it lo 1 n
  refine W.item i s _ _ hg st fun v h' tk hv st' kk=>?_
  obtain ⟨t,rfl⟩:=hv
  have I1:Inv X pins σ H { s with heap:=h',toks:=tk }:=I.turned (fun b o hb e=>kk b o (by simpa using hb) e) f0 f1 f3 f4 f5
  refine ⟨_,rfl,go_of (s:={ s with heap:=h',toks:=tk }) (n:="range_iterator") st' rfl rfl (by decide) ⟨.int (lo + i),H,I1,⟨t,?_⟩,⟨rfl,rfl⟩,st',fun b hb=>(hf b hb).1⟩⟩
  rw [Int.mul_one]
 done:=by
  intro X hP hw hK hc i pins s σ H E I hf st hg
  subst hP hw hK
  obtain ⟨f0,f1,f2,f3,f4,f5⟩:=hf it (by simp)
  exact wpAny_pyNext_range_end (I.ok.hd hc) st (by have:n<=i:=hg; omega) fun h' eb=>⟨rfl,I.turned (t':=s.toks) (fun b o hb e=>eb b o hb e) f0 f1 f3 f4 f5⟩
 self:=fun _ _ _ _ _ st h=>wpAny_pyIter_rangeiter st h
section
variable {X:Cx} {tg:Expr}
def iList (K:PySem.W.Frag) (tl:TE):TI:=fun σ H R=>tl σ H fun x H1=>∃ a,x = .ref a/\(∃ xs,SqL K H1 a xs)/\R (Itl K a) H1
theorem pi_list {l:Expr} {tl:TE} (hl:PE X l tl):PI X tg l (iList X.K tl):=by
 refine ⟨?_⟩
 intro pins s σ H R I h
 refine thn (hl pins s σ H _ I h) fun v s1 ⟨x,H1,I1,r1,q1⟩=>?_
 obtain ⟨a,e,⟨xs,hq⟩,q⟩:=q1
 subst e
 cases r1
 obtain ⟨its,rv,p,hz⟩:=I1.list hq
 refine wpAny_pyIter_list p.isList ?_
 refine ⟨s1.heap.objs.size,[s1.heap.objs.size],_,_,H1,rfl,I1.kept (t':=s1.toks) fun b o e=>Heap.get?_push_of_some _ e,turn_list a _,⟨_,Heap.get?_push_size _ rfl,rfl,rfl⟩,fun b hb=>?_,q⟩
 have e:b = s1.heap.objs.size:=by simpa using hb
 subst e
 exact I1.fpOk (Nat.le_refl _) (I1.hok.fresh (Nat.le_refl _))
theorem range_it {pins:List (Addr × Obj)} {σ : St} {H:Hp} {s:Shared} {R:It->Hp->Prop} {E:Value->Shared->Prop} {lo hi:Int} {t u v:Tok} {tk:Nat} (I:Inv X pins σ H s) (h1 : -(2 ^ 62)<=lo) (h2:lo < 2 ^ 62) (h3 : -(2 ^ 62)<=hi) (h4:hi < 2 ^ 62)
  (q:R (Itr lo (hi - lo).toNat) H):wpAny (model X.prog X.w) X.A (pyIter (.ref s.heap.objs.size)) (PIE X pins σ tg R) E { s with heap:=s.heap.push { cls:=.type "range",data:=.fields #[.int lo t,.int hi u,.int 1 v] },toks:=tk }:=by
 refine wpAny_pyIter_range (IsRange.new ..) (small_one h1 h2 h3 h4) ?_
 have I1:Inv X pins σ H { s with heap:=s.heap.push { cls:=.type "range",data:=.fields #[.int lo t,.int hi u,.int 1 v] },toks:=tk }:=I.kept fun b o e=>Heap.get?_push_of_some _ e
 refine ⟨(s.heap.push { cls:=.type "range",data:=.fields #[.int lo t,.int hi u,.int 1 v] }).objs.size,[(s.heap.push { cls:=.type "range",data:=.fields #[.int lo t,.int hi u,.int 1 v] }).objs.size],_,_,H,rfl,
  I1.kept (t':=tk) fun b o e=>Heap.get?_push_of_some _ e,turn_range _ lo (hi - lo).toNat,?_,fun b hb=>?_,q⟩
 ·have e1:lo + ((0:Nat):Int) * 1 = lo:=by simp
  have e2:(((hi - lo).toNat:Nat):Int) - ((0:Nat):Int) = Builtin.Range.rangeSize lo hi 1:=by rw [rangeSize_one]; split <;> omega
  show IsRangeIter _ _ (lo + ((0:Nat):Int) * 1) ((((hi - lo).toNat:Nat):Int) - ((0:Nat):Int)) 1
  rw [e1,e2]
  exact Heap.get?_push_size _ rfl
 ·have e:b = (s.heap.push { cls:=.type "range",data:=.fields #[.int lo t,.int hi u,.int 1 v] }).objs.size:=by simpa using hb
  subst e
  exact I1.fpOk (Nat.le_refl _) (I1.hok.fresh (Nat.le_refl _))
def iRng1 (ta:TA):TI:=fun σ H R=>ta σ H fun vs H1=>∃ j:Int,vs = [.int j]/\-(2 ^ 62)<=j/\j < 2 ^ 62/\R (Itr 0 j.toNat) H1
def iRng2 (ta:TA):TI:=fun σ H R=>ta σ H fun vs H1=>∃ i j:Int,vs = [.int i,.int j]/\(-(2 ^ 62)<=i/\i < 2 ^ 62/\-(2 ^ 62)<=j/\j < 2 ^ 62)/\R (Itr i (j - i).toNat) H1
theorem pi_range1 {a:Expr} {ta:TA} {p pos:Pos} (hg:Gl X "range") (hm:X.mg "range" = none) (ha:PA X [a] ta) (hs:starEach [a] X.env = [(false,eval a X.env)]:=by rfl):PI X tg (.Call (.Name "range" p) [a] [] pos) (iRng1 ta):=by
 refine ⟨?_⟩
 intro pins s σ H R I h
 refine Call_ (ld_blt I hg hm boot_range (PyProof.Rows.callWith_type1 (thn (ha pos pins s σ H _ I h) fun us s1 ⟨vs,H1,I1,r1,q1⟩=>?_) hs rfl))
 obtain ⟨j,e,q1,q2,q⟩:=q1
 subst e
 cases r1 with
 | cons r rr=>
  cases rr
  obtain ⟨t,rfl⟩:=r
  exact call_range_1 (range_it I1 (by omega) (by omega) q1 q2 (by simpa using q))
theorem pi_range2 {a b:Expr} {ta:TA} {p pos:Pos} (hg:Gl X "range") (hm:X.mg "range" = none) (ha:PA X [a,b] ta) (hs:starEach [a,b] X.env = [(false,eval a X.env),(false,eval b X.env)]:=by rfl) (hs2:starEach [b] X.env = [(false,eval b X.env)]:=by rfl) :
  PI X tg (.Call (.Name "range" p) [a,b] [] pos) (iRng2 ta):=by
 refine ⟨?_⟩
 intro pins s σ H R I h
 refine Call_ (ld_blt I hg hm boot_range (PyProof.Rows.callWith_type1 (thn (ha pos pins s σ H _ I h) fun us s1 ⟨vs,H1,I1,r1,q1⟩=>?_) (by rw [hs,hs2]) (by rw [hs2]; rfl)))
 obtain ⟨i,j,e,⟨q1,q2,q3,q4⟩,q⟩:=q1
 subst e
 cases r1 with
 | cons r rr=>
  cases rr with
  | cons r' rr=>
   cases rr
   obtain ⟨t,rfl⟩:=r
   obtain ⟨t',rfl⟩:=r'
   exact call_range_2 (range_it I1 q1 q2 q3 q4 q)
def tFor (wi:TI) (g:TG) (tb:TS):TS:=fun D σ H=>wi σ H fun J H1=>∃ W:Nat->Nat->St->Hp->Prop,(∃ m,W 0 m σ H1)/\∀ i m σ H,W i m σ H->
 (J.stop i H/\D.nx σ H)\/(J.go i H/\∃ N:St->Hp->Prop,(∀ σ' H',N σ' H'->∃ m',m' < m/\W (i + 1) m' σ' H')/\∀ x H',J.yld i H x H'->g x σ H' fun σ2 H2=>tb { D with nx:=N,ct:=N,bk:=D.nx } σ2 H2)
def pinsAt (fp:List Addr) (h:Heap):List (Addr × Obj):=fp.filterMap fun b=>(h.get? b).map fun o=>(b,o)
theorem mem_pinsAt {fp:List Addr} {h:Heap} {b:Addr} {o:Obj} (hb:b ∈ fp) (e:h.get? b = some o):(b,o) ∈ pinsAt fp h:=List.mem_filterMap.mpr ⟨b,hb,by rw [e]; rfl⟩
theorem of_pinsAt {fp:List Addr} {h:Heap} {p:Addr × Obj} (hp:p ∈ pinsAt fp h):p.1 ∈ fp/\h.get? p.1 = some p.2:=by
 obtain ⟨b,hb,e⟩:=List.mem_filterMap.mp hp
 cases q:h.get? b with
 | none=>rw [q] at e; cases e
 | some o=>
  rw [q] at e
  have e':(b,o) = p:=Option.some.inj e
  subst e'
  exact ⟨hb,q⟩
theorem Inv.pinned {pins:List (Addr × Obj)} {σ : St} {H:Hp} {s:Shared} {fp:List Addr} (I:Inv X pins σ H s) (hf:∀ b ∈ fp,FpOk X pins H b) (ho:∀ b ∈ fp,∃ o,s.heap.get? b = some o/\∀ v,o.data ≠ .cell v):Inv X (pins ++ pinsAt fp s.heap) σ H s:=
 I.pins_of fun p hp=>(List.mem_append.mp hp).elim (fun z=>I.pin p (List.mem_append_right _ z)) fun z=>by
  obtain ⟨hb,e⟩:=of_pinsAt z
  obtain ⟨f0,f1,f2,_⟩:=hf p.1 hb
  obtain ⟨o,e',d⟩:=ho p.1 hb
  rw [e] at e'; cases e'
  exact ⟨e,f0,f1,f2,d⟩
theorem Inv.unpinned {pins pl:List (Addr × Obj)} {σ : St} {H:Hp} {s:Shared} (I:Inv X (pins ++ pl) σ H s):Inv X pins σ H s:=I.pins_of fun p hp=>I.pin p (List.mem_append_right _ (List.mem_append_left _ hp))
theorem ps_for {iter:Expr} {body:List Stmt} {wi:TI} {g:TG} {tb:TS} {pos:Pos} (hp:PassesOwn (model X.prog X.w) X.A X.env X.xe) (hc:X.calm = true) (hi:PI X tg iter wi) (hg:PG X tg g) (hb:PSs X body tb)
  (hs:∀ x,foldedSetIterable iter X.env x = pure x:=by intro _; rfl):PS X (.For tg iter body [] pos) (tFor wi g tb):=by
 refine ⟨?_⟩
 intro pins s σ H D I h
 refine wpAny_For (thn (hi pins s σ H _ I h) fun v s1 h1=>thn h1 fun itv s2 h2=>?_) hs
 obtain ⟨it,fp,tn,J,H2,e,I2,T,st2,f2,W,⟨m0,w0⟩,turn⟩:=h2
 subst e
 have stat:∀ {H':Hp},(∀ b ∈ fp,H' b = none)->∀ b ∈ fp,FpOk X pins H' b:=fun hn b hb=>⟨hn b hb,(f2 b hb).2⟩
 refine codeAny_forLoop_any (fun n s'=>∃ i σ' H',Inv X pins σ' H' s'/\tn i s'.heap/\(∀ b ∈ fp,H' b = none)/\W i n σ' H') ?_ m0 ⟨0,σ,H2,I2,st2,fun b hb=>(f2 b hb).1,w0⟩
 rintro n s3 ⟨i,σ3,H3,I3,st3,fr3,w3⟩
 rcases turn i n σ3 H3 w3 with ⟨stop,qn⟩ | ⟨go,N,hN,step⟩
 ·refine wpAny_passesOwn hp (thn (T.done X rfl rfl rfl hc i pins s3 σ3 H3 X.xe I3 (stat fr3) st3 stop) fun r s4 ⟨hr,I4⟩=>?_)
  subst hr
  exact wpAny_execs_nil ⟨σ3,H3,I4,qn⟩
 ·refine wpAny_passesOwn hp (thn (T.item X rfl rfl rfl hc i pins s3 σ3 H3 X.xe I3 (stat fr3) st3 go) fun r s4 ⟨u,hr,h4⟩=>?_)
  subst hr
  refine wpAny_passesOwn hp (thn h4 fun _ s5 ⟨x,H5,I5,r5,y5,st5,fr5⟩=>?_)
  have I5':=I5.pinned (stat fr5) (T.obj _ _ st5)
  refine wpAny_passesOwn hp (thn (hg _ s5 σ3 H5 x u _ I5' r5 (step x H5 y5)) fun _ s6 ⟨σ6,H6,I6,q6⟩=>?_)
  refine wpAny_passesOwn hp (thn (hb _ s6 σ6 H6 _ I6 q6) fun f s7 q7=>?_)
  have again:∀ {σ7:St} {H7:Hp},Inv X (pins ++ pinsAt fp s5.heap) σ7 H7 s7->N σ7 H7->∃ m,m < n/\∃ i σ' H',Inv X pins σ' H' s7/\tn i s7.heap/\(∀ b ∈ fp,H' b = none)/\W i m σ' H':=fun {σ7 H7} I7 n7=>by
   obtain ⟨m',hm,w7⟩:=hN σ7 H7 n7
   refine ⟨m',hm,i + 1,σ7,H7,I7.unpinned,T.keep _ _ _ st5 fun b hb o e=>(I7.pin (b,o) (List.mem_append_right _ (List.mem_append_right _ (mem_pinsAt hb e)))).1,fun b hb=>?_,w7⟩
   obtain ⟨o,e,d⟩:=T.obj _ _ st5 b hb
   exact (I7.pin (b,o) (List.mem_append_right _ (List.mem_append_right _ (mem_pinsAt hb e)))).2.1
  cases f with
  | next=>obtain ⟨σ7,H7,I7,n7⟩:=q7; exact again I7 n7
  | cont=>obtain ⟨σ7,H7,I7,n7⟩:=q7; exact again I7 n7
  | brk=>obtain ⟨σ7,H7,I7,q7⟩:=q7; exact ⟨σ7,H7,I7.unpinned,q7⟩
  | ret v=>obtain ⟨x7,σ7,H7,I7,r7,q7⟩:=q7; exact ⟨x7,σ7,H7,I7.unpinned,r7,q7⟩
end
theorem for_list {K:PySem.W.Frag} {a:Addr} {xs:List V} {g:TG} {tb:TS} {D:Ends} {σ : St} {H:Hp} (Pv:Nat->St->Hp->Prop) (h0:Pv 0 σ H) (hl:∀ i σ H,i<=xs.length->Pv i σ H->SqL K H a xs)
  (hs:∀ i x σ H,xs[i]? = some x->Pv i σ H->g x σ H fun σ2 H2=>tb { D with nx:=Pv (i + 1),ct:=Pv (i + 1),bk:=D.nx } σ2 H2) (hd:∀ σ H,Pv xs.length σ H->D.nx σ H) :
  ∃ W:Nat->Nat->St->Hp->Prop,(∃ m,W 0 m σ H)/\∀ i m σ H,W i m σ H->
   ((Itl K a).stop i H/\D.nx σ H)\/((Itl K a).go i H/\∃ N:St->Hp->Prop,(∀ σ' H',N σ' H'->∃ m',m' < m/\W (i + 1) m' σ' H')/\∀ x H',(Itl K a).yld i H x H'->g x σ H' fun σ2 H2=>tb { D with nx:=N,ct:=N,bk:=D.nx } σ2 H2):=by
 refine ⟨fun i m σ H=>m = xs.length - i/\i<=xs.length/\Pv i σ H,⟨xs.length,by simp,Nat.zero_le _,h0⟩,?_⟩
 rintro i m σ H ⟨rfl,hi,p⟩
 have q:=hl i σ H hi p
 by_cases hlt:i < xs.length
 ·refine .inr ⟨⟨xs,xs[i],q,by simp [hlt]⟩,Pv (i + 1),fun σ' H' p'=>⟨xs.length - (i + 1),by omega,rfl,hlt,p'⟩,fun x H' y=>?_⟩
  obtain ⟨e,y⟩:=y
  subst e
  exact hs i x σ _ (y xs q) p
 ·have e:i = xs.length:=by omega
  subst e
  exact .inl ⟨⟨xs,q,Nat.le_refl _⟩,hd σ H p⟩
theorem for_range {lo:Int} {n:Nat} {g:TG} {tb:TS} {D:Ends} {σ : St} {H:Hp} (Pv:Nat->St->Hp->Prop) (h0:Pv 0 σ H)
  (hs:∀ i σ H,i < n->Pv i σ H->g (.int (lo + i)) σ H fun σ2 H2=>tb { D with nx:=Pv (i + 1),ct:=Pv (i + 1),bk:=D.nx } σ2 H2) (hd:∀ σ H,Pv n σ H->D.nx σ H) :
  ∃ W:Nat->Nat->St->Hp->Prop,(∃ m,W 0 m σ H)/\∀ i m σ H,W i m σ H->
   ((Itr lo n).stop i H/\D.nx σ H)\/((Itr lo n).go i H/\∃ N:St->Hp->Prop,(∀ σ' H',N σ' H'->∃ m',m' < m/\W (i + 1) m' σ' H')/\∀ x H',(Itr lo n).yld i H x H'->g x σ H' fun σ2 H2=>tb { D with nx:=N,ct:=N,bk:=D.nx } σ2 H2):=by
 refine ⟨fun i m σ H=>m = n - i/\i<=n/\Pv i σ H,⟨n,by simp,Nat.zero_le _,h0⟩,?_⟩
 rintro i m σ H ⟨rfl,hi,p⟩
 by_cases hlt:i < n
 ·refine .inr ⟨hlt,Pv (i + 1),fun σ' H' p'=>⟨n - (i + 1),by omega,rfl,hlt,p'⟩,fun x H' y=>?_⟩
  obtain ⟨e,y⟩:=y
  subst e y
  exact hs i σ _ hlt p
 ·have e:i = n:=by omega
  subst e
  exact .inl ⟨Nat.le_refl _,hd σ H p⟩
abbrev R2:=V->V->Hp->VK->Prop
def OpR (X:Cx) (f:Value->Value->Sem Value) (r:R2):Prop:=
 ∀ (pins:List (Addr × Obj)) (s:Shared) (σ : St) (H:Hp) (x y:V) (v u:Value) (Q:VK),Inv X pins σ H s->RelV x v->RelV y u->r x y H Q->
  wpAny (model X.prog X.w) X.A (f v u) (EP X pins σ Q) X.xe s
def UnR (X:Cx) (f:Value->Sem Value) (r:V->Hp->VK->Prop):Prop:=
 ∀ (pins:List (Addr × Obj)) (s:Shared) (σ : St) (H:Hp) (x:V) (v:Value) (Q:VK),Inv X pins σ H s->RelV x v->r x H Q->
  wpAny (model X.prog X.w) X.A (f v) (EP X pins σ Q) X.xe s
def CallR (X:Cx) (f:Value) (r:List V->Hp->VK->Prop):Prop:=
 ∀ (pins:List (Addr × Obj)) (s:Shared) (σ : St) (H:Hp) (xs:List V) (us:List Value) (Q:VK),Inv X pins σ H s->Vals xs us->r xs H Q->
  wpAny (model X.prog X.w) X.A (call f us) (EP X pins σ Q) X.xe s
def tOp (r:R2) (ta tb:TE):TE:=fun σ H Q=>ta σ H fun x H1=>tb σ H1 fun y H2=>r x y H2 Q
def tUn (r:V->Hp->VK->Prop) (ta:TE):TE:=fun σ H Q=>ta σ H fun x H1=>r x H1 Q
def rI (C:Int->Int->Prop) (g:Int->Int->V):R2:=fun x y H Q=>∃ i j,x = .int i/\y = .int j/\C i j/\Q (g i j) H
def rI0 (g:Int->Int->V):R2:=fun x y H Q=>∃ i j,x = .int i/\y = .int j/\Q (g i j) H
def rU (g:Int->V):V->Hp->VK->Prop:=fun x H Q=>∃ i,x = .int i/\Q (g i) H
section
variable {X:Cx} {a b c:Expr} {ta tb tc:TE} {pos:Pos}
theorem binT (ha:PE X a ta) (hb:PE X b tb) {pins:List (Addr × Obj)} {s:Shared} {σ : St} {H:Hp} {R:V->V->Hp->Prop} (I:Inv X pins σ H s)
  (h:ta σ H fun x H1=>tb σ H1 fun y H2=>R x y H2) {Q:Value->Shared->Prop} {f:Value->Value->Sem Value}
  (hf:∀ v u s2 x y H2,Inv X pins σ H2 s2->RelV x v->RelV y u->R x y H2->wpAny (model X.prog X.w) X.A (f v u) Q X.xe s2) :
  wpAny (model X.prog X.w) X.A (eval a X.env) (fun v s₁=>wpAny (model X.prog X.w) X.A (eval b X.env) (fun u s₂=>wpAny (model X.prog X.w) X.A (f v u) Q X.xe s₂) X.xe s₁) X.xe s:=by
 refine thn (ha pins s σ H _ I h) fun v s1 ⟨x,H1,I1,r1,q1⟩=>?_
 refine thn (hb pins s1 σ H1 _ I1 q1) fun u s2 ⟨y,H2,I2,r2,q2⟩=>?_
 exact hf v u s2 x y H2 I2 r1 r2 q2
theorem pe_op {op:Operator} {r:R2} (ho:OpR X (binaryOp op) r) (ha:PE X a ta) (hb:PE X b tb):PE X (.BinOp a op b pos) (tOp r ta tb):=by
 refine ⟨?_⟩
 intro pins s σ H Q I h
 exact wpAny_BinOp (binT ha hb I h fun v u s2 x y H2 I2 rx ry q=>ho pins s2 σ H2 x y v u Q I2 rx ry q)
theorem pe_un {op:UnaryOp} {r:V->Hp->VK->Prop} (ho:UnR X (unaryOp op) r) (ha:PE X a ta):PE X (.UnaryOp op a pos) (tUn r ta):=by
 refine ⟨?_⟩
 intro pins s σ H Q I h
 exact UnaryOp_ (thn (ha pins s σ H _ I h) fun v s1 ⟨x,H1,I1,r1,q1⟩=>ho pins s1 σ H1 x v Q I1 r1 q1)
theorem opI {f:Value->Value->Sem Value} {C:Int->Int->Prop} {g:Int->Int->Int}
  (rule:∀ (i j:Int) (t u:Tok) (s:Shared) (Q:Value->Shared->Prop) (E:Value->Shared->Prop),C i j->Q (.int (g i j) s.toks) { s with toks:=s.toks + 1 }->wpAny (model X.prog X.w) X.A (f (.int i t) (.int j u)) Q E s) :
  OpR X f (rI C fun i j=>.int (g i j)):=by
 intro pins s σ H x y v u Q I rx ry h
 obtain ⟨i,j,rfl,rfl,hc,q⟩:=h
 obtain ⟨t,rfl⟩:=rx
 obtain ⟨t',rfl⟩:=ry
 exact rule i j t t' s _ _ hc ⟨.int (g i j),H,I.tok _,⟨_,rfl⟩,q⟩
theorem opI0 {f:Value->Value->Sem Value} {g:Int->Int->Int}
  (rule:∀ (i j:Int) (t u:Tok) (s:Shared) (Q:Value->Shared->Prop) (E:Value->Shared->Prop),Q (.int (g i j) s.toks) { s with toks:=s.toks + 1 }->wpAny (model X.prog X.w) X.A (f (.int i t) (.int j u)) Q E s) :
  OpR X f (rI0 fun i j=>.int (g i j)):=by
 intro pins s σ H x y v u Q I rx ry h
 obtain ⟨i,j,rfl,rfl,q⟩:=h
 obtain ⟨t,rfl⟩:=rx
 obtain ⟨t',rfl⟩:=ry
 exact rule i j t t' s _ _ ⟨.int (g i j),H,I.tok _,⟨_,rfl⟩,q⟩
theorem opB0 {f:Value->Value->Sem Value} {g:Int->Int->Bool}
  (rule:∀ (i j:Int) (t u:Tok) (s:Shared) (Q:Value->Shared->Prop) (E:Value->Shared->Prop),Q (.bool (g i j)) s->wpAny (model X.prog X.w) X.A (f (.int i t) (.int j u)) Q E s) :
  OpR X f (rI0 fun i j=>.bl (g i j)):=by
 intro pins s σ H x y v u Q I rx ry h
 obtain ⟨i,j,rfl,rfl,q⟩:=h
 obtain ⟨t,rfl⟩:=rx
 obtain ⟨t',rfl⟩:=ry
 exact rule i j t t' s _ _ ⟨.bl (g i j),H,I,rfl,q⟩
def CDiv (i j:Int):Prop:=0 < j/\j < 1073741824
def CPow (i j:Int):Prop:=0<=j/\j<=1000000/\i.natAbs < 2 ^ 64
def CMul (i j:Int):Prop:=(-(2 ^ 64) < i/\i < 2 ^ 64)\/(-(2 ^ 64) < j/\j < 2 ^ 64)
theorem CMul.ok {i j:Int} (h:CMul i j):IntMulOk i j:=by
 rcases h with ⟨h1,h2⟩ | ⟨h1,h2⟩
 ·exact .of_left (intBits_le_64 h1 h2)
 ·exact .of_right (intBits_le_64 h1 h2)
theorem op_add:OpR X (binaryOp .Add) (rI0 fun i j=>.int (i + j)):=opI0 fun _ _ _ _ _ _ _ q=>add_int q
theorem op_sub:OpR X (binaryOp .Sub) (rI0 fun i j=>.int (i - j)):=opI0 fun _ _ _ _ _ _ _ q=>sub_int q
theorem op_mul:OpR X (binaryOp .Mult) (rI CMul fun i j=>.int (i * j)):=opI fun _ _ _ _ _ _ _ hc q=>mul_int q hc.ok
theorem op_fdiv:OpR X (binaryOp .FloorDiv) (rI CDiv fun i j=>.int (i / j)):=opI fun i j _ _ _ _ _ hc q=>by
 have h1:(0:Int) < j:=hc.1
 have h2:j < 1073741824:=hc.2
 exact floordiv_int (by omega) (by rw [Int.fdiv_eq_ediv_of_nonneg i (by omega)]; exact q) (.inl (PyProof.noPylong_small (by omega)))
theorem op_mod:OpR X (binaryOp .Mod) (rI (fun _ j=>0 < j) fun i j=>.int (i % j)):=opI fun i j _ _ _ _ _ hc q=>by
 have h1:(0:Int) < j:=hc
 exact mod_int' (by omega) (by rw [Int.fmod_eq_emod_of_nonneg i (by omega)]; exact q)
theorem op_pow:OpR X (binaryOp .Pow) (rI CPow fun i j=>.int (i ^ j.toNat)):=opI fun _ _ _ _ _ _ _ hc q=>pow_int_small hc.1 hc.2.1 hc.2.2 q
theorem unI {f:Value->Sem Value} {g:Int->Int}
  (rule:∀ (i:Int) (t:Tok) (s:Shared) (Q:Value->Shared->Prop) (E:Value->Shared->Prop),Q (.int (g i) s.toks) { s with toks:=s.toks + 1 }->wpAny (model X.prog X.w) X.A (f (.int i t)) Q E s) :
  UnR X f (rU fun i=>.int (g i)):=by
 intro pins s σ H x v Q I rx h
 obtain ⟨i,rfl,q⟩:=h
 obtain ⟨t,rfl⟩:=rx
 exact rule i t s _ _ ⟨.int (g i),H,I.tok _,⟨_,rfl⟩,q⟩
theorem un_neg:UnR X (unaryOp .USub) (rU fun i=>.int (-i)):=unI fun _ _ _ _ _ q=>neg_int q
end
def scal:V->V->Bool
 | .non,.non=>true | .non,.int _=>true | .int _,.non=>true | .non,.bl _=>true | .bl _,.non=>true | .non,.str _=>true | .str _,.non=>true
 | .int _,.int _=>true | .bl _,.bl _=>true | .str _,.str _=>true | .byt _,.byt _=>true
 | .int _,.str _=>true | .str _,.int _=>true | .bl _,.str _=>true | .str _,.bl _=>true
 | _,_=>false
def rEq:R2:=fun x y H Q=>scal x y = true/\Q (.bl (decide (x = y))) H
def rNe:R2:=fun x y H Q=>scal x y = true/\Q (.bl (!decide (x = y))) H
theorem dec_int {i j:Int}:decide (V.int i = V.int j) = (i == j):=by
 rw [Bool.eq_iff_iff]
 simp
theorem dec_bl {i j:Bool}:decide (V.bl i = V.bl j) = (i == j):=by
 rw [Bool.eq_iff_iff]
 simp
theorem dec_str {i j:Str}:decide (V.str i = V.str j) = (i == j):=by
 rw [Bool.eq_iff_iff]
 simp
theorem dec_byt {i j:Array UInt8}:decide (V.byt i = V.byt j) = (i.toList == j.toList):=by
 rw [Bool.eq_iff_iff]
 cases i
 cases j
 simp
section
variable {X:Cx} {a b c:Expr} {ta tb tc:TE} {pos:Pos}
theorem fin_bl {pins:List (Addr × Obj)} {σ : St} {H:Hp} {s:Shared} {Q:VK} {k k':Bool} (I:Inv X pins σ H s) (q:Q (.bl k) H) (e:k = k'):EP X pins σ Q (.bool k') s:=by
 subst e
 exact ⟨.bl k,H,I,rfl,q⟩
theorem op_eq:OpR X (compareOp .Eq) rEq:=by
 intro pins s σ H x y v u Q I rx ry h
 obtain ⟨hs,q⟩:=h
 cases x with
 | non=>
  cases rx
  cases y with
  | non=>cases ry; exact PySem.EqNone.eq_none_none (fin_bl I q (by simp))
  | bl j=>cases ry; exact PySem.EqNone.eq_none_bool (fin_bl I q (by simp))
  | int j=>obtain ⟨t',rfl⟩:=ry; exact PySem.EqNone.eq_none_int (fin_bl I q (by simp))
  | str j=>obtain ⟨t',rfl⟩:=ry; exact PySem.EqNone.eq_none_str (fin_bl I q (by simp))
  | _=>exact absurd (show false = true from hs) Bool.false_ne_true
 | bl i=>
  cases rx
  cases y with
  | non=>cases ry; exact PySem.EqNone.eq_bool_none (fin_bl I q (by simp))
  | bl j=>cases ry; exact eq_bool (fin_bl I q dec_bl)
  | str j=>obtain ⟨t',rfl⟩:=ry; exact PySem.EqMixed.eq_bool_str (fin_bl I q (by simp))
  | _=>exact absurd (show false = true from hs) Bool.false_ne_true
 | int i=>
  obtain ⟨t,rfl⟩:=rx
  cases y with
  | non=>cases ry; exact PySem.EqNone.eq_int_none (fin_bl I q (by simp))
  | int j=>obtain ⟨t',rfl⟩:=ry; exact eq_int (fin_bl I q dec_int)
  | str j=>obtain ⟨t',rfl⟩:=ry; exact PySem.EqMixed.eq_int_str (fin_bl I q (by simp))
  | _=>exact absurd (show false = true from hs) Bool.false_ne_true
 | str i=>
  obtain ⟨t,rfl⟩:=rx
  cases y with
  | non=>cases ry; exact PySem.EqNone.eq_str_none (fin_bl I q (by simp))
  | bl j=>cases ry; exact PySem.EqMixed.eq_str_bool (fin_bl I q (by simp))
  | int j=>obtain ⟨t',rfl⟩:=ry; exact PySem.EqMixed.eq_str_int (fin_bl I q (by simp))
  | str j=>obtain ⟨t',rfl⟩:=ry; exact eq_str (fin_bl I q dec_str)
  | _=>exact absurd (show false = true from hs) Bool.false_ne_true
 | byt i=>
  obtain ⟨t,rfl⟩:=rx
  cases y with
  | byt j=>obtain ⟨t',rfl⟩:=ry; exact PySem.W.eq_bytes (fin_bl I q dec_byt)
  | _=>exact absurd (show false = true from hs) Bool.false_ne_true
 | _=>cases y <;> exact absurd (show false = true from hs) Bool.false_ne_true
theorem op_ne:OpR X (compareOp .NotEq) rNe:=by
 intro pins s σ H x y v u Q I rx ry h
 obtain ⟨hs,q⟩:=h
 cases x with
 | non=>
  cases rx
  cases y with
  | non=>cases ry; exact PySem.EqNone.ne_none_none (fin_bl I q (by simp))
  | bl j=>cases ry; exact PySem.EqNone.ne_none_bool (fin_bl I q (by simp))
  | int j=>obtain ⟨t',rfl⟩:=ry; exact PySem.EqNone.ne_none_int (fin_bl I q (by simp))
  | str j=>obtain ⟨t',rfl⟩:=ry; exact PySem.EqNone.ne_none_str (fin_bl I q (by simp))
  | _=>exact absurd (show false = true from hs) Bool.false_ne_true
 | bl i=>
  cases rx
  cases y with
  | non=>cases ry; exact PySem.EqNone.ne_bool_none (fin_bl I q (by simp))
  | bl j=>cases ry; exact ne_bool (fin_bl I q (congrArg not dec_bl))
  | str j=>obtain ⟨t',rfl⟩:=ry; exact PySem.EqMixed.ne_bool_str (fin_bl I q (by simp))
  | _=>exact absurd (show false = true from hs) Bool.false_ne_true
 | int i=>
  obtain ⟨t,rfl⟩:=rx
  cases y with
  | non=>cases ry; exact PySem.EqNone.ne_int_none (fin_bl I q (by simp))
  | int j=>obtain ⟨t',rfl⟩:=ry; exact ne_int (fin_bl I q (congrArg not dec_int))
  | str j=>obtain ⟨t',rfl⟩:=ry; exact PySem.EqMixed.ne_int_str (fin_bl I q (by simp))
  | _=>exact absurd (show false = true from hs) Bool.false_ne_true
 | str i=>
  obtain ⟨t,rfl⟩:=rx
  cases y with
  | non=>cases ry; exact PySem.EqNone.ne_str_none (fin_bl I q (by simp))
  | bl j=>cases ry; exact PySem.EqMixed.ne_str_bool (fin_bl I q (by simp))
  | int j=>obtain ⟨t',rfl⟩:=ry; exact PySem.EqMixed.ne_str_int (fin_bl I q (by simp))
  | str j=>obtain ⟨t',rfl⟩:=ry; exact ne_str (fin_bl I q (congrArg not dec_str))
  | _=>exact absurd (show false = true from hs) Bool.false_ne_true
 | byt i=>
  obtain ⟨t,rfl⟩:=rx
  cases y with
  | byt j=>obtain ⟨t',rfl⟩:=ry; exact PySem.W.ne_bytes (fin_bl I q (congrArg not dec_byt))
  | _=>exact absurd (show false = true from hs) Bool.false_ne_true
 | _=>cases y <;> exact absurd (show false = true from hs) Bool.false_ne_true
theorem op_lt:OpR X (compareOp .Lt) (rI0 fun i j=>.bl (decide (i < j))):=opB0 fun _ _ _ _ _ _ _ q=>lt_int q
theorem op_le:OpR X (compareOp .LtE) (rI0 fun i j=>.bl (decide (i<=j))):=opB0 fun _ _ _ _ _ _ _ q=>le_int q
theorem op_gt:OpR X (compareOp .Gt) (rI0 fun i j=>.bl (decide (j < i))):=opB0 fun _ _ _ _ _ _ _ q=>gt_int q
theorem op_ge:OpR X (compareOp .GtE) (rI0 fun i j=>.bl (decide (j<=i))):=opB0 fun _ _ _ _ _ _ _ q=>ge_int q
theorem op_in_str:OpR X (compareOp .In) (fun x y H Q=>∃ i j,x = .str i/\y = .str j/\Q (.bl (!(Builtin.Str.occurrences j i 0 j.length 1).isEmpty)) H):=by
 intro pins s σ H x y v u Q I rx ry h
 obtain ⟨i,j,rfl,rfl,q⟩:=h
 obtain ⟨t,rfl⟩:=rx
 obtain ⟨t',rfl⟩:=ry
 exact in_str (fin_bl I q rfl)
theorem OpR.or {f:Value->Value->Sem Value} {r r':R2} (h:OpR X f r) (h':OpR X f r'):OpR X f (fun x y H Q=>r x y H Q\/r' x y H Q):=by
 intro pins s σ H x y v u Q I rx ry q
 rcases q with q | q
 ·exact h pins s σ H x y v u Q I rx ry q
 ·exact h' pins s σ H x y v u Q I rx ry q
theorem nomark (b:Expr) {op:CmpOp} (h:op ≠ .In:=by decide) (h2:op ≠ .NotIn:=by decide):behindInMarks op b = false:=by
 have e1:(op == CmpOp.In) = false:=by cases op <;> first | rfl | exact absurd rfl h
 have e2:(op == CmpOp.NotIn) = false:=by cases op <;> first | rfl | exact absurd rfl h2
 cases b <;> simp [behindInMarks,e1,e2]
theorem pe_cmpR {op:CmpOp} {r:R2} (ho:OpR X (compareOp op) r) (ha:PE X a ta) (hb:PE X b tb) (hm:behindInMarks op b = false):PE X (.Compare a [op] [b] pos) (tOp r ta tb):=by
 refine ⟨?_⟩
 intro pins s σ H Q I h
 exact wpAny_Compare1 (binT ha hb I h fun v u s2 x y H2 I2 rx ry q=>ho pins s2 σ H2 x y v u Q I2 rx ry q) hm
def tTest (t:TE):TT:=fun σ H Q=>t σ H fun x H'=>∃ k,x = .bl k/\Q k H'
theorem pt_cmpR {op:CmpOp} {r:R2} (ho:OpR X (compareOp op) r) (ha:PE X a ta) (hb:PE X b tb) (hm:behindInMarks op b = false):PT X (.Compare a [op] [b] pos) (tTest (tOp r ta tb)):=by
 refine ⟨?_⟩
 intro pins s σ H Q I h
 refine wpAny_isTrue_Compare1 (thn (ha pins s σ H _ I h) fun v s1 ⟨x,H1,I1,r1,q1⟩=>thn (hb pins s1 σ H1 _ I1 q1) fun u s2 ⟨y,H2,I2,r2,q2⟩=>
  thn (ho pins s2 σ H2 x y v u _ I2 r1 r2 q2) fun c s3 ⟨z,H3,I3,r3,k,e,q3⟩=>?_) hm
 subst e
 cases r3
 exact wpAny_truthy_bool ⟨H3,I3,q3⟩
def tChain (r r':R2) (ta tb tc:TE):TE:=fun σ H Q=>ta σ H fun x H1=>tb σ H1 fun y H2=>r x y H2 fun z H3=>∃ k,z = .bl k/\
 (if k = true then tc σ H3 fun w' H4=>r' y w' H4 Q else Q (.bl false) H3)
theorem pt_chain {op op':CmpOp} {r r':R2} (ho:OpR X (compareOp op) r) (ho':OpR X (compareOp op') r') (ha:PE X a ta) (hb:PE X b tb) (hc:PE X c tc)
  (hm:lastMarks [op,op'] [b,c] = false:=by with_unfolding_all rfl):PT X (.Compare a [op,op'] [b,c] pos) (tTest (tChain r r' ta tb tc)):=by
 refine ⟨?_⟩
 intro pins s σ H Q I h
 refine isTrue_chain (thn (ha pins s σ H _ I h) fun v s1 ⟨x,H1,I1,r1,q1⟩=>test_link (thn (hb pins s1 σ H1 _ I1 q1) fun u s2 ⟨y,H2,I2,r2,q2⟩=>
  thn (ho pins s2 σ H2 x y v u _ I2 r1 r2 q2) fun d s3 ⟨z,H3,I3,r3,k,e,q3⟩=>?_)) hm
 subst e
 cases r3
 refine wpAny_truthy_bool ?_
 cases k with
 | false=>
  obtain ⟨k',e',q'⟩:=q3
  cases e'
  exact ite_ff ⟨H3,I3,q'⟩
 | true=>
  refine ite_tt (test_last (thn (hc pins s3 σ H3 _ I3 q3) fun w' s4 ⟨z',H4,I4,r4,q4⟩=>thn (ho' pins s4 σ H4 y z' u w' _ I4 r2 r4 q4) fun d' s5 ⟨z2,H5,I5,r5,k2,e2,q5⟩=>?_))
  subst e2
  cases r5
  exact wpAny_truthy_bool ⟨H5,I5,q5⟩
theorem line63:(sizeLine:Nat) < 2 ^ 63:=by rw [sizeLine_eq]; decide
theorem op_add_str:OpR X (binaryOp .Add) (fun x y H Q=>∃ i j,x = .str i/\y = .str j/\i.length + j.length<=sizeLine/\Q (.str (i ++ j)) H):=by
 intro pins s σ H x y v u Q I rx ry h
 obtain ⟨i,j,rfl,rfl,hz,q⟩:=h
 obtain ⟨t,rfl⟩:=rx
 obtain ⟨t',rfl⟩:=ry
 exact add_str (fun t' tk=>⟨.str (i ++ j),H,I.tok _,⟨_,rfl⟩,q⟩) hz
theorem vals1 {x:V} {us:List Value} (r:Vals [x] us):∃ u,us = [u]/\RelV x u:=by
 cases r with
 | cons r1 r2=>cases r2; exact ⟨_,rfl,r1⟩
theorem vals2 {x y:V} {us:List Value} (r:Vals [x,y] us):∃ u w',us = [u,w']/\RelV x u/\RelV y w':=by
 cases r with
 | cons r1 r2=>
  cases r2 with
  | cons r3 r4=>cases r4; exact ⟨_,_,rfl,r1,r3⟩
theorem call_min2 (hc:X.calm = true):CallR X (.builtin "min") (fun xs H Q=>∃ i j,xs = [.int i,.int j]/\Q (.int (if j < i then j else i)) H):=by
 intro pins s σ H xs us Q I r h
 obtain ⟨i,j,rfl,q⟩:=h
 obtain ⟨u,w',rfl,⟨t,rfl⟩,⟨t',rfl⟩⟩:=vals2 r
 refine min_two_ints (I.ok.hd hc) fun h' tk k=>⟨_,H,I.kept k,?_,q⟩
 by_cases hj:j < i
 ·rw [if_pos hj,if_pos hj]; exact ⟨_,rfl⟩
 ·rw [if_neg hj,if_neg hj]; exact ⟨_,rfl⟩
end
structure ObjM (h:Heap) (x dx C:Addr) (mA:Str->Option Value):Prop where
 obj:h.get? x = some (PySem.W.instObj C dx)
 ns:h.Ns1 dx mA
 ne:dx ≠ x
theorem lookIn_ns {h:Heap} {dx:Addr} {mA:Str->Option Value} (n:h.Ns1 dx mA):∃ od,h.get? dx = some od/\∀ name,PySem.W.lookIn name od = some (mA name):=by
 obtain ⟨o,es,ep,ho,hd,hk,_,hm⟩:=n
 refine ⟨o,ho,fun name=>?_⟩
 have e:=hm name
 unfold nsFind findBy at e
 rw [<- Array.find?_toList] at e
 unfold PySem.W.lookIn
 rw [hd]
 dsimp only
 split
 ·rename_i y q
  rw [q] at e
  exact congrArg some e
 ·rename_i q
  rw [q] at e
  have a:es.toList.any (·.refKey) = false:=by
   rw [List.any_eq_false]
   intro y hy
   obtain ⟨z,t,hkey⟩:=hk y (Array.mem_toList_iff.mp hy)
   simp [DictEntry.refKey,hkey]
  have a':¬ es.toList.any (·.refKey) = true:=by rw [a]; exact Bool.false_ne_true
  rw [if_neg a']
  exact congrArg some e
theorem ObjM.look {h:Heap} {x dx C:Addr} {mA:Str->Option Value} (I:ObjM h x dx C mA):∃ od,PySem.W.InstAt h x (PySem.W.instObj C dx) C (some od)/\∀ name,PySem.W.lookIn name od = some (mA name):=
 let ⟨od,ho,hl⟩:=lookIn_ns I.ns
 ⟨od,⟨I.obj,rfl,rfl,ho⟩,hl⟩
section
variable {prog:Program} {w:World} {A:Around} {E:Value->Shared->Prop} {s:Shared} {K:PySem.W.Frag} {x dx C f:Addr} {mA:Str->Option Value} {name:Str} {v:Value}
theorem get_map {expr:Bool} {Q:Value->Shared->Prop} (X:K.In s.heap) (I:ObjM s.heap x dx C mA) (hg:PySem.W.plainGet K C name = true) (hh:PySem.W.hasDictIn K C = true)
  (ha:PySem.W.findIn K (.ref C) name = some none) (hv:mA name = some v) (hv':PySem.W.handedIn v = true) (h:Q v { s with toks:=s.toks + 1 }) :
  wpAny (model prog w) A (getAttr (.ref x) name expr) Q E s:=by
 obtain ⟨od,J,hl⟩:=I.look
 exact PySem.W.get_value X J (PySem.W.plainGet_of hg).1 (PySem.W.findObj_own hh ha rfl (by rw [hl,hv])) hv' h
theorem get_meth {pl:Sem Bool} {Q:Value × List Value->Shared->Prop} (X:K.In s.heap) (I:ObjM s.heap x dx C mA) (hg:PySem.W.plainGet K C name = true)
  (hf:PySem.W.findIn K (.ref C) name = some (some (.ref f))) (ht:PySem.W.isFn K (.ref f) = true) (hv:mA name = none) (h:Q (.ref f,[.ref x]) s) :
  wpAny (model prog w) A (getMethod (.ref x) name pl) Q E s:=by
 obtain ⟨od,J,hl⟩:=I.look
 exact PySem.W.method_fn X J (PySem.W.plainGet_of hg).1 (PySem.W.plainGet_of hg).2 hf (beq_iff_eq.mp ht) (by show (PySem.W.lookIn name od).map (·.isSome) = some false; rw [hl,hv]; rfl) h
theorem set_map {ns:List Str} {Q:Unit->Shared->Prop} (X:K.In s.heap) (I:ObjM s.heap x dx C mA)
  (hs:PySem.W.findIn K (.ref C) "__setattr__" = some (some (.builtin "object.__setattr__"))) (hp:PySem.W.plainOver K C = true) (ht:PySem.W.takerIn K C name = some none) (hh:PySem.W.hasDictIn K C = true)
  (hw:PySem.Within mA ns) (hsz:ns.length<=sizeLine)
  (h:∀ h',ObjM h' x dx C (fun y=>if y = name then some v else mA y)->Heap.SameBut dx s.heap h'->Q () { s with heap:=h',toks:=s.toks + 2 }) :
  wpAny (model prog w) A (setAttr (.ref x) name v) Q E s:=by
 obtain ⟨od,J,hl⟩:=I.look
 refine PySem.W.set_plain X J hs (PySem.W.osa_open (s:={ s with toks:=s.toks + 1 }) (r:=none) X J hp ht fun b=>?_)
 obtain ⟨cd,hc,hd'⟩:=PySem.W.any_some hh
 have hx:s.heap.get? x = some ⟨.ref C,some dx,.plain,#[]⟩:=I.obj
 refine wpAny_bind (wpAny_pure (wpAny_bind (wpAny_bind (wpAny_loadPart hx (wpAny_bind (PySem.W.Looks.here (s:={ s with toks:=s.toks + 1 }) (PySem.W.looks_clsIn X hc) ?_))))))
 rw [hd']
 refine wpAny_pure (a:=some dx) (wpAny_bind (wpAny_pure (wpAny_bind ?_)))
 refine wpAny_nsSet1 (s:={ s with toks:=s.toks + 1 }) I.ns fun h' hn2 hs2=>?_
 obtain ⟨oD,esD,epD,hoD,hdD,hcD⟩:=hn2.count (PySem.Within.cons name v hw)
 refine wpAny_bind (wpAny_lookBehind hoD (by rw [hdD]; exact pastItsLine_dict (Nat.le_trans hcD (by rw [List.length_cons]; omega))) ?_)
 exact wpAny_pure (h _ ⟨(hs2.2 _ (Ne.symm I.ne)).trans I.obj,hn2,I.ne⟩ hs2)
theorem make_map {R:Result->Shared->Prop} {vs:List Value} {kw:List (Str × Value)} (X:K.In s.heap) (hm:PySem.W.makesIn K C = true)
  (hi:PySem.W.findIn K (.ref C) "__init__" = some (some (.ref f))) (hf:PySem.W.typeIn K (.ref f) = some (.type "function"))
  (h:codeAny (model prog w) (A.under (.builtin "type.__call__" ⟨.ref C :: vs,kw⟩)) (.call (.ref f) ⟨.ref (s.heap.objs.size + 1) :: vs,kw⟩) (PySem.W.InitBack (s.heap.objs.size + 1) R)
   { s with heap:=(s.heap.push PySem.W.emptyDict).push (PySem.W.instObj C s.heap.objs.size) }) :
  codeAny (model prog w) A (.call (.ref C) ⟨vs,kw⟩) R s:=by
 obtain ⟨hh,g,d,t,os⟩:=s
 exact PySem.W.make_core (PySem.W.makes_of X hm) (PySem.W.looks_findIn X hi) (fun self=>PySem.W.bind_fn X self hf) (.inl rfl) h
end
def putF (f:Str) (v:V):List (Str × V)->List (Str × V)
 | []=>[(f,v)]
 | (g,x) :: r=>if g = f then (g,v) :: r else (g,x) :: putF f v r
theorem lookup_putF (f g:Str) (v:V):∀ fs:List (Str × V),(putF f v fs).lookup g = if g = f then some v else fs.lookup g
 | []=>by
  show List.lookup g [(f,v)] = _
  by_cases h:g = f
  ·have hb:(g == f) = true:=beq_iff_eq.mpr h
   simp only [List.lookup,hb,if_pos h]
  ·have hb:(g == f) = false:=beq_eq_false_iff_ne.mpr h
   simp only [List.lookup,hb,if_neg h]
 | (k,x) :: r=>by
  have ih:=lookup_putF f g v r
  rw [show putF f v ((k,x) :: r) = (if k = f then (k,v) :: r else (k,x) :: putF f v r) from rfl]
  by_cases hk:k = f
  ·rw [if_pos hk]
   by_cases h:g = k
   ·have hb:(g == k) = true:=beq_iff_eq.mpr h
    simp only [List.lookup,hb,if_pos (h.trans hk)]
   ·have hb:(g == k) = false:=beq_eq_false_iff_ne.mpr h
    simp only [List.lookup,hb,if_neg (fun e:g = f=>h (e.trans hk.symm))]
  ·rw [if_neg hk]
   by_cases h:g = k
   ·have hb:(g == k) = true:=beq_iff_eq.mpr h
    simp only [List.lookup,hb,if_neg (fun e:g = f=>hk (h.symm.trans e))]
   ·have hb:(g == k) = false:=beq_eq_false_iff_ne.mpr h
    simp only [List.lookup,hb]
    exact ih
theorem keys_putF (f:Str) (v:V):∀ fs:List (Str × V),f ∈ (putF f v fs).map (·.1)/\∀ g,g ∈ fs.map (·.1)->g ∈ (putF f v fs).map (·.1)
 | []=>⟨by simp [putF],fun g h=>by simp at h⟩
 | (k,x) :: r=>by
  obtain ⟨i1,i2⟩:=keys_putF f v r
  rw [show putF f v ((k,x) :: r) = (if k = f then (k,v) :: r else (k,x) :: putF f v r) from rfl]
  by_cases hk:k = f
  ·rw [if_pos hk]
   subst hk
   exact ⟨by simp,fun g h=>by simpa using h⟩
  ·rw [if_neg hk]
   refine ⟨?_,fun g h=>?_⟩
   ·rw [List.map_cons]
    exact List.mem_cons_of_mem _ i1
   ·rw [List.map_cons] at h |-
    rcases List.mem_cons.mp h with e | e
    ·exact List.mem_cons.mpr (.inl e)
    ·exact List.mem_cons_of_mem _ (i2 g e)
theorem length_putF (f:Str) (v:V):∀ fs:List (Str × V),(putF f v fs).length<=fs.length + 1
 | []=>by simp [putF]
 | (k,x) :: r=>by
  have ih:=length_putF f v r
  rw [show putF f v ((k,x) :: r) = (if k = f then (k,v) :: r else (k,x) :: putF f v r) from rfl]
  by_cases hk:k = f
  ·rw [if_pos hk,List.length_cons,List.length_cons]; omega
  ·rw [if_neg hk,List.length_cons,List.length_cons]; omega
theorem RelO.some_of {v:V} {o:Option Value} (r:RelO (some v) o):∃ u,o = some u/\RelV v u:=by
 cases o with
 | none=>exact (show False from r).elim
 | some u=>exact ⟨u,rfl,r⟩
theorem RelO.none_of {o:Option Value} (r:RelO none o):o = none:=by
 cases o with
 | none=>rfl
 | some u=>exact (show False from r).elim
theorem handed_of {v:V} {u:Value} (r:RelV v u):PySem.W.handedIn u = true:=by
 cases v with
 | non=>cases (show u = Value.none from r); rfl
 | bl b=>cases (show u = Value.bool b from r); rfl
 | int i=>obtain ⟨t,e⟩:=(show ∃ t,u = Value.int i t from r); cases e; rfl
 | str x=>obtain ⟨t,e⟩:=(show ∃ t,u = Value.str x t from r); cases e; rfl
 | byt b=>obtain ⟨t,e⟩:=(show ∃ t,u = Value.bytes b t from r); cases e; rfl
 | flt b=>obtain ⟨t,e⟩:=(show ∃ t,u = Value.float b t from r); cases e; rfl
 | ref a=>cases (show u = Value.ref a from r); rfl
 | ty n=>cases (show u = Value.type n from r); rfl
section
variable {P:Program} {w:World} {H H':Hp} {h h':Heap} {a C dx:Addr} {fs fs':List (Str × V)}
theorem ins_get (hok:HOk P w H h) (e:H a = some (.ins C dx fs)):∃ mA,ObjM h a dx C mA/\(∀ f,RelO (fs.lookup f) (mA f))/\PySem.Within mA (fs.map (·.1))/\fs.length<=1000/\H dx = some (.own a):=by
 obtain ⟨d,z,ne,ob,mA,n,r,q⟩:=(show ObjOk P w H h a (.ins C dx fs) from hok a _ e)
 exact ⟨mA,⟨ob,n,ne⟩,r,q,z,d⟩
end
structure Cls (K:PySem.W.Frag) (C:Addr):Prop where
 pg:PySem.W.plainGet K C Str.empty = true
 hd:PySem.W.hasDictIn K C = true
 po:PySem.W.plainOver K C = true
 sa:PySem.W.findIn K (.ref C) "__setattr__" = some (some (.builtin "object.__setattr__"))
theorem Cls.get {K:PySem.W.Frag} {C:Addr} (c:Cls K C) (f:Str):PySem.W.plainGet K C f = true:=c.pg
def NoAttr (K:PySem.W.Frag) (C:Addr) (f:Str):Prop:=PySem.W.findIn K (.ref C) f = some none
theorem NoAttr.taker {K:PySem.W.Frag} {C:Addr} {f:Str} (n:NoAttr K C f):PySem.W.takerIn K C f = some none:=by
 unfold PySem.W.takerIn
 rw [show PySem.W.findIn K (.ref C) f = some none from n]
 rfl
structure Meth (K:PySem.W.Frag) (C:Addr) (m:Str) (f:Addr):Prop where
 at_:PySem.W.findIn K (.ref C) m = some (some (.ref f))
 fn:PySem.W.isFn K (.ref f) = true
 kp:PySem.W.keepIn K (.ref f) = true
section
variable {X:Cx} {pins:List (Addr × Obj)} {σ : St} {H:Hp} {s:Shared} {a C dx:Addr} {fs:List (Str × V)} {f:Str} {v:V} {A:Around} {E:Value->Shared->Prop}
theorem getattr_ok {b:Bool} {Q:Value->Shared->Prop} (I:Inv X pins σ H s) (e:H a = some (.ins C dx fs)) (c:Cls X.K C) (n:NoAttr X.K C f) (l:fs.lookup f = some v)
  (h:∀ u s',Inv X pins σ H s'->RelV v u->Q u s'):wpAny (model X.prog X.w) A (getAttr (.ref a) f b) Q E s:=by
 obtain ⟨mA,O,r,_,_,_⟩:=ins_get I.hok e
 obtain ⟨u,hu,ru⟩:=RelO.some_of (v:=v) (o:=mA f) (by rw [<- l]; exact r f)
 exact get_map I.kIn O (c.get f) c.hd n hu (handed_of ru) (h u _ (I.tok _) ru)
theorem getmeth_ok {m:Str} {g:Addr} {pl:Sem Bool} {Q:Value × List Value->Shared->Prop} (I:Inv X pins σ H s) (e:H a = some (.ins C dx fs)) (c:Cls X.K C) (k:Meth X.K C m g) (l:fs.lookup m = none)
  (h:Q (.ref g,[.ref a]) s):wpAny (model X.prog X.w) A (getMethod (.ref a) m pl) Q E s:=by
 obtain ⟨mA,O,r,_,_,_⟩:=ins_get I.hok e
 have hn:mA m = none:=RelO.none_of (by rw [<- l]; exact r m)
 exact get_meth I.kIn O (c.get m) k.at_ k.fn hn h
theorem setattr_ok {y:V} {u:Value} {Q:Unit->Shared->Prop} (I:Inv X pins σ H s) (e:H a = some (.ins C dx fs)) (c:Cls X.K C) (n:NoAttr X.K C f) (hl:fs.length < 1000) (ry:RelV y u)
  (h:∀ s',Inv X pins σ (upd H a (.ins C dx (putF f y fs))) s'->Q () s'):wpAny (model X.prog X.w) A (setAttr (.ref a) f u) Q E s:=by
 obtain ⟨mA,O,r,wi,_,ho⟩:=ins_get I.hok e
 have hz:(fs.map (·.1)).length<=sizeLine:=by rw [List.length_map,sizeLine_eq]; omega
 refine set_map I.kIn O c.sa c.po n.taker c.hd wi hz fun h' O' sb=>h _ ?_
 have hd:∃ o,h'.get? dx = some o:=let ⟨o,_,_,e',_⟩:=O'.ns; ⟨o,e'⟩
 refine I.write (x:=a) (e:=dx) (by rw [e]; exact True.intro) (.inr ho) (fun b q hb z=>(sb.2 b hb).trans z) hd ?_
 refine ⟨by rw [upd_ne O.ne]; exact ho,?_,O.ne,O'.obj,_,O'.ns,fun g=>?_,fun g hg=>?_⟩
 ·have:=length_putF f y fs; omega
 ·show RelO ((putF f y fs).lookup g) (if g = f then some u else mA g)
  rw [lookup_putF]
  by_cases q:g = f
  ·rw [if_pos q,if_pos q]; exact ry
  ·rw [if_neg q,if_neg q]; exact r g
 ·by_cases q:g = f
  ·rw [q]; exact (keys_putF f y fs).1
  ·refine (keys_putF f y fs).2 g (wi g fun z=>hg ?_)
   show (if g = f then some u else mA g) = none
   rw [if_neg q]; exact z
theorem Inv.made (I:Inv X pins σ H s):Inv X pins σ (upd (upd H s.heap.objs.size (.own (s.heap.objs.size + 1))) (s.heap.objs.size + 1) (.ins C s.heap.objs.size []))
  { s with heap:=(s.heap.push PySem.W.emptyDict).push (PySem.W.instObj C s.heap.objs.size) }:=by
 have e1:(s.heap.push PySem.W.emptyDict).get? s.heap.objs.size = some PySem.W.emptyDict:=Heap.get?_push_size s.heap rfl
 have e2:((s.heap.push PySem.W.emptyDict).push (PySem.W.instObj C s.heap.objs.size)).get? (s.heap.objs.size + 1) = some (PySem.W.instObj C s.heap.objs.size):=by
  have:=Heap.get?_push_size (s.heap.push PySem.W.emptyDict) (o:=PySem.W.instObj C s.heap.objs.size) rfl
  rwa [Heap.size_push] at this
 have e3:(s.heap.push PySem.W.emptyDict).Ns s.heap.objs.size (fun _=>none):=⟨PySem.W.emptyDict,#[],_,e1,rfl,(fun e he=>absurd he (by simp)),fun _=>rfl⟩
 have I1:=I.laid (a:=s.heap.objs.size) (o:=.own (s.heap.objs.size + 1)) (h':=s.heap.push PySem.W.emptyDict) (t':=s.toks) (fun b u q=>Heap.get?_push_of_some _ q) (Nat.le_refl _) ⟨_,e1⟩
 refine I1.laid (a:=s.heap.objs.size + 1) (o:=.ins C s.heap.objs.size []) (t':=s.toks) (fun b u q=>Heap.get?_push_of_some _ q) (Nat.le_of_eq (Heap.size_push _ _)) ?_
 have ne:s.heap.objs.size ≠ s.heap.objs.size + 1:=Nat.ne_of_lt (Nat.lt_succ_self _)
 refine ⟨by rw [upd_ne ne,upd_same],Nat.zero_le _,ne,e2,fun _=>none,(Heap.Ns1.of_empty e3).at fun o q=>Heap.get?_push_of_some _ q,fun _=>True.intro,fun y hy=>absurd rfl hy⟩
theorem attr_of {prog:Program} {w:World} {env:Env} {e:Expr} {f:Str} {pos:Pos} {s:Shared} {Q:Value->Shared->Prop} (hb:attributeBase e f env (eval e env) = eval e env)
  (h:wpAny (model prog w) A (eval e env) (fun o s₁=>wpAny (model prog w) A (getAttr o f true) Q E s₁) E s):wpAny (model prog w) A (eval (.Attribute e f pos) env) Q E s:=
 Attribute_any_ h (by rw [arm_eval_Attribute,hb])
end
def tFld (K:PySem.W.Frag) (ta:TE) (f:Str):TE:=fun σ H Q=>ta σ H fun x H1=>∃ a C dx fs v,x = .ref a/\H1 a = some (.ins C dx fs)/\Cls K C/\NoAttr K C f/\fs.lookup f = some v/\Q v H1
def sFld (K:PySem.W.Frag) (ta tv:TE) (f:Str):TS:=fun D σ H=>tv σ H fun y H1=>ta σ H1 fun x H2=>∃ a C dx fs,x = .ref a/\H2 a = some (.ins C dx fs)/\Cls K C/\NoAttr K C f/\fs.length < 1000/\
 D.nx σ (upd H2 a (.ins C dx (putF f y fs)))
section
variable {X:Cx} {o e value:Expr} {f:Str} {pos pos' tpos:Pos} {ta tv:TE}
theorem pe_fld (he:PE X e ta) (hb:attributeBase e f X.env (eval e X.env) = eval e X.env):PE X (.Attribute e f pos) (tFld X.K ta f):=by
 refine ⟨?_⟩
 intro pins s σ H Q I h
 refine attr_of hb (thn (he pins s σ H _ I h) fun u s1 ⟨x,H1,I1,rx,a,C,dx,fs,v,ex,ea,c,n,l,q⟩=>?_)
 subst ex
 obtain rfl:u = Value.ref a:=rx
 exact getattr_ok I1 ea c n l fun u' s2 I2 ru=>⟨v,H1,I2,ru,q⟩
theorem ps_fld (ha:PE X o ta) (hv:PE X value tv) (hs:swapsWith value (some (.Attribute o f pos')) pos.line X.env = pure false):PS X (.Assign [.Attribute o f pos'] value pos) (sFld X.K ta tv f):=by
 refine ⟨?_⟩
 intro pins s σ H D I h
 refine plainObj_wpAny_Assign_Attribute (thn (hv pins s σ H _ I h) fun u s1 ⟨y,H1,I1,ry,q⟩=>thn (ha pins s1 σ H1 _ I1 q) fun ov s2 ⟨x,H2,I2,rx,a,C,dx,fs,ex,ea,c,n,l,q2⟩=>?_) hs
 subst ex
 obtain rfl:ov = Value.ref a:=rx
 exact setattr_ok I2 ea c n l ry fun s3 I3=>⟨σ,_,I3,q2⟩
theorem methcall_of {pl:Sem Bool} {m:Str} {apos:Pos} {args:List Expr} {pins:List (Addr × Obj)} {s:Shared} {σ : St} {H:Hp} {Q:Value->Shared->Prop} {te:TE} (he:PE X e te) (I:Inv X pins σ H s)
  (h:te σ H fun x H1=>∃ a C dx fs g,x = .ref a/\H1 a = some (.ins C dx fs)/\Cls X.K C/\Meth X.K C m g/\fs.lookup m = none/\
   ∀ s1,Inv X pins σ H1 s1->wpAny (model X.prog X.w) X.A (callWith pos (.ref g) [.ref a] (backTo pos (starEach args X.env)) (backToKw pos (keywordEach [] X.env))) Q X.xe s1)
  (ht:eval (.Call (.Attribute e m apos) args [] pos) X.env = (do
   let ov <- eval e X.env
   standAt apos.atName
   let (f,first) <- holding [ov] (getMethod ov m pl)
   callWith pos f first (backTo pos (starEach args X.env)) (backToKw pos (keywordEach [] X.env)))) :
  wpAny (model X.prog X.w) X.A (eval (.Call (.Attribute e m apos) args [] pos) X.env) Q X.xe s:=by
 refine PySem.W.methodCall_KW (pl:=pl) (thn (he pins s σ H _ I h) fun u s1 ⟨x,H1,I1,rx,a,C,dx,fs,g,ex,ea,c,k,l,q⟩=>?_) ht
 subst ex
 obtain rfl:u = Value.ref a:=rx
 exact getmeth_ok I1 ea c k l (q s1 I1)
end
section
variable {X:Cx} {pins:List (Addr × Obj)} {σ : St} {H:Hp} {s:Shared} {A:Around} {E:Value->Shared->Prop} {Q:Value->Shared->Prop} {c:Value} {b:Bool}
inductive TyOf (K:PySem.W.Frag) (H:Hp):V->Value->Prop where
 | non:TyOf K H .non (.type "NoneType")
 | bl (x:Bool):TyOf K H (.bl x) (.type "bool")
 | int (i:Int):TyOf K H (.int i) (.type "int")
 | str (x:Str):TyOf K H (.str x) (.type "str")
 | flt (x:UInt64):TyOf K H (.flt x) (.type "float")
 | lst {a:Addr} {xs:List V} (e:H a = some (.lst xs)):TyOf K H (.ref a) (.type "list")
 | frz {a:Addr} {o:Obj} {xs:List V} (e:H a = some (.frz o (.lst xs))):TyOf K H (.ref a) (.type "list")
 | tup {a:Addr} {xs:List V} (e:H a = some (.tup xs)):TyOf K H (.ref a) (.type "tuple")
 | dK {a:Addr} {kvs:List (Key × V)} (e:H a = some (.dK kvs)):TyOf K H (.ref a) (.type "dict")
 | dT {a:Addr} {kvs:List (List Key × V)} (e:H a = some (.dT kvs)):TyOf K H (.ref a) (.type "dict")
 | ins {a C dx:Addr} {fs:List (Str × V)} (e:H a = some (.ins C dx fs)) (cl:Cls K C) (ha:PySem.W.findIn K (.ref C) "__class__" = some (some (.builtin "object.__class__")))
   (hn:PySem.W.specialIn K (.builtin "object.__class__") "__get__" = some (some (.builtin "getset_descriptor.__get__"))) (htk:PySem.W.takesIn K (.builtin "object.__class__") = some true)
   (hm:PySem.W.mroIn K C (.type "object") = some true):TyOf K H (.ref a) (.ref C)
theorem isinst_ok {x:V} {u t:Value} (I:Inv X pins σ H s) (rx:RelV x u) (ty:TyOf X.K H x t) (e:PySem.W.kitOne X.K t c = some b) (h:∀ tk,Q (.bool b) { s with toks:=tk }) :
  wpAny (model X.prog X.w) A (call (.builtin "isinstance") [u,c]) Q E s:=by
 cases ty with
 | non=>cases (show u = Value.none from rx); exact PySem.W.kia_one PySem.W.kitx_none I.kIn True.intro e (fun z=>nomatch z) h
 | bl y=>cases (show u = Value.bool y from rx); exact PySem.W.kia_one PySem.W.kitx_bool I.kIn True.intro e (fun z=>nomatch z) h
 | int i=>obtain ⟨t,q⟩:=(show ∃ t,u = Value.int i t from rx); cases q; exact PySem.W.kia_one PySem.W.kitx_int I.kIn True.intro e (fun z=>nomatch z) h
 | str y=>obtain ⟨t,q⟩:=(show ∃ t,u = Value.str y t from rx); cases q; exact PySem.W.kia_one PySem.W.kitx_str I.kIn True.intro e (fun z=>nomatch z) h
 | flt y=>obtain ⟨t,q⟩:=(show ∃ t,u = Value.float y t from rx); cases q; exact PySem.W.kia_one PySem.W.kitx_float I.kIn True.intro e (fun z=>nomatch z) h
 | @lst a xs ea=>
  cases (show u = Value.ref a from rx)
  obtain ⟨_,_,n,_,h1⟩:=(show ObjOk X.prog X.w H s.heap a (.lst xs) from I.hok a _ ea)
  exact PySem.W.kia_one PySem.W.kitx_list I.kIn ⟨_,h1,rfl⟩ e (fun z=>nomatch z) h
 | @frz a ob xs ea=>
  cases (show u = Value.ref a from rx)
  obtain ⟨_,_,_,n,_,h1⟩:=(show ObjOk X.prog X.w H s.heap a (.frz ob (.lst xs)) from I.hok a _ ea)
  exact PySem.W.kia_one PySem.W.kitx_list I.kIn ⟨_,h1,rfl⟩ e (fun z=>nomatch z) h
 | @tup a xs ea=>
  cases (show u = Value.ref a from rx)
  obtain ⟨_,_,_,p⟩:=(show ObjOk X.prog X.w H s.heap a (.tup xs) from I.hok a _ ea)
  obtain ⟨o,h1,h2,_⟩:=p
  exact PySem.W.kia_one PySem.W.kitx_tuple I.kIn ⟨o,h1,h2⟩ e (fun z=>nomatch z) h
 | @dK a kvs ea=>
  cases (show u = Value.ref a from rx)
  obtain ⟨_,_,vs,_,p⟩:=(show ObjOk X.prog X.w H s.heap a (.dK kvs) from I.hok a _ ea)
  obtain ⟨o,es,ep,h1,h2,_⟩:=p
  exact PySem.W.kia_one PySem.W.kitx_dict I.kIn ⟨o,h1,h2.1⟩ e (fun z=>nomatch z) h
 | @dT a kvs ea=>
  cases (show u = Value.ref a from rx)
  obtain ⟨_,_,xs,_,o,es,ep,h1,h2,_⟩:=(show ObjOk X.prog X.w H s.heap a (.dT kvs) from I.hok a _ ea)
  exact PySem.W.kia_one PySem.W.kitx_dict I.kIn ⟨o,h1,h2.1⟩ e (fun z=>nomatch z) h
 | @ins a C dx fs ea cl ha hn htk hm=>
  cases (show u = Value.ref a from rx)
  obtain ⟨mA,O,_⟩:=ins_get I.hok ea
  obtain ⟨od,J,_⟩:=O.look
  exact PySem.W.kia_one (PySem.W.kitx_own (cl.get _) cl.hd ha hn htk hm) I.kIn J e (fun z=>nomatch z) h
end
structure Room (k:Nat) (A:Around):Prop where
 hd:A.handled = none
 dp:A.depth + 3 * k + 5 < recursionLimit
 un:A.units + 16 * k + 200 < cLine
theorem Room.mono {j k:Nat} {A:Around} (r:Room k A) (h:j<=k):Room j A:=⟨r.hd,by have:=r.dp; omega,by have:=r.un; omega⟩
theorem Room.deeper {k:Nat} {A:Around} (r:Room (k + 1) A) (env:Env):Room k (A.deeper env):=
 ⟨r.hd,by have:=r.dp; show A.depth + 1 + 3 * k + 5 < _; omega,by have:=r.un; show A.units + 3 + 16 * k + 200 < _; omega⟩
theorem make_depth {A:Around} {C:Addr} {us:List Value} {kw:List (Str × Value)}:(A.under (.builtin "type.__call__" ⟨.ref C :: us,kw⟩)).depth = A.depth + 1:=by
 first | rfl | simp [Around.under,Code.weight,Code.isCreation,Code.isGuard,Code.isCaller,Code.frames,Code.isFrame,guardIds]
theorem make_units {A:Around} {C:Addr} {us:List Value} {kw:List (Str × Value)}:(A.under (.builtin "type.__call__" ⟨.ref C :: us,kw⟩)).units = A.units + 1:=by
 first | rfl | simp [Around.under,Code.cUnits,Code.frames,Code.isFrame]
theorem Room.make {k:Nat} {A:Around} (r:Room (k + 1) A) (C:Addr) (us:List Value) (kw:List (Str × Value)):Room k (A.under (.builtin "type.__call__" ⟨.ref C :: us,kw⟩)):=
 ⟨r.hd,by have:=r.dp; rw [make_depth]; omega,by have:=r.un; rw [make_units]; omega⟩
theorem Room.depth {k:Nat} {A:Around} (r:Room k A):A.depth < recursionLimit:=by have:=r.dp; omega
theorem Room.units {k:Nat} {A:Around} (r:Room k A):A.units + 64 < cLine:=by have:=r.un; omega
theorem Room.units0 {k:Nat} {A:Around} (r:Room k A):A.units < cLine:=by have:=r.un; omega
def tNil:TA:=fun _ H Q=>Q [] H
def tCons (ta:TE) (tr:TA):TA:=fun σ H Q=>ta σ H fun x H1=>tr σ H1 fun xs H2=>Q (x :: xs) H2
section
variable {X:Cx} {e:Expr} {es:List Expr} {te:TE} {t:TA} {pos:Pos}
theorem pa_nil:PA X [] tNil:=⟨fun _ _ _ _ H Q I h=>Calls.spliced_nil ⟨[],H,I,.nil,h⟩⟩
theorem pa_cons (ha:PE X e te) (hr:PA X es t) (hs:starEach (e :: es) X.env = (false,eval e X.env) :: starEach es X.env:=by rfl):PA X (e :: es) (tCons te t):=by
 refine ⟨?_⟩
 intro pos pins s σ H Q I h
 rw [hs]
 show wpAny _ _ (spliced ((false,eval e X.env) :: backTo pos (starEach es X.env))) _ _ s
 refine Calls.spliced_cons (thn (ha pins s σ H _ I h) fun u s1 ⟨x,H1,I1,r1,q1⟩=>?_)
 exact thn (hr pos pins s1 σ H1 _ I1 q1) fun us s2 ⟨xs,H2,I2,r2,q2⟩=>⟨x :: xs,H2,I2,.cons r1 r2,q2⟩
def tTup (t:TA):TE:=fun σ H Q=>t σ H fun xs H1=>xs.length<=sizeLine/\∀ p,H1 p = none->Q (.ref p) (upd H1 p (.tup xs))
def tLst (t:TA):TE:=fun σ H Q=>t σ H fun xs H1=>xs.length<=sizeLine/\∀ p,H1 p = none->Q (.ref p) (upd H1 p (.lst xs))
theorem pe_tup {x1} (h:PA X es t):PE X (.Tuple es x1 pos) (tTup t):=by
 refine ⟨?_⟩
 intro pins s σ H Q I hq
 refine wpAny_Tuple_spliced (thn (h pos pins s σ H _ I hq) fun us s1 ⟨xs,H1,I1,r,z,q⟩=>⟨by rw [<- r.length]; exact z,?_⟩)
 have hf:H1 s1.heap.objs.size = none:=I1.hok.fresh (Nat.le_refl _)
 refine ⟨.ref s1.heap.objs.size,upd H1 s1.heap.objs.size (.tup xs),I1.laid (t':=s1.toks) (fun b u e=>Heap.get?_push_of_some _ e) (Nat.le_refl _) ?_,rfl,q _ hf⟩
 exact ⟨z,us,r,⟨_,Heap.get?_push_size _ rfl,rfl,_,rfl⟩⟩
theorem pe_lst (h:PA X es t):PE X (.List es pos) (tLst t):=by
 refine ⟨?_⟩
 intro pins s σ H Q I hq
 refine wpAny_List_spliced (thn (h pos pins s σ H _ I hq) fun us s1 ⟨xs,H1,I1,r,z,q⟩=>⟨by rw [<- r.length]; exact z,?_⟩)
 have hf:H1 s1.heap.objs.size = none:=I1.hok.fresh (Nat.le_refl _)
 refine ⟨.ref s1.heap.objs.size,upd H1 s1.heap.objs.size (.lst xs),I1.laid (t':=s1.toks) (fun b u e=>Heap.get?_push_of_some _ e) (Nat.le_refl _) ?_,rfl,q _ hf⟩
 exact ⟨z,us,0,r,Heap.get?_push_size _ rfl⟩
end
abbrev Sp:=List V->Hp->VK->XK->Prop
abbrev CXT:=List Env->Hp->Shared->XK->Value->Shared->Prop
structure Env0 (P:Program) (w:World) (K:PySem.W.Frag) (mg:Str->Option Value) (base:Heap) (A:Around) (outer:List Env) (s:Shared) (H:Hp):Prop where
 frames:A.frames = some outer
 mod:Mod K mg base
 bs:∀ b o,base.get? b = some o->s.heap.get? b = some o/\H b = none
 bsz:base.objs.size<=s.heap.objs.size
 funs:s.heap.FunFrames base outer
 frf:∀ b ∈ frs outer,H b = none
 hok:HOk P w H s.heap
 bare:AllBare s.gens
def CE (outer:List Env) (P:Program) (w:World) (H:Hp) (s:Shared) (Q:VK) (u:Value) (s':Shared):Prop:=
 ∃ v H',s'.os = s.os/\AllBare s'.gens/\Un (frs outer) [] H H' s.heap s'.heap/\HOk P w H' s'.heap/\RelV v u/\Q v H'
def CR (CX:CXT) (outer:List Env) (P:Program) (w:World) (H:Hp) (s:Shared) (Q:VK) (E:XK) (r:Result) (s':Shared):Prop:=
 match r with
 | .ok (.ret u)=>CE outer P w H s Q u s'
 | .ok _=>False
 | .error e=>CX outer H s E e s'
structure FnOk (P:Program) (w:World) (K:PySem.W.Frag) (mg:Str->Option Value) (base:Heap) (CX:CXT) (k:Nat) (f:Addr) (fd:FuncData) (ps:List Str) (sp:Sp):Prop where
 len:∀ vs H Q E,sp vs H Q E->vs.length = ps.length
 run:∀ (A:Around) (outer:List Env) (s:Shared) (H:Hp) (args:Args) (us:List Value) (vs:List V) (Q:VK) (E:XK),Room k A->Env0 P w K mg base A outer s H->BindsTo s fd args (ps.zip us)->Vals vs us->sp vs H Q E->
  codeAny (model P w) A (.call (.ref f) args) (CR CX outer P w H s Q E) s
theorem Env0.make {P:Program} {w:World} {K:PySem.W.Frag} {mg:Str->Option Value} {base:Heap} {A:Around} {outer:List Env} {s:Shared} {H:Hp} (e:Env0 P w K mg base A outer s H) (C:Addr) (us:List Value) (kw:List (Str × Value)) :
  Env0 P w K mg base (A.under (.builtin "type.__call__" ⟨.ref C :: us,kw⟩)) outer s H:=⟨by first | exact e.frames | (simpa [Around.under,Code.envs,Code.isFrame,pushEnvs] using e.frames),e.mod,e.bs,e.bsz,e.funs,e.frf,e.hok,e.bare⟩
section
variable {X:Cx} {pins:List (Addr × Obj)} {σ : St} {H:Hp} {s s':Shared}
theorem Inv.env0 (I:Inv X pins σ H s):Env0 X.prog X.w X.K X.mg X.base X.A X.stack s H:=
 ⟨I.ok.frames,I.ok.mod,I.bs,Nat.le_trans I.ok.bsz I.sz,I.stack,I.stkFree,I.hok,I.bare⟩
theorem Inv.after {Q:VK} {u:Value} (I:Inv X pins σ H s) (h:CE X.stack X.prog X.w H s Q u s'):EP X pins σ Q u s':=by
 obtain ⟨v,H',os,bare,un,hok,r,q⟩:=h
 obtain ⟨hh,g,d,t,os'⟩:=s'
 obtain rfl:os' = s.os:=os
 exact ⟨v,H',I.call (h':=hh) (g':=g) (d':=d) (t':=t) (ch:=[]) un hok bare (fun b z=>absurd z (by simp)),r,q⟩
end
def tCall (sp:Sp) (dvs:List V) (E:XK) (t:TA):TE:=fun σ H Q=>t σ H fun vs H1=>sp (vs ++ dvs) H1 Q E
def tMeth (C:Addr) (m:Str) (sp:Sp) (dvs:List V) (E:XK) (ta:TE) (t:TA):TE:=fun σ H Q=>ta σ H fun x H1=>∃ a dx fs,x = .ref a/\H1 a = some (.ins C dx fs)/\fs.lookup m = none/\
 t σ H1 fun vs H2=>sp (x :: (vs ++ dvs)) H2 Q E
def tMake (C:Addr) (sp:Sp) (dvs:List V) (E:XK) (t:TA):TE:=fun σ H Q=>t σ H fun vs H1=>∀ x dx,H1 x = none->H1 dx = none->dx ≠ x->
 sp (.ref x :: (vs ++ dvs)) (upd (upd H1 dx (.own x)) x (.ins C dx [])) (fun v H2=>v = .non/\Q (.ref x) H2) E
def Binds (K:PySem.W.Frag) (fd:FuncData) (ps:List Str) (ds:List Value):Prop:=
 ∀ (s:Shared) (us:List Value),K.In s.heap->(us ++ ds).length = ps.length->BindsTo s fd ⟨us,[]⟩ (ps.zip (us ++ ds))
theorem Binds.all {K:PySem.W.Frag} {fd:FuncData} {ps:List Str} (h:∀ us:List Value,us.length = ps.length->bindArgs fd ⟨us,[]⟩ = pure (ps.zip us)):Binds K fd ps []:=fun s us _ hl=>by
 rw [List.append_nil] at hl |-
 exact .of_eq (h us hl)
def Passes (CX:CXT) (X:Cx) (E:XK):Prop:=∀ (pins:List (Addr × Obj)) (σ : St) (H:Hp) (s:Shared) (e:Value) (s':Shared),Inv X pins σ H s->CX X.stack H s E e s'->X.xe e s'
section
variable {X:Cx} {CX:CXT} {k:Nat} {f C:Addr} {fd:FuncData} {ps:List Str} {sp:Sp} {dvs:List V} {ds:List Value} {E:XK} {x m:Str} {p pos apos:Pos} {e o:Expr} {es:List Expr} {ta:TE} {t:TA}
theorem run_fn {pins:List (Addr × Obj)} {σ : St} {H:Hp} {s:Shared} {Q:VK} {us:List Value} {vs:List V} (F:FnOk X.prog X.w X.K X.mg X.base CX k f fd ps sp) (hr:Room k X.A) (hb:Binds X.K fd ps ds) (hd:Vals dvs ds) (hx:Passes CX X E)
  (I:Inv X pins σ H s) (r:Vals vs us) (h:sp (vs ++ dvs) H Q E):wpAny (model X.prog X.w) X.A (call (.ref f) us) (EP X pins σ Q) X.xe s:=by
 have r2:Vals (vs ++ dvs) (us ++ ds):=r.append hd
 have hl:(us ++ ds).length = ps.length:=by rw [<- r2.length]; exact F.len _ _ _ _ h
 refine wpAny_call (codeAny_mono (F.run X.A X.stack s H ⟨us,[]⟩ (us ++ ds) (vs ++ dvs) Q E hr I.env0 (hb s us I.kIn hl) r2 h) fun r s' hq=>?_)
 cases r with
 | error e=>exact hx pins σ H s e s' I hq
 | ok fl=>
  cases fl with
  | ret u=>exact I.after hq
  | next=>exact False.elim hq
  | brk=>exact False.elim hq
  | cont=>exact False.elim hq
theorem pe_call (F:FnOk X.prog X.w X.K X.mg X.base CX k f fd ps sp) (hr:Room k X.A) (hg:Gl X x) (hm:X.mg x = some (.ref f)) (hk:PySem.W.keepIn X.K (.ref f) = true) (hb:Binds X.K fd ps ds) (hd:Vals dvs ds) (hx:Passes CX X E)
  (ha:PA X (e :: es) t) (hdb:(x == ("__debug__" : Str)) = false:=by decide) (he:starEach (e :: es) X.env = (false,eval e X.env) :: starEach es X.env:=by rfl) (hpl:(backTo pos (starEach es X.env)).any (·.1) = false:=by rfl) :
  PE X (.Call (.Name x p) (e :: es) [] pos) (tCall sp dvs E t):=by
 refine ⟨?_⟩
 intro pins s σ H Q I h
 refine wpAny_Call_Name_kw (ld_glob I hg hm ?_ hdb)
 refine PySem.W.callWith_K (h₀:=X.base) I.ok.mod.kin hk (thn (ha pos pins s σ H _ I h) fun us s1 ⟨vs,H1,I1,r,q⟩=>⟨I1.kIn,?_⟩) he hpl
 exact run_fn F hr hb hd hx I1 r q
theorem pe_meth {pl:Sem Bool} (he:PE X o ta) (c:Cls X.K C) (hm:Meth X.K C m f) (F:FnOk X.prog X.w X.K X.mg X.base CX k f fd ps sp) (hr:Room k X.A) (hb:Binds X.K fd ps ds) (hd:Vals dvs ds) (hx:Passes CX X E) (ha:PA X (e :: es) t)
  (hst:starEach (e :: es) X.env = (false,eval e X.env) :: starEach es X.env:=by rfl) (hpl:(backTo pos (starEach es X.env)).any (·.1) = false:=by rfl)
  (ht:eval (.Call (.Attribute o m apos) (e :: es) [] pos) X.env = (do
   let ov <- eval o X.env
   standAt apos.atName
   let (f,first) <- holding [ov] (getMethod ov m pl)
   callWith pos f first (backTo pos (starEach (e :: es) X.env)) (backToKw pos (keywordEach [] X.env))):=by rfl) :
  PE X (.Call (.Attribute o m apos) (e :: es) [] pos) (tMeth C m sp dvs E ta t):=by
 refine ⟨?_⟩
 intro pins s σ H Q I h
 refine PySem.W.methodCall_KW (pl:=pl) (thn (he pins s σ H _ I h) fun u s1 ⟨x,H1,I1,rx,a,dx,fs,ex,ea,l,q⟩=>?_) ht
 subst ex
 obtain rfl:u = Value.ref a:=rx
 refine getmeth_ok I1 ea c hm l ?_
 refine PySem.W.callWith_K (first:=[.ref a]) (h₀:=X.base) I.ok.mod.kin hm.kp (thn (ha pos pins s1 σ H1 _ I1 q) fun us s2 ⟨vs,H2,I2,r,q2⟩=>⟨I2.kIn,?_⟩) hst hpl
 exact run_fn (us:=.ref a :: us) (vs:=.ref a :: vs) F hr hb hd hx I2 (.cons rfl r) q2
theorem pe_meth0 {pl:Sem Bool} (he:PE X o ta) (c:Cls X.K C) (hm:Meth X.K C m f) (F:FnOk X.prog X.w X.K X.mg X.base CX k f fd ps sp) (hr:Room k X.A) (hb:Binds X.K fd ps ds) (hd:Vals dvs ds) (hx:Passes CX X E)
  (ht:eval (.Call (.Attribute o m apos) [] [] pos) X.env = (do
   let ov <- eval o X.env
   standAt apos.atName
   let (f,first) <- holding [ov] (getMethod ov m pl)
   callWith pos f first (backTo pos (starEach [] X.env)) (backToKw pos (keywordEach [] X.env))):=by rfl) :
  PE X (.Call (.Attribute o m apos) [] [] pos) (tMeth C m sp dvs E ta tNil):=by
 refine ⟨?_⟩
 intro pins s σ H Q I h
 refine PySem.W.methodCall_KW (pl:=pl) (thn (he pins s σ H _ I h) fun u s1 ⟨x,H1,I1,rx,a,dx,fs,ex,ea,l,q⟩=>?_) ht
 subst ex
 obtain rfl:u = Value.ref a:=rx
 refine getmeth_ok I1 ea c hm l ?_
 exact PySem.W.callWith_K0 (first:=[.ref a]) I1.kIn hm.kp (run_fn (us:=[.ref a]) (vs:=[.ref a]) F hr hb hd hx I1 (.cons rfl .nil) q)
structure Mk (K:PySem.W.Frag) (C f:Addr):Prop where
 makes:PySem.W.makesIn K C = true
 init:PySem.W.findIn K (.ref C) "__init__" = some (some (.ref f))
 fn:PySem.W.isFn K (.ref f) = true
 kp:PySem.W.keepIn K (.ref C) = true
theorem run_make {pins:List (Addr × Obj)} {σ : St} {H:Hp} {s:Shared} {Q:VK} {us:List Value} {vs:List V} (M:Mk X.K C f) (F:FnOk X.prog X.w X.K X.mg X.base CX k f fd ps sp) (hr:Room (k + 1) X.A) (hb:Binds X.K fd ps ds) (hd:Vals dvs ds)
  (hx:Passes CX X E) (I:Inv X pins σ H s) (r:Vals vs us)
  (h:∀ x dx,H x = none->H dx = none->dx ≠ x->sp (.ref x :: (vs ++ dvs)) (upd (upd H dx (.own x)) x (.ins C dx [])) (fun v H2=>v = .non/\Q (.ref x) H2) E) :
  wpAny (model X.prog X.w) X.A (call (.ref C) us) (EP X pins σ Q) X.xe s:=by
 have hq:=h (s.heap.objs.size + 1) s.heap.objs.size (I.hok.fresh (Nat.le_succ _)) (I.hok.fresh (Nat.le_refl _)) (Nat.ne_of_lt (Nat.lt_succ_self _))
 have I2:=Inv.made (C:=C) I
 have r2:Vals (V.ref (s.heap.objs.size + 1) :: (vs ++ dvs)) (Value.ref (s.heap.objs.size + 1) :: (us ++ ds)):=.cons rfl (r.append hd)
 have hl:(Value.ref (s.heap.objs.size + 1) :: us ++ ds).length = ps.length:=by
  have e:=r2.length
  rw [F.len _ _ _ _ hq] at e
  exact e.symm
 refine wpAny_call (make_map (f:=f) I.kIn M.makes M.init (beq_iff_eq.mp M.fn) (codeAny_mono (F.run _ X.stack _ _ ⟨Value.ref (s.heap.objs.size + 1) :: us,[]⟩ (Value.ref (s.heap.objs.size + 1) :: (us ++ ds)) _ _ E (hr.make C us [])
  (I2.env0.make C us []) (hb _ (Value.ref (s.heap.objs.size + 1) :: us) I2.kIn hl) r2 hq) fun r s' hq'=>?_))
 cases r with
 | error e=>exact hx pins σ _ _ e s' I2 hq'
 | ok fl=>
  cases fl with
  | ret u=>
   obtain ⟨v,H',I3,rv,ev,q3⟩:=I2.after hq'
   subst ev
   exact ⟨rv,⟨V.ref (s.heap.objs.size + 1),H',I3,rfl,q3⟩⟩
  | next=>exact False.elim hq'
  | brk=>exact False.elim hq'
  | cont=>exact False.elim hq'
theorem pe_make (M:Mk X.K C f) (F:FnOk X.prog X.w X.K X.mg X.base CX k f fd ps sp) (hr:Room (k + 1) X.A) (hg:Gl X x) (hm:X.mg x = some (.ref C)) (hb:Binds X.K fd ps ds) (hd:Vals dvs ds) (hx:Passes CX X E)
  (ha:PA X (e :: es) t) (hdb:(x == ("__debug__" : Str)) = false:=by decide) (he:starEach (e :: es) X.env = (false,eval e X.env) :: starEach es X.env:=by rfl) (hpl:(backTo pos (starEach es X.env)).any (·.1) = false:=by rfl) :
  PE X (.Call (.Name x p) (e :: es) [] pos) (tMake C sp dvs E t):=by
 refine ⟨?_⟩
 intro pins s σ H Q I h
 refine wpAny_Call_Name_kw (ld_glob I hg hm ?_ hdb)
 refine PySem.W.callWith_K (h₀:=X.base) I.ok.mod.kin M.kp (thn (ha pos pins s σ H _ I h) fun us s1 ⟨vs,H1,I1,r,q⟩=>⟨I1.kIn,?_⟩) he hpl
 exact run_make M F hr hb hd hx I1 r q
end
section
variable {X:Cx} {CX:CXT} {k:Nat} {f C:Addr} {fd:FuncData} {ps ks:List Str} {sp:Sp} {E:XK} {x m:Str} {p pos apos kpos:Pos} {e o:Expr} {es:List Expr} {kws:List Keyword} {te ta:TE} {t tk:TA} {nm:Option Str}
structure KBinds (K:PySem.W.Frag) (fd:FuncData) (ps ks:List Str) (g:List Value->List Value->List Value) (gV:List V->List V->List V):Prop where
 to:∀ (s:Shared) (us ws:List Value),K.In s.heap->(g us ws).length = ps.length->BindsTo s fd ⟨us,ks.zip ws⟩ (ps.zip (g us ws))
 rel:∀ {vs:List V} {us:List Value} {zs:List V} {ws:List Value},Vals vs us->Vals zs ws->Vals (gV vs zs) (g us ws)
variable {g:List Value->List Value->List Value} {gV:List V->List V->List V}
end
structure FnScope (N P:List Str) (sc:Scope):Prop where
 kind:sc.kind = .function
 co:sc.isCoroutine = false
 gen:sc.isGenerator = false
 nd:N.Nodup
 pre:N.take P.length = P
 par:∀ x ∈ P,sc.names.lookup x = some .local\/sc.names.lookup x = some .cell
 nofree:∀ y ∈ sc.names,y.2 ≠ .free
theorem bindL_out {kindOf:Str->Option NameKind} {x:Str}:∀ {binds:List (Str × Value)} {m:Str->Option Value},(∀ v,(x,v) ∉ binds)->bindL kindOf binds m x = m x
 | [],_,_=>rfl
 | (n,v) :: r,m,h=>by
  unfold bindL
  rw [bindL_out fun w hw=>h w (List.mem_cons_of_mem _ hw)]
  split
  ·have:x ≠ n:=by rintro rfl; exact h v List.mem_cons_self
   simp [this]
  ·rfl
theorem bindC_out {kindOf:Str->Option NameKind} {x:Str}:∀ {binds:List (Str × Value)} {m:Str->Option Value},(∀ v,(x,v) ∉ binds)->bindC kindOf binds m x = m x
 | [],_,_=>rfl
 | (n,v) :: r,m,h=>by
  unfold bindC
  rw [bindC_out fun w hw=>h w (List.mem_cons_of_mem _ hw)]
  split
  ·rfl
  ·have:x ≠ n:=by rintro rfl; exact h v List.mem_cons_self
   simp [this]
theorem bindL_get {kindOf:Str->Option NameKind} {x:Str} {v:Value}:∀ {P:List Str} {vs:List Value} {i:Nat} {m:Str->Option Value},P.Nodup->P[i]? = some x->vs[i]? = some v->kindOf x = some .local->
  bindL kindOf (P.zip vs) m x = some v
 | [],_,_,_,_,h,_,_=>by simp at h
 | _ :: _,[],_,_,_,_,h,_=>by simp at h
 | p :: P,w :: vs,0,m,nd,h1,h2,hk=>by
  simp at h1 h2; subst h1; subst h2
  show bindL kindOf ((p,w) :: P.zip vs) m p = _
  unfold bindL
  rw [bindL_out fun v hv=>(List.nodup_cons.mp nd).1 (List.of_mem_zip hv).1,if_pos hk]
  simp
 | p :: P,w :: vs,i + 1,m,nd,h1,h2,hk=>by
  show bindL kindOf ((p,w) :: P.zip vs) m x = _
  unfold bindL
  exact bindL_get (i:=i) (List.nodup_cons.mp nd).2 (by simpa using h1) (by simpa using h2) hk
theorem bindC_get {kindOf:Str->Option NameKind} {x:Str} {v:Value}:∀ {P:List Str} {vs:List Value} {i:Nat} {m:Str->Option Value},P.Nodup->P[i]? = some x->vs[i]? = some v->kindOf x ≠ some .local->
  bindC kindOf (P.zip vs) m x = some v
 | [],_,_,_,_,h,_,_=>by simp at h
 | _ :: _,[],_,_,_,_,h,_=>by simp at h
 | p :: P,w :: vs,0,m,nd,h1,h2,hk=>by
  simp at h1 h2; subst h1; subst h2
  show bindC kindOf ((p,w) :: P.zip vs) m p = _
  unfold bindC
  rw [bindC_out fun v hv=>(List.nodup_cons.mp nd).1 (List.of_mem_zip hv).1,if_neg hk]
  simp
 | p :: P,w :: vs,i + 1,m,nd,h1,h2,hk=>by
  show bindC kindOf ((p,w) :: P.zip vs) m x = _
  unfold bindC
  exact bindC_get (i:=i) (List.nodup_cons.mp nd).2 (by simpa using h1) (by simpa using h2) hk
def start (N:List Str) (vs:List V):St:=vs.map some ++ List.replicate (N.length - vs.length) none
def cxOf (CX:CXT) (P:Program) (w:World) (K:PySem.W.Frag) (mg:Str->Option Value) (base:Heap) (N:List Str) (qual:Str) (scope:Scope) (f:Addr) (cd:Value) (A:Around) (outer:List Env) (s:Shared) (H:Hp) (E:XK):Cx where
 prog:=P
 w:=w
 K:=K
 mg:=mg
 base:=base
 A:=A.deeper (envOfC qual scope s.heap.objs.size f cd)
 N:=N
 s₀:=s
 H₀:=H
 env:=envOfC qual scope s.heap.objs.size f cd
 outer:=outer
 stack:=envOfC qual scope s.heap.objs.size f cd :: outer
 ex:=[]
 calm:=true
 fn:=fun _=>true
 pn:=[]
 xe:=fun e s'=>wpAny (model P w) (A.deeper (envOfC qual scope s.heap.objs.size f cd)) (leaving (envOfC qual scope s.heap.objs.size f cd) e) (fun _ s''=>CX outer H s E e s'') (fun e' s''=>CX outer H s E e' s'') s'
theorem cell_has {sc:Scope} {n:Nat} {x:Str} (h:sc.names.lookup x = some .cell):∃ c,(cellsFrom n sc.names []).lookup x = some c:=by
 have q:=PySem.W.cellsFrom_some sc.names n [] (.inl h)
 exact Option.isSome_iff_exists.mp q
theorem inv_start {CX:CXT} {P:Program} {w:World} {K:PySem.W.Frag} {mg:Str->Option Value} {base:Heap} {N ps:List Str} {qual:Str} {scope:Scope} {f:Addr} {cd:Value} {A:Around} {outer:List Env} {s s1:Shared} {H:Hp} {E:XK} {us:List Value} {vs:List V}
  (S:FnScope N ps scope) (hd:A.handled = none) (e0:Env0 P w K mg base A outer s H) (hl:vs.length = ps.length) (r:Vals vs us)
  (x:InCallC s s.heap.objs.size (bindL (envOfC qual scope s.heap.objs.size f cd).kindOf (ps.zip us) fun _=>none) (cellsFrom (s.heap.objs.size + 1) scope.names []) (bindC (envOfC qual scope s.heap.objs.size f cd).kindOf (ps.zip us) fun _=>none) s1) :
  Inv (cxOf CX P w K mg base N qual scope f cd A outer s H E) [] (start N vs) H s1:=by
 have hpl:ps.length<=N.length:=by have:=congrArg List.length S.pre; rw [List.length_take] at this; omega
 obtain ⟨h1,tk,rfl,hk⟩:=x.done
 have noA:∀ b:Addr,b ∉ (cxOf CX P w K mg base N qual scope f cd A outer s H E).ex:=fun b z=>absurd (show b ∈ ([]:List Addr) from z) (by simp)
 refine ⟨⟨e0.mod,S.kind,rfl,rfl,Nat.le_refl _,fun y z c h1 h2=>?_,fun y hy=>?_,fun y c _ h=>?_,fun _=>hd,Around.frames_deeper e0.frames,.inr ⟨rfl,rfl⟩,fun b z=>absurd z (noA b),e0.bs,e0.bsz,fun b _ _=>noA b,fun b z=>absurd z (noA b),e0.funs,e0.frf⟩,
  rfl,e0.bare,Un.kept hk,⟨_,x.toInCall.ns,fun i y v h1 h2 h3=>?_⟩,fun y c h=>⟨_,x.cell y c h⟩,e0.hok.fresh (Nat.le_refl _),fun y c h=>?_,fun p hp=>absurd (show p ∈ ([]:List (Addr × Obj)) from hp) (by simp),e0.hok.kept hk,?_⟩
 ·exact name_of_addr x.apart (PySem.mem_of_lookup h1) (PySem.mem_of_lookup h2)
 ·have hy:scope.names.lookup y = some .cell\/scope.names.lookup y = some .free:=hy
  rcases hy with hy | hy
  ·exact cell_has hy
  ·exact absurd rfl (S.nofree _ (PySem.mem_of_lookup hy))
 ·exact Nat.le_of_lt (x.above y c (PySem.mem_of_lookup h))
 ·have hi:i < vs.length:=by
   unfold start at h2
   by_cases hi:i < vs.length
   ·exact hi
   ·rw [List.getElem?_append_right (by simpa using hi)] at h2
    rw [List.getElem?_replicate] at h2
    split at h2 <;> cases h2
  have ha:vs[i]? = some v:=by
   unfold start at h2
   rw [List.getElem?_append_left (by simpa using hi),List.getElem?_map] at h2
   cases e:vs[i]? with
   | none=>rw [e] at h2; cases h2
   | some a=>rw [e] at h2; cases h2; rfl
  obtain ⟨u,hu,rv⟩:=r.get ha
  have hp:ps[i]? = some y:=by
   rw [<- S.pre,List.getElem?_take_of_lt (by omega)]; exact h1
  have ndP:ps.Nodup:=by rw [<- S.pre]; exact S.nd.sublist (List.take_sublist _ _)
  refine ⟨u,rv,?_⟩
  rcases S.par y (List.mem_of_getElem? hp) with k | k
  ·exact .inl ⟨k,bindL_get ndP hp hu k⟩
  ·obtain ⟨c,e⟩:=cell_has (n:=s.heap.objs.size + 1) k
   refine .inr ⟨.inl k,c,e,?_⟩
   have q:=x.cell y c e
   rw [bindC_get ndP hp hu (by show scope.names.lookup y ≠ _; rw [k]; decide)] at q
   exact q
 ·exact e0.hok.fresh (Nat.le_of_lt (x.above y c (PySem.mem_of_lookup h)))
 ·unfold start
  show _ = N.length
  rw [List.length_append,List.length_map,List.length_replicate]
  omega
theorem fn_of {CX:CXT} {P:Program} {w:World} {K:PySem.W.Frag} {mg:Str->Option Value} {base:Heap} {k:Nat} {f:Addr} {name qual:Str} {params:Arguments} {body:List Stmt} {scope:Scope} {dV kV doc pm cdv ct oc:Value} {an od:Option Addr}
  {osl:Array (Option Value)} {N ps:List Str} {sp:Sp} (lk:K.lookup f = some ⟨oc,od,.func (PySem.W.fnOf name qual params body scope dV kV doc pm an cdv ct),osl⟩) (hcd:PySem.W.codeIn K cdv qual = true) (S:FnScope N ps scope)
  (len:∀ vs H Q E,sp vs H Q E->vs.length = ps.length)
  (hbody:∀ (A:Around) (outer:List Env) (s:Shared) (H:Hp) (vs:List V) (Q:VK) (E:XK),Room k (A.deeper (envOfC qual scope s.heap.objs.size f cdv))->sp vs H Q E->
   ∃ t,PSs (cxOf CX P w K mg base N qual scope f cdv A outer s H E) body t/\t { nx:=fun _ H'=>Q .non H',rt:=Q } (start N vs) H) :
  FnOk P w K mg base CX (k + 1) f (PySem.W.fnOf name qual params body scope dV kV doc pm an cdv ct) ps sp:=by
 refine ⟨len,fun A outer s H args us vs Q E hr e0 hb r hsp=>?_⟩
 have hl:=len _ _ _ _ hsp
 have KX:K.In s.heap:=e0.mod.kin.keeps fun b o e=>(e0.bs b o e).1
 have lim:s.heap.NoLimit:=e0.mod.nolimit.keeps fun b o e=>(e0.bs b o e).1
 have hkind:∀ y ∈ ps.zip us,scope.names.lookup y.1 = some .local\/(scope.names.lookup y.1 = some .cell/\((cellsFrom (s.heap.objs.size + 1) scope.names []).lookup y.1).isSome = true):=fun ⟨n,v⟩ hy=>by
  rcases S.par n (List.of_mem_zip hy).1 with q | q
  ·exact .inl q
  ·exact .inr ⟨q,PySem.W.cellsFrom_some _ _ _ (.inl q)⟩
 refine codeAny_call_function hr.depth (KX _ _ lk) rfl S.co S.gen rfl (PySem.W.codeRec_of KX hcd) (hb _ _ _ _ ?_)
 refine wpAny_newFunctionEnv_cells S.kind hkind fun env he s1 x=>?_
 subst he
 refine ⟨lim.keeps x.toInCall.keep,codeAny_func ?_⟩
 obtain ⟨t,ht,hq⟩:=hbody A outer s H vs Q E (hr.deeper _) hsp
 have I:Inv (cxOf CX P w K mg base N qual scope f cdv A outer s H E) [] (start N vs) H s1:=inv_start S hr.hd e0 hl r x
 refine wpAny_mono (ht [] s1 (start N vs) H _ I hq) (fun fl s' hs=>?_) fun e s' hs=>hs
 have fin:∀ {σ':St} {H':Hp} {v:V} {u:Value},Inv (cxOf CX P w K mg base N qual scope f cdv A outer s H E) [] σ' H' s'->RelV v u->Q v H'->CE outer P w H s Q u s':=
  fun {σ' H' v u} J rv q=>⟨v,H',J.os,J.bare,J.base,J.hok,rv,q⟩
 cases fl with
 | ret u=>
  obtain ⟨v,σ',H',J,rv,q⟩:=hs
  exact fin J rv q
 | next=>
  obtain ⟨σ',H',J,q⟩:=hs
  exact fin (v:=V.non) (u:=Value.none) J rfl q
 | brk=>
  obtain ⟨_,_,_,q⟩:=hs
  exact False.elim q
 | cont=>
  obtain ⟨_,_,_,q⟩:=hs
  exact False.elim q
section
variable {X:Cx} {x:Str} {p pos:Pos} {e:Expr} {es:List Expr} {t:TA} {id T:String} {r:List V->Hp->VK->Prop}
def tCB (r:List V->Hp->VK->Prop) (t:TA):TE:=fun σ H Q=>t σ H fun vs H1=>r vs H1 Q
theorem pe_callB (hc:CallR X (.builtin id) r) (hg:Gl X x) (hm:X.mg x = none) (hv:bootBuiltins x = some (.builtin id)) (ha:PA X (e :: es) t) (hn:x ≠ "__name__":=by decide) (hdb:(x == ("__debug__" : Str)) = false:=by decide)
  (he:starEach (e :: es) X.env = (false,eval e X.env) :: starEach es X.env:=by rfl) (hpl:(backTo pos (starEach es X.env)).any (·.1) = false:=by rfl):PE X (.Call (.Name x p) (e :: es) [] pos) (tCB r t):=by
 refine ⟨?_⟩
 intro pins s σ H Q I h
 refine wpAny_Call_Name_kw (ld_blt I hg hm hv ?_ hn hdb)
 exact PyProof.Rows.callWith_builtin1 (thn (ha pos pins s σ H _ I h) fun us s1 ⟨vs,H1,I1,r1,q1⟩=>hc pins s1 σ H1 vs us Q I1 r1 q1) he hpl
theorem pe_callTy (hc:CallR X (.type T) r) (hg:Gl X x) (hm:X.mg x = none) (hv:bootBuiltins x = some (.type T)) (ha:PA X (e :: es) t) (hn:x ≠ "__name__":=by decide) (hdb:(x == ("__debug__" : Str)) = false:=by decide)
  (he:starEach (e :: es) X.env = (false,eval e X.env) :: starEach es X.env:=by rfl) (hpl:(backTo pos (starEach es X.env)).any (·.1) = false:=by rfl):PE X (.Call (.Name x p) (e :: es) [] pos) (tCB r t):=by
 refine ⟨?_⟩
 intro pins s σ H Q I h
 refine wpAny_Call_Name_kw (ld_blt I hg hm hv ?_ hn hdb)
 exact PyProof.Rows.callWith_type1 (thn (ha pos pins s σ H _ I h) fun us s1 ⟨vs,H1,I1,r1,q1⟩=>hc pins s1 σ H1 vs us Q I1 r1 q1) he hpl
theorem pe_callTy0 (hc:CallR X (.type T) r) (hg:Gl X x) (hm:X.mg x = none) (hv:bootBuiltins x = some (.type T)) (hn:x ≠ "__name__":=by decide) (hdb:(x == ("__debug__" : Str)) = false:=by decide) :
  PE X (.Call (.Name x p) [] [] pos) (tCB r tNil):=by
 refine ⟨?_⟩
 intro pins s σ H Q I h
 refine wpAny_Call_Name_kw (ld_blt I hg hm hv ?_ hn hdb)
 exact PyProof.Rows.callWith_type0 (hc pins s σ H [] [] Q I .nil h)
end
end L2
namespace HT
open PySem PyProof.Rows
section
open PySem.SeqAt
open PySem.AutoSeq1 (wpAny_loadPart')
open PySem.MeetsSeq PySem.MeetsSeq2 PySem.MeetsSeq3
end
section
variable {prog:Program} {w:World} {A:Around} {E:Value->Shared->Prop} {s:Shared}
def sIx (n d:Nat):Option Int->Nat
 | none=>d
 | some v=>if v < 0 then (v + (n:Int)).toNat else min v.toNat n
theorem sIx_none (n d:Nat):sIx n d none = d:=rfl
theorem sIx_nat (n d k:Nat):sIx n d (some (k:Int)) = min k n:=by
 show (if (k:Int) < 0 then ((k:Int) + (n:Int)).toNat else min (k:Int).toNat n) = min k n
 rw [if_neg (by omega),Int.toNat_natCast]
end
end HT
namespace L2
open PySem PySem.Spec PyProof.Rows
abbrev TO:=St->Hp->(Option Int->Hp->Prop)->Prop
structure PO (X:Cx) (e:Option Expr) (t:TO):Prop where
 run:∀ (pins:List (Addr × Obj)) (s:Shared) (σ : St) (H:Hp) (Q:Option Int->Hp->Prop),Inv X pins σ H s->t σ H Q->
  wpAny (model X.prog X.w) X.A (evalPart e X.env) (fun u s'=>∃ o H',Inv X pins σ H' s'/\IsPart u o/\Q o H') X.xe s
instance {X:Cx} {e:Option Expr} {t:TO}:CoeFun (PO X e t) (fun _=>∀ (pins:List (Addr × Obj)) (s:Shared) (σ : St) (H:Hp) (Q:Option Int->Hp->Prop),Inv X pins σ H s->t σ H Q->
  wpAny (model X.prog X.w) X.A (evalPart e X.env) (fun u s'=>∃ o H',Inv X pins σ H' s'/\IsPart u o/\Q o H') X.xe s):=⟨PO.run⟩
def tNoPart:TO:=fun _ H Q=>Q none H
def tPart (t:TE):TO:=fun σ H Q=>t σ H fun x H1=>∃ i,x = .int i/\Q (some i) H1
section
variable {X:Cx} {e:Expr} {te:TE} {lo hi:Option Expr} {tl th:TO} {pos p2:Pos}
theorem po_none:PO X none tNoPart:=by
 refine ⟨?_⟩
 intro pins s σ H Q I h
 rw [evalPart_none]
 exact wpAny_pure ⟨none,H,I,.none,h⟩
theorem po_some (h:PE X e te):PO X (some e) (tPart te):=by
 refine ⟨?_⟩
 intro pins s σ H Q I hw
 rw [evalPart_some]
 refine thn (h pins s σ H _ I hw) fun u s1 ⟨x,H1,I1,r1,q1⟩=>?_
 obtain ⟨i,rfl,q⟩:=q1
 obtain ⟨t,rfl⟩:=r1
 exact ⟨some i,H1,I1,.int i t,q⟩
def SlR (X:Cx) (r:V->Option Int->Option Int->Hp->VK->Prop):Prop:=
 ∀ (pins:List (Addr × Obj)) (s:Shared) (σ : St) (H:Hp) (x:V) (v vl vu:Value) (lo hi:Option Int) (sl:Addr) (Q:VK),Inv X pins σ H s->RelV x v->s.heap.IsSliceOf sl vl vu .none->IsPart vl lo->IsPart vu hi->r x lo hi H Q->
  ∃ T id,typeLookup (.type T) "__getitem__" = pure (some (.builtin id))/\s.TypeIs v T/\wpAny (model X.prog X.w) X.A (getItem v (.ref sl)) (EP X pins σ Q) X.xe s
def tSl (r:V->Option Int->Option Int->Hp->VK->Prop) (te:TE) (tl th:TO):TE:=fun σ H Q=>te σ H fun x H1=>tl σ H1 fun l H2=>th σ H2 fun u H3=>r x l u H3 Q
theorem pe_slice {r:V->Option Int->Option Int->Hp->VK->Prop} (hr:SlR X r) (he:PE X e te) (hl:PO X lo tl) (hu:PO X hi th):PE X (.Subscript e (.Slice lo hi none p2) pos) (tSl r te tl th):=by
 refine ⟨?_⟩
 intro pins s σ H Q I h
 refine Subscript_ (thn (he pins s σ H _ I h) fun v s1 ⟨x,H1,I1,r1,q1⟩=>?_)
 refine wpAny_Slice (thn (hl pins s1 σ H1 _ I1 q1) fun vl s2 ⟨l,H2,I2,pl,q2⟩=>thn (hu pins s2 σ H2 _ I2 q2) fun vu s3 ⟨u,H3,I3,pu,q3⟩=>?_)
 rw [evalPart_none]
 refine wpAny_pure ?_
 have I4:Inv X pins σ H3 { s3 with heap:=s3.heap.push { cls:=.type "slice",data:=.fields #[vl,vu,.none] } }:=I3.kept (t':=s3.toks) fun b ob q=>Heap.get?_push_of_some _ q
 obtain ⟨T,id,hT,ht,hg⟩:=hr pins { s3 with heap:=s3.heap.push { cls:=.type "slice",data:=.fields #[vl,vu,.none] } } σ H3 x v vl vu l u s3.heap.objs.size Q I4 r1 (Heap.IsSliceOf.new ..) pl pu q3
 show wpAny (model X.prog X.w) X.A (subscriptTail e (.Slice lo hi none p2) v (.ref s3.heap.objs.size)) (EP X pins σ Q) X.xe { s3 with heap:=s3.heap.push { cls:=.type "slice",data:=.fields #[vl,vu,.none] } }
 exact tail_any (ops:=[.ref s3.heap.objs.size,v]) ht hT hg (by with_unfolding_all rfl)
def cutV (xs:List V) (lo hi:Option Int):List V:=(xs.drop (HT.sIx xs.length 0 lo)).take (HT.sIx xs.length xs.length hi - HT.sIx xs.length 0 lo)
theorem cutV_length (xs:List V) (lo hi:Option Int):(cutV xs lo hi).length<=xs.length:=by
 unfold cutV
 rw [List.length_take,List.length_drop]
 omega
end
def ixN (n:Nat) (i:Int):Option Nat:=if 0<=i then (if i < n then some i.toNat else none) else if -(n:Int)<=i then some (i + n).toNat else none
def atI {α : Type} (xs:List α) (i:Int):Option α:=(ixN xs.length i).bind fun j=>xs[j]?
theorem ixN_seq {n:Nat} {i:Int} {j:Nat} (h:ixN n i = some j):seqIndex? i n = some j/\j < n/\-(n:Int)<=i/\i < n:=by
 unfold ixN at h
 by_cases h0 : 0<=i
 ·rw [if_pos h0] at h
  by_cases h1:i < n
  ·rw [if_pos h1] at h
   have e:i.toNat = j:=Option.some.inj h
   exact ⟨by rw [seqIndex_of h0 h1,e],by omega,by omega,h1⟩
  ·rw [if_neg h1] at h; cases h
 ·rw [if_neg h0] at h
  by_cases h1 : -(n:Int)<=i
  ·rw [if_pos h1] at h
   have e:(i + n).toNat = j:=Option.some.inj h
   exact ⟨by rw [seqIndex_neg (by omega) h1,e],by omega,h1,by omega⟩
  ·rw [if_neg h1] at h; cases h
theorem atI_get {α : Type} {xs:List α} {i:Int} {v : α} (h:atI xs i = some v):∃ j,seqIndex? i xs.length = some j/\xs[j]? = some v/\j < xs.length/\-(xs.length:Int)<=i/\i < xs.length:=by
 unfold atI at h
 cases e:ixN xs.length i with
 | none=>rw [e] at h; cases h
 | some j=>
  rw [e] at h
  obtain ⟨h1,h2,h3,h4⟩:=ixN_seq e
  exact ⟨j,h1,h,h2,h3,h4⟩
theorem atI_nat {α : Type} {xs:List α} {j:Nat} {v : α} (h:xs[j]? = some v):atI xs (j:Int) = some v:=by
 have hj:j < xs.length:=(List.getElem?_eq_some_iff.mp h).1
 have e:ixN xs.length (j:Int) = some j:=by
  unfold ixN
  rw [if_pos (by omega),if_pos (by omega)]; simp
 unfold atI; rw [e]; exact h
def PlainIx (b:Expr):Prop:=∀ o i,subscripted b false o i = operate [o,i] (getItem o i)
def IxR (X:Cx) (r:R2):Prop:=
 ∀ (value slice:Expr) (pins:List (Addr × Obj)) (s:Shared) (σ : St) (H:Hp) (x y:V) (v u:Value) (Q:VK),Inv X pins σ H s->RelV x v->RelV y u->r x y H Q->
  subscripted slice false v u = operate [v,u] (getItem v u)->wpAny (model X.prog X.w) X.A (subscriptTail value slice v u) (EP X pins σ Q) X.xe s
def MtR (X:Cx) (id:String) (r:V->List V->Hp->VK->Prop):Prop:=
 ∀ (pins:List (Addr × Obj)) (s:Shared) (σ : St) (H:Hp) (x:V) (xs:List V) (v:Value) (us:List Value) (Q:VK),Inv X pins σ H s->RelV x v->Vals xs us->r x xs H Q->
  wpAny (model X.prog X.w) X.A (call (.builtin id) (v :: us)) (EP X pins σ Q) X.xe s
section
variable {X:Cx} {a b:Expr} {ta tb:TE} {pos:Pos}
theorem pe_ix {r:R2} (hr:IxR X r) (ha:PE X a ta) (hb:PE X b tb) (hs:PlainIx b):PE X (.Subscript a b pos) (tOp r ta tb):=by
 refine ⟨?_⟩
 intro pins s σ H Q I h
 exact Subscript_ (binT ha hb I h fun v u s2 x y H2 I2 rx ry q=>hr a b pins s2 σ H2 x y v u Q I2 rx ry q (hs _ _))
def rIxL (K:PySem.W.Frag):R2:=fun x y H Q=>∃ p xs i v,x = .ref p/\y = .int i/\SqL K H p xs/\atI xs i = some v/\Q v H
def rIxT (K:PySem.W.Frag):R2:=fun x y H Q=>∃ p xs i v,x = .ref p/\y = .int i/\SqT K H p xs/\atI xs i = some v/\Q v H
def rIxS:R2:=fun x y H Q=>∃ z i c,x = .str z/\y = .int i/\z.length<=sizeLine/\atI z.cps.toList i = some c/\Q (.str ⟨#[c]⟩) H
theorem ix_list:IxR X (rIxL X.K):=by
 intro value slice pins s σ H x y v u Q I rx ry h hs
 obtain ⟨p,xs,i,z,rfl,rfl,hq,he,q⟩:=h
 cases rx
 obtain ⟨t,rfl⟩:=ry
 obtain ⟨its,r,pl,hz⟩:=I.list hq
 obtain ⟨j,h1,h2,h3,h4,h5⟩:=atI_get he
 obtain ⟨w,ew,rw'⟩:=r.get h2
 have hl:=r.length
 have hn:=line63
 have fin:EP X pins σ Q w s:=⟨z,H,I,rw',q⟩
 by_cases h0 : 0<=i
 ·have hj:i.toNat = j:=by
   rw [seqIndex_of h0 h5] at h1
   exact Option.some.inj h1
  exact item_listR pl.isList h0 (by omega) (by rw [hj]; simpa using ew) fin hs
 ·have hj:(i + (its.toArray.size:Int)).toNat = j:=by
   rw [seqIndex_neg (by omega) h4] at h1
   rw [List.size_toArray,<- hl]
   exact Option.some.inj h1
  exact subscriptTail_builtinR (x:=w) pl.isList.typeIs slot_list_getitem.lookup
   (wpAny_getItem_list_neg (Q:=fun r s'=>r = w/\EP X pins σ Q r s') pl.isList (by omega) (by rw [List.size_toArray] <;> omega) (by omega) (by rw [hj]; simpa using ew) ⟨rfl,fin⟩) hs
theorem ix_tup:IxR X (rIxT X.K):=by
 intro value slice pins s σ H x y v u Q I rx ry h hs
 obtain ⟨p,xs,i,z,rfl,rfl,hq,he,q⟩:=h
 cases rx
 obtain ⟨t,rfl⟩:=ry
 obtain ⟨its,r,pl,hz⟩:=I.tuple hq
 obtain ⟨j,h1,h2,h3,h4,h5⟩:=atI_get he
 obtain ⟨w,ew,rw'⟩:=r.get h2
 have hl:=r.length
 have hn:=line63
 have fin:EP X pins σ Q w s:=⟨z,H,I,rw',q⟩
 exact subscriptTail_builtinR (x:=w) pl.typeIs slot_tuple_getitem.lookup
  (getItem_tuple (j:=j) (Q:=fun r s'=>r = w/\EP X pins σ Q r s') pl (by omega) (by omega) (by rw [List.size_toArray,<- hl]; exact h1) (by simpa using ew) ⟨rfl,fin⟩) hs
theorem ix_str:IxR X rIxS:=by
 intro value slice pins s σ H x y v u Q I rx ry h hs
 obtain ⟨z,i,c,rfl,rfl,hz,he,q⟩:=h
 obtain ⟨t,rfl⟩:=rx
 obtain ⟨t',rfl⟩:=ry
 obtain ⟨j,h1,h2,h3,h4,h5⟩:=atI_get he
 have hl:z.cps.toList.length = z.length:=by simp [Str.length]
 rw [hl] at h1 h4 h5
 have hn:=line63
 exact tail_any (typeIs_str s z t) slot_str_getitem.lookup (getItem_str (c:=c) (by
  have e1:decide (i < -(2 ^ 63:Int)) = false:=decide_eq_false (by omega)
  have e2:decide (i>=2 ^ 63) = false:=decide_eq_false (by omega)
  rw [e1,e2,Bool.or_false]) (by rw [h1]; simpa using h2) ⟨.str ⟨#[c]⟩,H,I.tok _,⟨_,rfl⟩,q⟩) hs
theorem slice_bounds (lo hi:Option Int) (n:Nat):(sliceBounds lo hi none n).1 = ((HT.sIx n 0 lo:Nat):Int)/\(sliceBounds lo hi none n).2.1 = ((HT.sIx n n hi:Nat):Int)/\(sliceBounds lo hi none n).2.2 = 1:=by
 refine ⟨?_,?_,rfl⟩
 ·cases lo with
  | none=>simp [sliceBounds,HT.sIx]
  | some i=>
   simp only [sliceBounds,HT.sIx,Option.getD_none,show (1:Int) > 0 by decide,if_true]
   by_cases h:i < 0
   ·simp only [h,if_true] <;> omega
   ·simp only [h,if_false] <;> omega
 ·cases hi with
  | none=>simp [sliceBounds,HT.sIx]
  | some i=>
   simp only [sliceBounds,HT.sIx,Option.getD_none,show (1:Int) > 0 by decide,if_true]
   by_cases h:i < 0
   ·simp only [h,if_true] <;> omega
   ·simp only [h,if_false] <;> omega
theorem slicePick_cut (its:List Value) (lo hi:Option Int):slicePick its.toArray lo hi none = ((its.drop (HT.sIx its.length 0 lo)).take (HT.sIx its.length its.length hi - HT.sIx its.length 0 lo)).toArray:=by
 obtain ⟨h1,h2,h3⟩:=slice_bounds lo hi its.toArray.size
 unfold slicePick
 rw [h1,h2,h3]
 simp only [sliceRange_one,pick_run,List.size_toArray] <;> rfl
def rSlL (K:PySem.W.Frag):V->Option Int->Option Int->Hp->VK->Prop:=fun x lo hi H Q=>∃ a xs,x = .ref a/\SqL K H a xs/\∀ p,H p = none->Q (.ref p) (upd H p (.lst (cutV xs lo hi)))
theorem sl_list:SlR X (rSlL X.K):=by
 intro pins s σ H x v vl vu lo hi sl Q I rx hs pl pu h
 obtain ⟨a,xs,rfl,hx,q⟩:=h
 cases rx
 obtain ⟨its,r,ht,hz⟩:=I.list hx
 have hlen:=r.length
 refine ⟨"list",_,slot_list_getitem.lookup,ht.isList.typeIs,?_⟩
 refine wpAny_getItem_list_slice ht.isList hs pl pu .none (by simp) ?_ (by rw [List.size_toArray] <;> omega)
 rw [slicePick_cut,<- hlen]
 refine ⟨.ref s.heap.objs.size,_,I.laid (t':=s.toks) (o:=.lst (cutV xs lo hi)) (fun b ob q=>Heap.get?_push_of_some _ q) (Nat.le_refl _) ?_,rfl,q _ (I.hok.fresh (Nat.le_refl _))⟩
 exact ⟨Nat.le_trans (cutV_length xs lo hi) hz,_,0,(r.drop (HT.sIx xs.length 0 lo)).take (HT.sIx xs.length xs.length hi - HT.sIx xs.length 0 lo),Heap.get?_push_size _ rfl⟩
def flatV:V->Bool
 | .non=>true
 | .bl _=>true
 | .int _=>true
 | .str _=>true
 | _=>false
def eqV:V->V->Bool
 | .non,.non=>true
 | .bl a,.bl b=>a == b
 | .bl a,.int b=>(if a then 1 else 0) == b
 | .int a,.bl b=>a == (if b then 1 else 0)
 | .int a,.int b=>a == b
 | .str a,.str b=>a == b
 | _,_=>false
theorem eqAt_V {A:Around} {s:Shared} {y x:V} {u v:Value} (ry:RelV y u) (rx:RelV x v) (fy:flatV y = true) (fx:flatV x = true):SeqAt.EqAt A s u v (eqV y x):=by
 cases y with
 | non=>
  cases ry
  cases x with
  | non=>cases rx; exact SeqAt.EqAt.same _
  | bl b=>cases rx; exact SeqAt.EqAt.none_bool b
  | int b=>obtain ⟨t,rfl⟩:=rx; exact SeqAt.EqAt.none_int b t
  | str b=>obtain ⟨t,rfl⟩:=rx; exact SeqAt.EqAt.none_str b t
  | _=>exact absurd (show false = true from fx) Bool.false_ne_true
 | bl a=>
  cases ry
  cases x with
  | non=>cases rx; exact SeqAt.EqAt.bool_none a
  | bl b=>cases rx; exact SeqAt.EqAt.bool_bool a b
  | int b=>obtain ⟨t,rfl⟩:=rx; exact SeqAt.EqAt.bool_int a b t
  | str b=>obtain ⟨t,rfl⟩:=rx; exact SeqAt.EqAt.bool_str a b t
  | _=>exact absurd (show false = true from fx) Bool.false_ne_true
 | int a=>
  obtain ⟨t',rfl⟩:=ry
  cases x with
  | non=>cases rx; exact SeqAt.EqAt.int_none a t'
  | bl b=>cases rx; exact SeqAt.EqAt.int_bool a t' b
  | int b=>obtain ⟨t,rfl⟩:=rx; exact SeqAt.EqAt.int_int a t' b t
  | str b=>obtain ⟨t,rfl⟩:=rx; exact SeqAt.EqAt.int_str a t' b t
  | _=>exact absurd (show false = true from fx) Bool.false_ne_true
 | str a=>
  obtain ⟨t',rfl⟩:=ry
  cases x with
  | non=>cases rx; exact SeqAt.EqAt.str_none a t'
  | bl b=>cases rx; exact SeqAt.EqAt.str_bool a t' b
  | int b=>obtain ⟨t,rfl⟩:=rx; exact SeqAt.EqAt.str_int a t' b t
  | str b=>obtain ⟨t,rfl⟩:=rx; exact SeqAt.EqAt.str_str a t' b t
  | _=>exact absurd (show false = true from fx) Bool.false_ne_true
 | _=>exact absurd (show false = true from fy) Bool.false_ne_true
def eqU (x:V) (u:Value):Bool:=match u with
 | .none=>eqV .non x
 | .bool b=>eqV (.bl b) x
 | .int i _=>eqV (.int i) x
 | .str z _=>eqV (.str z) x
 | _=>false
theorem eqU_of {x y:V} {u:Value} (r:RelV y u) (f:flatV y = true):eqU x u = eqV y x:=by
 cases y with
 | non=>cases r; rfl
 | bl b=>cases r; rfl
 | int i=>obtain ⟨t,rfl⟩:=r; rfl
 | str z=>obtain ⟨t,rfl⟩:=r; rfl
 | _=>exact absurd (show false = true from f) Bool.false_ne_true
theorem any_eqU {x:V}:∀ {xs:List V} {us:List Value},Vals xs us->xs.all flatV = true->us.any (eqU x) = xs.any fun y=>eqV y x
 | _,_,.nil,_=>rfl
 | y :: xs,u :: us,.cons r t,f=>by
  rw [List.all_cons,Bool.and_eq_true] at f
  rw [List.any_cons,List.any_cons,eqU_of r f.1,any_eqU t f.2]
theorem mem_eqAt {A:Around} {s:Shared} {x:V} {v:Value} (rx:RelV x v) (fx:flatV x = true):∀ {xs:List V} {us:List Value},Vals xs us->xs.all flatV = true->∀ u ∈ us,SeqAt.EqAt A s u v (eqU x u)
 | _,_,.nil,_=>fun u hu=>by cases hu
 | y :: xs,u :: us,.cons r t,f=>fun u' hu=>by
  rw [List.all_cons,Bool.and_eq_true] at f
  rcases List.mem_cons.mp hu with rfl | hu
  ·rw [eqU_of r f.1]; exact eqAt_V r rx f.1 fx
  ·exact mem_eqAt rx fx t f.2 u' hu
def inV (x:V) (xs:List V):Bool:=xs.any fun y=>eqV y x
def rIn (K:PySem.W.Frag) (neg:Bool):R2:=fun x y H Q=>∃ p xs,y = .ref p/\(SqL K H p xs\/SqT K H p xs)/\flatV x = true/\xs.all flatV = true/\Q (.bl (if neg then !inV x xs else inV x xs)) H
theorem op_in_seq:OpR X (compareOp .In) (rIn X.K false):=by
 intro pins s σ H x y v u Q I rx ry h
 obtain ⟨p,xs,rfl,hq,fx,fs,q⟩:=h
 cases ry
 rcases hq with hq | hq
 ·obtain ⟨its,r,pl,hz⟩:=I.list hq
  refine SeqAt.in_listAt (eqU x) pl.isList (fun w hw=>mem_eqAt rx fx r fs w (by simpa using hw)) ⟨.bl _,H,I,rfl,?_⟩
  rw [show its.toArray.any (eqU x) = its.any (eqU x) by simp,any_eqU r fs]
  exact q
 ·obtain ⟨its,r,pl,hz⟩:=I.tuple hq
  refine SeqAt.in_tupleAt (eqU x) pl (fun w hw=>mem_eqAt rx fx r fs w (by simpa using hw)) ⟨.bl _,H,I,rfl,?_⟩
  rw [show its.toArray.any (eqU x) = its.any (eqU x) by simp,any_eqU r fs]
  exact q
theorem op_notIn_seq:OpR X (compareOp .NotIn) (rIn X.K true):=by
 intro pins s σ H x y v u Q I rx ry h
 obtain ⟨p,xs,rfl,hq,fx,fs,q⟩:=h
 cases ry
 rcases hq with hq | hq
 ·obtain ⟨its,r,pl,hz⟩:=I.list hq
  refine SeqAt.notIn_listAt (eqU x) pl.isList (fun w hw=>mem_eqAt rx fx r fs w (by simpa using hw)) ⟨.bl _,H,I,rfl,?_⟩
  rw [show its.toArray.any (eqU x) = its.any (eqU x) by simp,any_eqU r fs]
  exact q
 ·obtain ⟨its,r,pl,hz⟩:=I.tuple hq
  refine SeqAt.notIn_tupleAt (eqU x) pl (fun w hw=>mem_eqAt rx fx r fs w (by simpa using hw)) ⟨.bl _,H,I,rfl,?_⟩
  rw [show its.toArray.any (eqU x) = its.any (eqU x) by simp,any_eqU r fs]
  exact q
theorem call_len_seq:CallR X (.builtin "len") (fun xs H Q=>∃ p ys,xs = [.ref p]/\(SqL X.K H p ys\/SqT X.K H p ys)/\Q (.int ys.length) H):=by
 intro pins s σ H xs us Q I r h
 obtain ⟨p,ys,rfl,hq,q⟩:=h
 obtain ⟨u,rfl,rx⟩:=vals1 r
 cases rx
 have hn:=line63
 rcases hq with hq | hq
 ·obtain ⟨its,r',pl,hz⟩:=I.list hq
  have hlen:=r'.length
  exact Calls.call_len_list pl.isList (by simp only [List.size_toArray] <;> omega) ⟨.int ys.length,H,I.tok _,⟨s.toks + 1,by rw [List.size_toArray,hlen]⟩,q⟩
 ·obtain ⟨its,r',pl,hz⟩:=I.tuple hq
  have hlen:=r'.length
  exact len_tuple pl (by simp only [List.size_toArray] <;> omega) ⟨.int ys.length,H,I.tok _,⟨s.toks + 1,by rw [List.size_toArray,hlen]⟩,q⟩
theorem call_len_str:CallR X (.builtin "len") (fun xs H Q=>∃ z,xs = [.str z]/\z.length<=sizeLine/\Q (.int z.length) H):=by
 intro pins s σ H xs us Q I r h
 obtain ⟨z,rfl,hz,q⟩:=h
 obtain ⟨u,rfl,t,rfl⟩:=vals1 r
 have hn:=line63
 exact len_str (by omega) ⟨.int z.length,H,I.tok _,⟨_,rfl⟩,q⟩
theorem call_list_of:CallR X (.type "list") (fun xs H Q=>∃ p ys,xs = [.ref p]/\(SqL X.K H p ys\/SqT X.K H p ys)/\∀ l,H l = none->Q (.ref l) (upd H l (.lst ys))):=by
 intro pins s σ H xs us Q I r h
 obtain ⟨p,ys,rfl,hq,q⟩:=h
 obtain ⟨u,rfl,rx⟩:=vals1 r
 cases rx
 have fin:∀ (its:List Value),Vals ys its->ys.length<=sizeLine->∀ (h':Heap) (c':Nat),(∀ b o',s.heap.get? b = some o'->h'.get? b = some o')->
   h'.get? s.heap.objs.size = some { cls:=.type "list",dict:=none,data:=.seq its.toArray c',slots:=#[] }->EP X pins σ Q (.ref s.heap.objs.size) { s with heap:=h' }:=fun its r' hz h' c' kp e=>
  ⟨.ref s.heap.objs.size,_,I.laid (t':=s.toks) kp (Nat.le_refl _) (show ObjOk X.prog X.w _ h' _ (.lst ys) from ⟨hz,its,c',r',e⟩),rfl,q _ (I.hok.fresh (Nat.le_refl _))⟩
 rcases hq with hq | hq
 ·obtain ⟨its,r',pl,hz⟩:=I.list hq
  have hlen:=r'.length
  obtain ⟨o,ho,hc,n,hd⟩:=pl.isList
  exact call_list_seq p (.inl rfl) ho hc hd (fun h' c' kp e=>fin its r' hz h' c' kp e) (by simp only [List.size_toArray] <;> omega)
 ·obtain ⟨its,r',pl,hz⟩:=I.tuple hq
  have hlen:=r'.length
  obtain ⟨o,ho,hc,n,hd⟩:=pl
  exact call_list_seq p (.inr rfl) ho hc hd (fun h' c' kp e=>fin its r' hz h' c' kp e) (by simp only [List.size_toArray] <;> omega)
def tyV (K:PySem.W.Frag) (T:String) (x:V) (H:Hp):Prop:=match x with
 | .str _=>T = "str"
 | .int _=>T = "int"
 | .ref p=>(T = "list"/\∃ xs,SqL K H p xs)\/(T = "tuple"/\∃ o,K.lookup p = some o/\o.cls = .type "tuple"/\o.dict = none)\/
   (T = "dict"/\((∃ kvs,H p = some (.dK kvs))\/∃ kvs,H p = some (.dT kvs)))\/(T = "set"/\∃ S n,H p = some (.set S n))
 | _=>False
theorem tyV_is {pins:List (Addr × Obj)} {σ : St} {H:Hp} {s:Shared} {T:String} {x:V} {v:Value} (I:Inv X pins σ H s) (r:RelV x v) (ty:tyV X.K T x H) :
  s.TypeIs v T/\∀ a,v = .ref a->∃ ob,s.heap.get? a = some ob/\ob.dict = none:=by
 cases x with
 | str z=>
  obtain ⟨t,rfl⟩:=r
  cases (show T = "str" from ty)
  exact ⟨typeIs_str s z t,fun _ e=>nomatch e⟩
 | int i=>
  obtain ⟨t,rfl⟩:=r
  cases (show T = "int" from ty)
  exact ⟨typeIs_int s i t,fun _ e=>nomatch e⟩
 | ref p=>
  cases r
  rcases ty with ⟨rfl,xs,hq⟩ | ⟨rfl,o,hk,hc,hd⟩ | ⟨rfl,hk⟩ | ⟨rfl,S,n,hk⟩
  ·obtain ⟨its,_,pl,_⟩:=I.list hq
   refine ⟨pl.isList.typeIs,fun a e=>?_⟩
   cases e
   obtain ⟨o,n,e,c,hd,_⟩:=pl
   exact ⟨o,e,hd⟩
  ·refine ⟨⟨o,I.kIn p o hk,hc⟩,fun a e=>?_⟩
   cases e
   exact ⟨o,I.kIn _ o hk,hd⟩
  ·have z:∃ o,s.heap.get? p = some o/\o.ExactDict:=by
    rcases hk with ⟨kvs,hk⟩ | ⟨kvs,hk⟩
    ·obtain ⟨_,_,_,_,o,_,_,e,ex,_⟩:=I.hok p _ hk
     exact ⟨o,e,ex⟩
    ·obtain ⟨_,_,_,_,o,_,_,e,ex,_⟩:=I.hok p _ hk
     exact ⟨o,e,ex⟩
   obtain ⟨o,e,ex⟩:=z
   refine ⟨⟨o,e,ex.1⟩,fun a e2=>?_⟩
   cases e2
   exact ⟨o,e,ex.2.1⟩
  ·obtain ⟨o,_,_,_,e,ex,_⟩:=I.hok p _ hk
   refine ⟨⟨o,e,ex.1⟩,fun a e2=>?_⟩
   cases e2
   exact ⟨o,e,ex.2.1⟩
 | _=>exact False.elim ty
def tBM (K:PySem.W.Frag) (T:String) (r:V->List V->Hp->VK->Prop) (to:TE) (t:TA):TE:=fun σ H Q=>to σ H fun x H1=>tyV K T x H1/\t σ H1 fun xs H2=>r x xs H2 Q
variable {o e:Expr} {es:List Expr} {to:TE} {t:TA} {name:Str} {apos cpos:Pos} {T id:String} {r:V->List V->Hp->VK->Prop}
theorem pe_bm (pa:PlainAttrs T) (slot:Slot T name id) (hty:typeOf (.builtin id) = pure (.type "method_descriptor")) (hm:MtR X id r) (ho:PE X o to) (ha:PA X (e :: es) t)
  (hbase:attributeBase o name X.env (eval o X.env) = eval o X.env:=by rfl)
  (hfew:((backTo cpos (starEach (e :: es) X.env)).all (fun x=>!x.1) && (backToKw cpos (keywordEach [] X.env)).all (fun x=>x.1.isSome)
   && decide ((e :: es).length + ([]:List Keyword).length + (if ([]:List Keyword).isEmpty then 0 else 1) < 30)) = true:=by rfl)
  (hline:(apos.endLine == cpos.line) = true:=by rfl) (hs:starEach (e :: es) X.env = (false,eval e X.env) :: starEach es X.env:=by rfl) (hplain:(backTo cpos (starEach es X.env)).any (·.1) = false:=by rfl) :
  PE X (.Call (.Attribute o name apos) (e :: es) [] cpos) (tBM X.K T r to t):=by
 refine ⟨?_⟩
 intro pins s σ H Q I h
 refine wpAny_Call_method_late hbase hfew hline rfl (thn (ho pins s σ H _ I h) fun v s1 ⟨x,H1,I1,r1,ty,q1⟩=>?_)
 obtain ⟨h1,h2⟩:=tyV_is I1 r1 ty
 refine ⟨T,id,pa,slot,hty,h1,h2,?_⟩
 have hA:=ha cpos pins s1 σ H1 _ I1 q1
 rw [hs] at hA |-
 refine Calls.callWith_builtin (by show (false || (backTo cpos (starEach es X.env)).any (·.1)) = false; rw [hplain] <;> rfl) (Calls.evalArgs_plain ?_)
 exact thn hA fun us s2 ⟨vs,H2,I2,r2,q2⟩=>hm pins s2 σ H2 x vs v us Q I2 r1 r2 q2
end
def MtM (X:Cx) (id:String) (r:V->List V->Hp->VK->Prop):Prop:=
 ∀ (pins:List (Addr × Obj)) (s:Shared) (σ : St) (H:Hp) (x:V) (xs:List V) (v:Value) (us:List Value) (Q:VK),Inv X pins σ H s->RelV x v->Vals xs us->r x xs H Q->
  wpAny (model X.prog X.w) X.A (call (.builtin id) (v :: us)) (EP X pins σ Q) X.xe s
theorem Vals.one:∀ {x:V} {us:List Value},Vals [x] us->∃ u,us = [u]/\RelV x u
 | _,_,.cons r .nil=>⟨_,rfl,r⟩
theorem Vals.rep {xs:List V} {us:List Value} (h:Vals xs us):∀ k:Nat,Vals (List.replicate k xs).flatten (List.replicate k us).flatten
 | 0=>.nil
 | k + 1=>by
  rw [List.replicate_succ,List.replicate_succ,List.flatten_cons,List.flatten_cons]
  exact Vals.append h (Vals.rep h k)
theorem foldl_rep (its:List Value):∀ (k:Nat) (acc:List Value),
  List.foldl (fun x1 x2=>x1 ++ x2) acc.toArray (List.replicate k its.toArray) = (acc ++ (List.replicate k its).flatten).toArray
 | 0,acc=>by simp
 | k + 1,acc=>by
  have e:acc.toArray ++ its.toArray = (acc ++ its).toArray:=by simp
  have e2:(acc ++ its) ++ (List.replicate k its).flatten = acc ++ (List.replicate (k + 1) its).flatten:=by
   rw [List.replicate_succ,List.flatten_cons,List.append_assoc]
  rw [<- e2,<- foldl_rep its k (acc ++ its),<- e,List.replicate_succ,List.foldl_cons]
section
variable {X:Cx} {pins:List (Addr × Obj)} {σ : St} {H:Hp} {s:Shared} {l b:Addr} {xs ys zs:List V}
theorem Inv.lset {its its':List Value} {n:Nat} {f:Array Value->Array Value} {t':Nat} (I:Inv X pins σ H s) (hH:H l = some (.lst xs))
  (e:s.heap.get? l = some { cls:=.type "list",data:=.seq its.toArray n }) (hf:f its.toArray = its'.toArray) (hv:Vals ys its') (hz:ys.length<=sizeLine) :
  Inv X pins σ (upd H l (.lst ys)) { s with heap:=s.heap.update l (Obj.mapSeq f),toks:=t' }:=by
 have q:=PySem.IsL.update e f
 rw [hf] at q
 refine I.write (x:=l) (e:=l) (by rw [hH]; exact trivial) (.inl rfl) (fun b' u hb hu=>(Heap.get?_update_other s.heap (Obj.mapSeq f) (Ne.symm hb)).trans hu) ⟨_,q⟩ ?_
 exact ⟨hz,its',_,hv,q⟩
theorem Inv.lnew {its:List Value} {t':Nat} (I:Inv X pins σ H s) (hv:Vals ys its) (hz:ys.length<=sizeLine) :
  Inv X pins σ (upd H s.heap.objs.size (.lst ys)) { s with heap:=s.heap.push { cls:=.type "list",data:=.seq its.toArray },toks:=t' }:=
 I.laid (fun _ _ q=>Heap.get?_push_of_some _ q) (Nat.le_refl _) ⟨hz,its,0,hv,Heap.get?_push_size _ rfl⟩
theorem Inv.fresh (I:Inv X pins σ H s):H s.heap.objs.size = none:=I.hok.fresh (Nat.le_refl _)
theorem Inv.lstM (I:Inv X pins σ H s) (hH:H l = some (.lst xs)):xs.length<=sizeLine/\∃ (its:List Value) (n:Nat),Vals xs its/\xs.length = its.length/\s.heap.get? l = some { cls:=.type "list",data:=.seq its.toArray n }:=by
 obtain ⟨z,its,n,r,e⟩:=I.hok l _ hH
 exact ⟨z,its,n,r,r.length,e⟩
theorem notLongL {n:Nat} (h:n<=sizeLine):Builtin.List.listTooLong n = false:=by
 unfold Builtin.List.listTooLong
 exact decide_eq_false (by omega)
end
section
variable {X:Cx}
def rAppend:V->List V->Hp->VK->Prop:=fun x vs H Q=>∃ l xs y,x = .ref l/\vs = [y]/\H l = some (.lst xs)/\xs.length < sizeLine/\Q .non (upd H l (.lst (xs ++ [y])))
theorem mt_append:MtM X "list.append" rAppend:=by
 intro pins s σ H x vs v us Q I rx rv h
 obtain ⟨l,xs,y,rfl,rfl,hH,hz,q⟩:=h
 cases rx
 obtain ⟨u,rfl,ru⟩:=rv.one
 obtain ⟨z,its,n,r,hl,e⟩:=I.lstM hH
 refine call_meets F.slot_list_append ⟨_,e,rfl⟩ F.entry_list_append (F.args_list_append_2 _ _) (PySem.list_append l its.toArray n u (by rw [List.size_toArray]; omega)) ⟨e,?_⟩
 refine ⟨.non,_,I.lset (its':=its ++ [u]) hH e (by simp) (r.append (.cons ru .nil)) ?_,rfl,q⟩
 rw [List.length_append,List.length_singleton]
 omega
def rExtend:V->List V->Hp->VK->Prop:=fun x vs H Q=>∃ l b xs zs,x = .ref l/\vs = [.ref b]/\H l = some (.lst xs)/\H b = some (.lst zs)/\xs.length + zs.length<=sizeLine/\Q .non (upd H l (.lst (xs ++ zs)))
theorem mt_extend:MtM X "list.extend" rExtend:=by
 intro pins s σ H x vs v us Q I rx rv h
 obtain ⟨l,b,xs,zs,rfl,rfl,hH,hB,hz,q⟩:=h
 cases rx
 obtain ⟨u,rfl,ru⟩:=rv.one
 cases ru
 obtain ⟨z,its,n,r,hl,e⟩:=I.lstM hH
 obtain ⟨z2,its2,n2,r2,hl2,e2⟩:=I.lstM hB
 have hsz:its.toArray.size + its2.toArray.size<=sizeLine:=by rw [List.size_toArray,List.size_toArray]; omega
 have hlong:¬ (!its.toArray.isEmpty && Builtin.List.listTooLong (its.toArray.size + its2.toArray.size)) = true:=by
  rw [notLongL hsz,Bool.and_false]
  exact Bool.false_ne_true
 refine call_meets F.slot_list_extend ⟨_,e,rfl⟩ F.entry_list_extend (F.args_list_extend_2 _ _)
  (AutoSeq1.list_extend_list_list_0 l its.toArray n b its2.toArray n2 hlong (by rw [List.size_toArray]; omega) (by omega)) ⟨e,e2,?_⟩
 refine ⟨.non,_,I.lset (its':=its ++ its2) hH e (by simp) (r.append r2) ?_,rfl,q⟩
 rw [List.length_append]
 omega
def rCat:R2:=fun x y H Q=>∃ l b xs zs,x = .ref l/\y = .ref b/\H l = some (.lst xs)/\H b = some (.lst zs)/\xs.length + zs.length<=sizeLine/\∀ p,H p = none->Q (.ref p) (upd H p (.lst (xs ++ zs)))
theorem op_cat:OpR X (binaryOp .Add) rCat:=by
 intro pins s σ H x y v u Q I rx ry h
 obtain ⟨l,b,xs,zs,rfl,rfl,hH,hB,hz,q⟩:=h
 cases rx
 cases ry
 obtain ⟨z,its,n,r,hl,e⟩:=I.lstM hH
 obtain ⟨z2,its2,n2,r2,hl2,e2⟩:=I.lstM hB
 refine PySem.P.add_list e e2 ?_ (by rw [List.size_toArray,List.size_toArray]; omega)
 have ea:its.toArray ++ its2.toArray = (its ++ its2).toArray:=by simp
 rw [ea]
 exact ⟨.ref _,_,I.lnew (t':=s.toks) (r.append r2) (by rw [List.length_append]; omega),rfl,q _ I.fresh⟩
def rRep:R2:=fun x y H Q=>∃ l k xs,x = .ref l/\y = .int k/\H l = some (.lst xs)/\-(2 ^ 63)<=k/\k < 2 ^ 63/\xs.length * k.toNat<=sizeLine/\
 ∀ p,H p = none->Q (.ref p) (upd H p (.lst (List.replicate k.toNat xs).flatten))
theorem len_rep {α : Type} (xs:List α) (k:Nat):(List.replicate k xs).flatten.length = k * xs.length:=by
 induction k with
 | zero=>simp
 | succ k ih=>rw [List.replicate_succ,List.flatten_cons,List.length_append,ih,Nat.succ_mul,Nat.add_comm]
theorem op_rep:OpR X (binaryOp .Mult) rRep:=by
 intro pins s σ H x y v u Q I rx ry h
 obtain ⟨l,k,xs,rfl,rfl,hH,h1,h2,hz,q⟩:=h
 cases rx
 obtain ⟨t,rfl⟩:=ry
 obtain ⟨z,its,n,r,hl,e⟩:=I.lstM hH
 have hlen:its.toArray.size * k.toNat<=sizeLine:=by rw [List.size_toArray,<- hl]; exact hz
 have hcap:¬ its.toArray.size * k.toNat > (2 ^ 63 - 1) / 8:=by
  have:(sizeLine:Nat)<=(2 ^ 63 - 1) / 8:=by decide
  omega
 have hfit:¬ (!Builtin.List.listFitsIndex k) = true:=by
  rw [fitsIndex_both h1 h2]
  exact Bool.false_ne_true
 have hlong:¬ Builtin.List.listTooLong (its.toArray.size * k.toNat) = true:=by
  rw [notLongL hlen]
  exact Bool.false_ne_true
 have hnew:List.foldl (fun x1 x2=>x1 ++ x2) #[] (List.replicate (if its.toArray.isEmpty = true then 0 else k.toNat) its.toArray) = (List.replicate k.toNat its).flatten.toArray:=by
  have f0:∀ m:Nat,List.foldl (fun x1 x2=>x1 ++ x2) #[] (List.replicate m its.toArray) = (List.replicate m its).flatten.toArray:=fun m=>by
   have:=foldl_rep its m []
   rw [List.nil_append] at this
   exact this
  rw [f0]
  cases its with
  | nil=>simp
  | cons a r'=>rw [if_neg (by simp)]
 refine wpAny_binaryOp_repeat_ref (T:="list") (U:="int") (by decide) ⟨_,e,rfl⟩ (fun s'=>typeIs_int s' k t) noFill_list_mul F.fills_int_mul F.slot_int_rmul repeat_list F.slot_int_index.lookup
  (call_meets F.slot_int_rmul (typeIs_int s k t) F.entry_int_rmul (F.args_int_rmul_2 _ _) (int___rmul___int_list k t l its.toArray n)
   ⟨e,rfl,⟨_,e,rfl⟩,call_meets F.slot_list_mul ⟨_,e,rfl⟩ F.entry_list_mul (F.args_list_mul_2 _ _) (AutoListH.list___mul___list_int_3 l its.toArray n k t hfit hcap hlong) ⟨e,?_⟩⟩)
 rw [hnew]
 exact ⟨.ref _,_,I.lnew (t':=s.toks) (r.rep k.toNat) (by rw [len_rep,Nat.mul_comm]; exact hz),rfl,q _ I.fresh⟩
end
section
variable {prog:Program} {w:World} {A:Around} {E:Value->Shared->Prop} {s:Shared}
end
section
variable {X:Cx}
end
section
variable {κ : Type} [DecidableEq κ]
def valV (kvs:List (κ × V)) (k : κ):Option V:=(kvs.find? fun kv=>decide (kv.1 = k)).map (·.2)
def putK (kvs:List (κ × V)) (k : κ) (v:V):List (κ × V):=
 if (kvs.any fun kv=>decide (kv.1 = k)) = true then kvs.map (fun kv=>if kv.1 = k then (kv.1,v) else kv) else kvs ++ [(k,v)]
theorem valV_pos {p : κ × V} {r:List (κ × V)} {k : κ} (e:p.1 = k):valV (p :: r) k = some p.2:=by simp [valV,List.find?_cons,e]
theorem valV_neg {p : κ × V} {r:List (κ × V)} {k : κ} (e:¬ p.1 = k):valV (p :: r) k = valV r k:=by simp [valV,List.find?_cons,e]
theorem valV_any (k : κ):∀ kvs:List (κ × V),(kvs.any fun kv=>decide (kv.1 = k)) = (valV kvs k).isSome
 | []=>rfl
 | p :: r=>by
  rw [List.any_cons]
  by_cases e:p.1 = k
  ·simp only [valV_pos e,decide_eq_true e,Bool.true_or,Option.isSome_some]
  ·rw [valV_neg e,decide_eq_false e,Bool.false_or]; exact valV_any k r
theorem valV_map (k j : κ) (y:V):∀ kvs:List (κ × V),valV (kvs.map fun kv=>if kv.1 = k then (kv.1,y) else kv) j = (valV kvs j).map fun x=>if j = k then y else x
 | []=>rfl
 | p :: r=>by
  have ih:=valV_map k j y r
  rw [List.map_cons]
  by_cases h:p.1 = k
  ·rw [if_pos h]
   by_cases e:p.1 = j
   ·rw [valV_pos (p:=(p.1,y)) e,valV_pos e,Option.map_some,if_pos (e.symm.trans h)]
   ·rw [valV_neg (p:=(p.1,y)) e,valV_neg e,ih]
  ·rw [if_neg h]
   by_cases e:p.1 = j
   ·rw [valV_pos (p:=p) e,valV_pos e,Option.map_some,if_neg (fun z=>h (e.trans z))]
   ·rw [valV_neg (p:=p) e,valV_neg e,ih]
theorem valV_snoc (k j : κ) (y:V):∀ kvs:List (κ × V),valV kvs k = none->valV (kvs ++ [(k,y)]) j = if j = k then some y else valV kvs j
 | [],_=>by
  by_cases e:k = j
  ·rw [if_pos e.symm]; exact valV_pos (p:=(k,y)) e
  ·rw [if_neg (fun z=>e z.symm)]; exact valV_neg (p:=(k,y)) e
 | p :: r,hn=>by
  rw [List.cons_append]
  have hk:¬ p.1 = k:=fun z=>by rw [valV_pos z] at hn; cases hn
  rw [valV_neg hk] at hn
  have ih:=valV_snoc k j y r hn
  by_cases e:p.1 = j
  ·rw [valV_pos e,valV_pos e,if_neg (fun z=>hk (e.trans z))]
  ·rw [valV_neg e,valV_neg e,ih]
theorem valV_put (kvs:List (κ × V)) (k j : κ) (y:V):valV (putK kvs k y) j = if j = k then some y else valV kvs j:=by
 unfold putK
 by_cases a:(kvs.any fun kv=>decide (kv.1 = k)) = true
 ·rw [if_pos a,valV_map]
  rw [valV_any] at a
  by_cases e:j = k
  ·obtain ⟨x,hx⟩:=Option.isSome_iff_exists.mp a
   rw [if_pos e,e,hx,Option.map_some,if_pos rfl]
  ·rw [if_neg e]
   cases valV kvs j with
   | none=>rfl
   | some x=>rw [Option.map_some,if_neg e]
 ·rw [if_neg a]
  refine valV_snoc k j y kvs ?_
  rw [valV_any] at a
  cases q:valV kvs k with
  | none=>rfl
  | some x=>rw [q] at a; exact (a rfl).elim
theorem length_putK (kvs:List (κ × V)) (k : κ) (v:V):(putK kvs k v).length<=kvs.length + 1:=by
 unfold putK
 split
 ·rw [List.length_map]; omega
 ·rw [List.length_append,List.length_cons,List.length_nil]; omega
theorem RelO.isSome_eq {o:Option V} {u:Option Value} (r:RelO o u):o.isSome = u.isSome:=by
 cases o with
 | none=>cases u with
  | none=>rfl
  | some _=>exact (show False from r).elim
 | some _=>cases u with
  | none=>exact (show False from r).elim
  | some _=>rfl
theorem RelO.getD {o:Option V} {u:Option Value} {d:V} {d':Value} (r:RelO o u) (rd:RelV d d'):RelV (o.getD d) (u.getD d'):=by
 cases o with
 | none=>cases u with
  | none=>exact rd
  | some _=>exact (show False from r).elim
 | some _=>cases u with
  | none=>exact (show False from r).elim
  | some _=>exact r
theorem KV.val {kvs:List (κ × V)} {vs:List (κ × Value)} (r:KV kvs vs) (k : κ):RelO (valV kvs k) (valueAt vs k):=by
 unfold KV at r
 induction r with
 | nil=>exact True.intro
 | @cons p q ps qs h t ih=>
  obtain ⟨h1,h2⟩:=h
  by_cases e:p.1 = k
  ·have e':q.1 = k:=h1.symm.trans e
   have b:valueAt (q :: qs) k = some q.2:=by simp [valueAt,List.find?_cons,e']
   rw [valV_pos e,b]; exact h2
  ·have e':¬ q.1 = k:=fun z=>e (h1.trans z)
   have b:valueAt (q :: qs) k = valueAt qs k:=by simp [valueAt,List.find?_cons,e']
   rw [valV_neg e,b]; exact ih
theorem KV.any {kvs:List (κ × V)} {vs:List (κ × Value)} (r:KV kvs vs) (k : κ):(kvs.any fun kv=>decide (kv.1 = k)) = vs.any fun kv=>decide (kv.1 = k):=by
 unfold KV at r
 induction r with
 | nil=>rfl
 | cons h t ih=>rw [List.any_cons,List.any_cons,ih,h.1]
theorem KV.repl {kvs:List (κ × V)} {vs:List (κ × Value)} (r:KV kvs vs) (k : κ) {y:V} {u:Value} (ry:RelV y u) :
  KV (kvs.map fun kv=>if kv.1 = k then (kv.1,y) else kv) (vs.map fun kv=>if kv.1 = k then (kv.1,u) else kv):=by
 unfold KV at r |-
 induction r with
 | nil=>exact .nil
 | @cons p q ps qs h t ih=>
  rw [List.map_cons,List.map_cons]
  refine .cons ?_ ih
  obtain ⟨h1,h2⟩:=h
  by_cases e:p.1 = k
  ·rw [if_pos e,if_pos (h1.symm.trans e)]; exact ⟨h1,ry⟩
  ·rw [if_neg e,if_neg (fun z=>e (h1.trans z))]; exact ⟨h1,h2⟩
theorem KV.put {kvs:List (κ × V)} {vs:List (κ × Value)} (r:KV kvs vs) (k : κ) {y:V} {u:Value} (ry:RelV y u):KV (putK kvs k y) (stored vs k u):=by
 unfold putK stored
 rw [r.any k]
 by_cases e:(vs.any fun kv=>decide (kv.1 = k)) = true
 ·rw [if_pos e,if_pos e]; exact r.repl k ry
 ·rw [if_neg e,if_neg e]; exact Paired.snoc r ⟨rfl,ry⟩
theorem KV.length {kvs:List (κ × V)} {vs:List (κ × Value)} (r:KV kvs vs):kvs.length = vs.length:=Paired.length r
end
theorem kV_is {P:Program} {w:World} {k:Key} {u:Value} (r:RelV (kV k) u):(mixKind P w).is k u = true:=by
 cases k with
 | inl i=>obtain ⟨t,e⟩:=(show ∃ t,u = Value.int i t from r); subst e; exact mixKind_int P w i t
 | inr x=>obtain ⟨t,e⟩:=(show ∃ t,u = Value.str x t from r); subst e; exact mixKind_str P w x t
theorem items_are {P:Program} {w:World}:∀ {ks:List Key} {us:List Value},Vals (ks.map kV) us->ItemsAre (mixKind P w) ks us
 | [],_,r=>by rw [List.map_nil] at r; cases r; exact .nil
 | k :: ks,_,r=>by
  rw [List.map_cons] at r
  cases r with
  | cons h t=>exact .cons (kV_is h) (items_are t)
abbrev KT (H:Hp):List (List Key × V)->List (List Key × Addr × Value)->Prop:=Paired fun p q=>p.1 = q.1/\H q.2.1 = some (.tup (p.1.map kV))/\RelV p.2 q.2.2
theorem KT.val {H:Hp} {kvs:List (List Key × V)} {xs:List (List Key × Addr × Value)} (r:KT H kvs xs) (k:List Key):RelO (valV kvs k) ((atKey xs k).map (·.2)):=by
 induction r with
 | nil=>exact True.intro
 | @cons p q ps qs h t ih=>
  obtain ⟨h1,_,h2⟩:=h
  by_cases e:p.1 = k
  ·have e':q.1 = k:=h1.symm.trans e
   have b:atKey (q :: qs) k = some q.2:=by simp [atKey,List.find?_cons,e']
   rw [valV_pos e,b]; exact h2
  ·have e':¬ q.1 = k:=fun z=>e (h1.trans z)
   have b:atKey (q :: qs) k = atKey qs k:=by simp [atKey,List.find?_cons,e']
   rw [valV_neg e,b]; exact ih
theorem KT.repl {H:Hp} {kvs:List (List Key × V)} {xs:List (List Key × Addr × Value)} (r:KT H kvs xs) (k:List Key) {y:V} {u:Value} (ry:RelV y u) :
  KT H (kvs.map fun kv=>if kv.1 = k then (kv.1,y) else kv) (xs.map (putAt k u)):=by
 induction r with
 | nil=>exact .nil
 | @cons p q ps qs h t ih=>
  rw [List.map_cons,List.map_cons]
  refine .cons ?_ ih
  obtain ⟨h1,h2,h3⟩:=h
  unfold putAt
  by_cases e:p.1 = k
  ·rw [if_pos e,if_pos (h1.symm.trans e)]; exact ⟨h1,h2,ry⟩
  ·rw [if_neg e,if_neg (fun z=>e (h1.trans z))]; exact ⟨h1,h2,h3⟩
theorem KT.put {H:Hp} {kvs:List (List Key × V)} {xs:List (List Key × Addr × Value)} (r:KT H kvs xs) (k:List Key) {b:Addr} {y:V} {u:Value} (hb:H b = some (.tup (k.map kV))) (ry:RelV y u) :
  KT H (putK kvs k y) (storedH xs k b u):=by
 have e:(kvs.any fun kv=>decide (kv.1 = k)) = (atKey xs k).isSome:=by
  rw [valV_any,(r.val k).isSome_eq,Option.isSome_map]
 unfold putK storedH
 rw [e]
 by_cases q:(atKey xs k).isSome = true
 ·rw [if_pos q,if_pos q]; exact r.repl k ry
 ·rw [if_neg q,if_neg q]; exact Paired.snoc r ⟨rfl,hb,ry⟩
theorem KT.keeps {H H':Hp} {kvs:List (List Key × V)} {xs:List (List Key × Addr × Value)} (r:KT H kvs xs) (ht:∀ b ys,H b = some (.tup ys)->H' b = some (.tup ys)):KT H' kvs xs:=
 Paired.mapP r fun _ _ z=>⟨z.1,ht _ _ z.2.1,z.2.2⟩
section
variable {P:Program} {w:World} {H:Hp} {h:Heap} {a:Addr}
theorem rd_of {u:HO} (ok:HOk P w H h) (e:Rd H a u):ObjOk P w H h a u:=e.ok ok
theorem dk_rd {kvs:List (Key × V)} (ok:HOk P w H h) (e:Rd H a (.dK kvs)):kvs.length<=sizeLine/\(a == sysModules) = false/\∃ vs,KV kvs vs/\h.DictOf (mixKind P w) a vs:=
 show ObjOk P w H h a (.dK kvs) from rd_of ok e
theorem dk_of {kvs:List (Key × V)} (ok:HOk P w H h) (e:H a = some (.dK kvs)):kvs.length<=sizeLine/\(a == sysModules) = false/\∃ vs,KV kvs vs/\h.DictOf (mixKind P w) a vs:=dk_rd ok (.inl e)
theorem key_of {ks:List Key} (ok:HOk P w H h) (e:H a = some (.tup (ks.map kV))):(tupleKind (mixKind P w)).is h ks a:=by
 obtain ⟨_,its,r,o,h1,h2,n,h3⟩:=(show ObjOk P w H h a (.tup (ks.map kV)) from ok a _ e)
 exact ⟨o,its.toArray,n,h1,h2,h3,by simpa using items_are r⟩
theorem dt_rd {kvs:List (List Key × V)} (ok:HOk P w H h) (e:Rd H a (.dT kvs)):kvs.length<=sizeLine/\(a == sysModules) = false/\
  ∃ xs,KT H kvs xs/\h.DictOfH (tupleKind (mixKind P w)) a xs:=by
 obtain ⟨z,y,xs,r,o,es,ep,h1,h2,h3,h4,h5⟩:=(show ObjOk P w H h a (.dT kvs) from rd_of ok e)
 refine ⟨z,y,xs,r,o,es,ep,h1,h2,h3,h4,fun x hx=>?_,h5⟩
 have all:∀ {l:List (List Key × V)} {m:List (List Key × Addr × Value)},KT H l m->∀ x ∈ m,(tupleKind (mixKind P w)).is h x.1 x.2.1:=by
  intro l m q
  induction q with
  | nil=>intro x hx; exact nomatch hx
  | @cons p q ps qs hq t ih=>
   intro x hx
   rcases List.mem_cons.mp hx with e | hx
   ·subst e
    exact key_of ok (by rw [<- hq.1]; exact hq.2.1)
   ·exact ih x hx
 exact all r x hx
theorem dt_of {kvs:List (List Key × V)} (ok:HOk P w H h) (e:H a = some (.dT kvs)):kvs.length<=sizeLine/\(a == sysModules) = false/\
  ∃ xs,KT H kvs xs/\h.DictOfH (tupleKind (mixKind P w)) a xs:=dt_rd ok (.inl e)
end
def DGet (H:Hp) (a:Addr) (y:V) (r:Option V):Prop:=
 (∃ kvs k,Rd H a (.dK kvs)/\y = kV k/\r = valV kvs k)\/∃ kvs k b,Rd H a (.dT kvs)/\y = .ref b/\H b = some (.tup (k.map kV))/\r = valV kvs k
def DPut (H:Hp) (a:Addr) (y v:V) (H':Hp):Prop:=
 (∃ kvs k,H a = some (.dK kvs)/\y = kV k/\kvs.length < sizeLine/\H' = upd H a (.dK (putK kvs k v)))\/
 ∃ kvs k b,H a = some (.dT kvs)/\y = .ref b/\H b = some (.tup (k.map kV))/\kvs.length < sizeLine/\H' = upd H a (.dT (putK kvs k v))
theorem DPut.k {H:Hp} {a:Addr} {kvs:List (Key × V)} {k:Key} {v:V} (e:H a = some (.dK kvs)) (hl:kvs.length < sizeLine):DPut H a (kV k) v (upd H a (.dK (putK kvs k v))):=.inl ⟨kvs,k,e,rfl,hl,rfl⟩
section
variable {X:Cx} {pins:List (Addr × Obj)} {σ : St} {H:Hp} {s:Shared} {a:Addr} {y v:V} {u r:Value} {o:Option V} {A:Around} {E:Value->Shared->Prop}
theorem Inv.big (I:Inv X pins σ H s):sysModules < s.heap.objs.size:=by
 have h:mainGlobals < s.heap.objs.size:=(I.mod.glob.keeps I.bk).lt
 exact Nat.lt_trans (by decide) h
theorem d_getItem {Q:Value->Shared->Prop} (hu:A.units + 1 < cLine) (I:Inv X pins σ H s) (g:DGet H a y (some v)) (ry:RelV y u) (h:∀ w' s',Inv X pins σ H s'->RelV v w'->Q w' s') :
  wpAny (model X.prog X.w) A (getItem (.ref a) u) Q E s:=by
 rcases g with ⟨kvs,k,e,ey,l⟩ | ⟨kvs,k,b,e,ey,eb,l⟩
 ·subst ey
  obtain ⟨z,hd,vs,rel,dd⟩:=dk_rd I.hok e
  obtain ⟨w',hw,rw'⟩:=RelO.some_of (v:=v) (o:=valueAt vs k) (by rw [l]; exact rel.val k)
  exact wpAny_getItem_of (kV_is ry) dd.mapOf hw (h w' _ (I.tok _) rw')
 ·subst ey
  cases (show u = Value.ref b from ry)
  obtain ⟨z,hd,xs,rel,dd⟩:=dt_rd I.hok e
  obtain ⟨w',hw,rw'⟩:=RelO.some_of (v:=v) (o:=(atKey xs k).map (·.2)) (by rw [l]; exact rel.val k)
  obtain ⟨p,hp,hp2⟩:=Option.map_eq_some_iff.mp hw
  refine wpAny_getItem_heap (tupleKind_room_in1 hu) (key_of I.hok eb) dd hp ?_
  rw [hp2]
  exact h w' _ (I.tok _) rw'
theorem d_in {Q:Value->Shared->Prop} (hu:A.units + 1 < cLine) (I:Inv X pins σ H s) (g:DGet H a y o) (ry:RelV y u) (h:∀ s',Inv X pins σ H s'->Q (.bool o.isSome) s') :
  wpAny (model X.prog X.w) A (compareOp .In u (.ref a)) Q E s:=by
 rcases g with ⟨kvs,k,e,ey,l⟩ | ⟨kvs,k,b,e,ey,eb,l⟩
 ·subst ey
  obtain ⟨z,hd,vs,rel,dd⟩:=dk_rd I.hok e
  refine wpAny_in_of (kV_is ry) hd dd.mapOf ?_
  rw [<- (rel.val k).isSome_eq,<- l]
  exact h _ (I.tok _)
 ·subst ey
  cases (show u = Value.ref b from ry)
  obtain ⟨z,hd,xs,rel,dd⟩:=dt_rd I.hok e
  refine wpAny_in_heap (tupleKind_room_in1 hu) (key_of I.hok eb) hd dd ?_
  have q:=(rel.val k).isSome_eq
  rw [Option.isSome_map] at q
  rw [<- q,<- l]
  exact h _ (I.tok _)
theorem d_notIn {Q:Value->Shared->Prop} (hu:A.units + 1 < cLine) (I:Inv X pins σ H s) (g:DGet H a y o) (ry:RelV y u) (h:∀ s',Inv X pins σ H s'->Q (.bool (!o.isSome)) s') :
  wpAny (model X.prog X.w) A (compareOp .NotIn u (.ref a)) Q E s:=by
 rcases g with ⟨kvs,k,e,ey,l⟩ | ⟨kvs,k,b,e,ey,eb,l⟩
 ·subst ey
  obtain ⟨z,hd,vs,rel,dd⟩:=dk_rd I.hok e
  refine wpAny_notIn_of (kV_is ry) hd dd.mapOf ?_
  rw [<- (rel.val k).isSome_eq,<- l]
  exact h _ (I.tok _)
 ·subst ey
  cases (show u = Value.ref b from ry)
  obtain ⟨z,hd,xs,rel,dd⟩:=dt_rd I.hok e
  refine wpAny_notIn_heap (tupleKind_room_in1 hu) (key_of I.hok eb) hd dd ?_
  have q:=(rel.val k).isSome_eq
  rw [Option.isSome_map] at q
  rw [<- q,<- l]
  exact h _ (I.tok _)
theorem d_write {h':Heap} {t':Nat} {ob:HO} (I:Inv X pins σ H s) (mu:Mut (H a)) (hs:Heap.SameBut a s.heap h') (he:∃ q,h'.get? a = some q) (new:ObjOk X.prog X.w (upd H a ob) h' a ob) :
  Inv X pins σ (upd H a ob) { s with heap:=h',toks:=t' }:=
 I.write (x:=a) (e:=a) mu (.inl rfl) (fun b q hb z=>(hs.2 b hb).trans z) he new
theorem dk_new {P:Program} {w:World} {H':Hp} {h':Heap} {kvs:List (Key × V)} {vs:List (Key × Value)} (z:kvs.length<=sizeLine) (hd:(a == sysModules) = false) (rel:KV kvs vs) (dd:h'.DictOf (mixKind P w) a vs) :
  ObjOk P w H' h' a (.dK kvs):=⟨z,hd,vs,rel,dd⟩
theorem d_setItem {H':Hp} {Q:Unit->Shared->Prop} (hu:A.units + 1 < cLine) (I:Inv X pins σ H s) (g:DPut H a y v H') (ry:RelV y u) (rv:RelV v r) (h:∀ s',Inv X pins σ H' s'->Q () s') :
  wpAny (model X.prog X.w) A (setItem (.ref a) u r) Q E s:=by
 rcases g with ⟨kvs,k,e,ey,l,eH⟩ | ⟨kvs,k,b,e,ey,eb,l,eH⟩
 ·subst ey eH
  obtain ⟨z,hd,vs,rel,dd⟩:=dk_of I.hok e
  have hz:vs.length<=sizeLine:=by rw [<- rel.length]; exact z
  have hl:(putK kvs k v).length<=sizeLine:=by have:=length_putK kvs k v; omega
  refine wpAny_setItem_pairs (hsz:=hz) (kV_is ry) dd fun h' dd' hs=>h _ ?_
  have he:∃ q,h'.get? a = some q:=let ⟨q,_,_,hq,_⟩:=dd'; ⟨q,hq⟩
  exact d_write I (by rw [e]; exact True.intro) hs he (dk_new hl hd (rel.put k rv) dd')
 ·subst ey eH
  cases (show u = Value.ref b from ry)
  obtain ⟨z,hd,xs,rel,dd⟩:=dt_of I.hok e
  have hz:xs.length<=sizeLine:=by rw [<- Paired.length rel]; exact z
  have hl:(putK kvs k v).length<=sizeLine:=by have:=length_putK kvs k v; omega
  refine wpAny_setItem_heap (hsz:=hz) (tupleKind_room_in1 hu) (key_of I.hok eb) dd fun h' dd' hs=>h _ ?_
  obtain ⟨q,es,ep,hq,h2,h3,h4,_,h5⟩:=dd'
  refine d_write I (by rw [e]; exact True.intro) hs ⟨q,hq⟩ ⟨hl,hd,_,(rel.put k eb rv).keeps fun c ys ec=>?_,q,es,ep,hq,h2,h3,h4,h5⟩
  rw [upd_ne (ne_of ec e (fun z=>nomatch z))]
  exact ec
end
section
variable {X:Cx} {pins:List (Addr × Obj)} {σ : St} {H:Hp} {s:Shared} {a:Addr} {kvs:List (Key × V)} {k:Key} {u:Value} {A:Around} {E:Value->Shared->Prop}
end
def NoSl (i:Expr):Prop:=∀ ov iv,subscripted i false ov iv = operate [ov,iv] (getItem ov iv)
theorem subD_of {prog:Program} {w:World} {A:Around} {E:Value->Shared->Prop} {s:Shared} {env:Env} {value slice:Expr} {pos:Pos} {T id:String} {Q:Value->Shared->Prop}
  (hl:typeLookup (.type T) "__getitem__" = pure (some (.builtin id))) (hs:NoSl slice)
  (h:wpAny (model prog w) A (eval value env) (fun o s₁=>wpAny (model prog w) A (eval slice env) (fun i s₂=>s₂.TypeIs o T/\wpAny (model prog w) A (getItem o i) Q E s₂) E s₁) E s) :
  wpAny (model prog w) A (eval (.Subscript value slice pos) env) Q E s:=by
 refine Subscript_ (wpAny_mono h (fun o s₁ h₁=>wpAny_mono h₁ (fun i s₂ h₂=>?_) fun _ _ x=>x) fun _ _ x=>x)
 obtain ⟨hT,h₂⟩:=h₂
 unfold subscriptTail
 refine wpAny_bind ?_
 rw [getitemInPython_of_ne hT.not_modules]
 refine wpAny_bind (wpAny_specialOf hT hl ?_)
 have fin:wpAny (model prog w) A (subscripted slice false o i) (fun r s₃=>wpAny (model prog w) A (letTemporaryGo value o r >>= fun _=>pure r) Q E s₃) E s₂:=by
  rw [hs o i]
  exact wpAny_operating (wpAny_mono h₂ (fun r s₃ h₃=>wpAny_bind (wpAny_letTemporaryGo (wpAny_pure h₃))) fun _ _ x=>x)
 first
  | exact wpAny_pure (wpAny_bind fin)
  | exact wpAny_bind (wpAny_pure (wpAny_bind fin))
  | exact wpAny_bind fin
theorem dict_typeIs {X:Cx} {pins:List (Addr × Obj)} {σ : St} {H:Hp} {s:Shared} {a:Addr} {y:V} {o:Option V} (I:Inv X pins σ H s) (g:DGet H a y o):s.TypeIs (.ref a) "dict":=by
 rcases g with ⟨kvs,k,e,_,_⟩ | ⟨kvs,k,b,e,_,_,_⟩
 ·obtain ⟨_,_,vs,_,dd⟩:=dk_rd I.hok e
  exact dd.typeIs
 ·obtain ⟨_,_,xs,_,dd⟩:=dt_rd I.hok e
  exact dd.typeIs
def tDGet (td ty:TE):TE:=fun σ H Q=>td σ H fun x H1=>ty σ H1 fun y H2=>∃ a v,x = .ref a/\DGet H2 a y (some v)/\Q v H2
def tDIn (ty td:TE):TE:=fun σ H Q=>ty σ H fun y H1=>td σ H1 fun x H2=>∃ a o,x = .ref a/\DGet H2 a y o/\Q (.bl o.isSome) H2
def tDNotIn (ty td:TE):TE:=fun σ H Q=>ty σ H fun y H1=>td σ H1 fun x H2=>∃ a o,x = .ref a/\DGet H2 a y o/\Q (.bl (!o.isSome)) H2
def sDPut (td ty tv:TE):TS:=fun D σ H=>tv σ H fun v H1=>td σ H1 fun x H2=>ty σ H2 fun y H3=>∃ a H4,x = .ref a/\DPut H3 a y v H4/\D.nx σ H4
section
variable {X:Cx} {o i e value:Expr} {pos pos' tpos:Pos} {td ty tv:TE}
theorem pe_dget (hu:X.A.units + 1 < cLine) (ho:PE X o td) (hi:PE X i ty) (hs:NoSl i):PE X (.Subscript o i pos) (tDGet td ty):=by
 refine ⟨?_⟩
 intro pins s σ H Q I h
 refine subD_of PySem.F.slot_dict_getitem.lookup hs (thn (ho pins s σ H _ I h) fun u s1 ⟨x,H1,I1,rx,q1⟩=>thn (hi pins s1 σ H1 _ I1 q1) fun iv s2 ⟨y,H2,I2,ry,a,v,ex,g,q2⟩=>?_)
 subst ex
 obtain rfl:u = Value.ref a:=rx
 exact ⟨dict_typeIs I2 g,d_getItem hu I2 g ry fun w' s3 I3 rw'=>⟨v,H2,I3,rw',q2⟩⟩
theorem pc_din (hu:X.A.units + 1 < cLine) (hi:PE X i ty) (ho:PE X o td):PC X .In i o (tDIn ty td):=by
 refine ⟨?_⟩
 intro pins s σ H Q I h
 refine thn (hi pins s σ H _ I h) fun iv s1 ⟨y,H1,I1,ry,q1⟩=>thn (ho pins s1 σ H1 _ I1 q1) fun u s2 ⟨x,H2,I2,rx,a,ov,ex,g,q2⟩=>?_
 subst ex
 obtain rfl:u = Value.ref a:=rx
 exact d_in hu I2 g ry fun s3 I3=>⟨.bl ov.isSome,H2,I3,rfl,q2⟩
theorem pc_dnotin (hu:X.A.units + 1 < cLine) (hi:PE X i ty) (ho:PE X o td):PC X .NotIn i o (tDNotIn ty td):=by
 refine ⟨?_⟩
 intro pins s σ H Q I h
 refine thn (hi pins s σ H _ I h) fun iv s1 ⟨y,H1,I1,ry,q1⟩=>thn (ho pins s1 σ H1 _ I1 q1) fun u s2 ⟨x,H2,I2,rx,a,ov,ex,g,q2⟩=>?_
 subst ex
 obtain rfl:u = Value.ref a:=rx
 exact d_notIn hu I2 g ry fun s3 I3=>⟨.bl (!ov.isSome),H2,I3,rfl,q2⟩
theorem ps_dput (hu:X.A.units + 1 < cLine) (ho:PE X o td) (hi:PE X i ty) (hv:PE X value tv) (hs:swapsWith value (some (.Subscript o i pos')) pos.line X.env = pure false) :
  PS X (.Assign [.Subscript o i pos'] value pos) (sDPut td ty tv):=by
 refine ⟨?_⟩
 intro pins s σ H D I h
 refine wpAny_Assign_Subscript (thn (hv pins s σ H _ I h) fun r s1 ⟨v,H1,I1,rv,q1⟩=>thn (ho pins s1 σ H1 _ I1 q1) fun u s2 ⟨x,H2,I2,rx,q2⟩=>thn (hi pins s2 σ H2 _ I2 q2) fun iv s3 ⟨y,H3,I3,ry,a,H4,ex,g,q3⟩=>?_) hs
 subst ex
 obtain rfl:u = Value.ref a:=rx
 exact d_setItem hu I3 g ry rv fun s4 I4=>⟨σ,H4,I4,q3⟩
end
theorem dk_empty {P:Program} {w:World} {H:Hp} (h:Heap) (hb:sysModules < h.objs.size):ObjOk P w H (h.push { cls:=.type "dict",data:=.dict #[] }) h.objs.size (.dK []):=
 ⟨Nat.zero_le _,beq_eq_false_iff_ne.mpr (Ne.symm (Nat.ne_of_lt hb)),[],.nil,Heap.DictOf.new h⟩
def tDNewK:TE:=fun _ H Q=>∀ p,H p = none->Q (.ref p) (upd H p (.dK []))
section
variable {X:Cx} {pos:Pos}
theorem pe_dnewK:PE X (.Dict [] [] pos) tDNewK:=⟨fun pins s σ H Q I h=>
 wpAny_Dict_empty ⟨.ref s.heap.objs.size,_,I.laid (a:=s.heap.objs.size) (o:=.dK []) (t':=s.toks) (fun _ _ q=>Heap.get?_push_of_some _ q) (Nat.le_refl _) (dk_empty s.heap I.big),rfl,h _ (I.hok.fresh (Nat.le_refl _))⟩⟩
end
def tPairs:List (TE × TE)->St->Hp->(List (V × V)->Hp->Prop)->Prop
 | [],_,H,Q=>Q [] H
 | (tk,tv) :: r,σ,H,Q=>tk σ H fun x H1=>tv σ H1 fun y H2=>tPairs r σ H2 fun ps H3=>Q ((x,y) :: ps) H3
abbrev VV:List (V × V)->List (Value × Value)->Prop:=Paired fun p q=>RelV p.1 q.1/\RelV p.2 q.2
structure PPs (X:Cx) (pos:Pos) (keys:List (Option Expr)) (values:List Expr) (trs:List (TE × TE)):Prop where
 run:∀ (pins:List (Addr × Obj)) (s:Shared) (σ : St) (H:Hp) (Q:List (V × V)->Hp->Prop),Inv X pins σ H s->tPairs trs σ H Q->
  wpAny (model X.prog X.w) X.A (evalPairs (pairTrees keys values X.env pos)) (fun vs s'=>∃ ps H',Inv X pins σ H' s'/\VV ps vs/\Q ps H') X.xe s
instance {X:Cx} {pos:Pos} {keys:List (Option Expr)} {values:List Expr} {trs:List (TE × TE)}:CoeFun (PPs X pos keys values trs) (fun _=>∀ (pins:List (Addr × Obj)) (s:Shared) (σ : St) (H:Hp) (Q:List (V × V)->Hp->Prop),Inv X pins σ H s->tPairs trs σ H Q->
  wpAny (model X.prog X.w) X.A (evalPairs (pairTrees keys values X.env pos)) (fun vs s'=>∃ ps H',Inv X pins σ H' s'/\VV ps vs/\Q ps H') X.xe s):=⟨PPs.run⟩
theorem pps_nil {X:Cx} {pos:Pos}:PPs X pos [] [] []:=⟨fun pins s σ H Q I h=>pairTrees_nil_walk ⟨[],H,I,.nil,h⟩⟩
theorem pps_cons {X:Cx} {pos:Pos} {k v:Expr} {ks:List (Option Expr)} {vs:List Expr} {tk tv:TE} {trs:List (TE × TE)} (hk:PE X k tk) (hv:PE X v tv) (hr:PPs X pos ks vs trs) :
  PPs X pos (some k :: ks) (v :: vs) ((tk,tv) :: trs):=⟨fun pins s σ H Q I h=>
 pairTrees_cons_walk (thn (hk pins s σ H _ I h) fun u s1 ⟨x,H1,I1,rx,q1⟩=>thn (hv pins s1 σ H1 _ I1 q1) fun w2 s2 ⟨y,H2,I2,ry,q2⟩=>
  thn (hr pins s2 σ H2 _ I2 q2) fun ws s3 ⟨ps,H3,I3,rel,q3⟩=>⟨(x,y) :: ps,H3,I3,.cons ⟨rx,ry⟩ rel,q3⟩)⟩
def mergeK (kvs more:List (Key × V)):List (Key × V):=more.foldl (fun acc kv=>putK acc kv.1 kv.2) kvs
theorem KV.merge:∀ {more:List (Key × V)} {rs:List (Key × Value)} {kvs:List (Key × V)} {vs:List (Key × Value)},KV more rs->KV kvs vs->KV (mergeK kvs more) (merged vs rs):=by
 intro more rs kvs vs r
 unfold KV at r
 induction r generalizing kvs vs with
 | nil=>intro q; exact q
 | @cons p q ps qs h t ih=>
  intro r0
  have e:KV (putK kvs p.1 p.2) (stored vs q.1 q.2):=by
   have:=r0.put p.1 h.2
   rw [<- h.1]; exact this
  exact ih e
theorem length_mergeK:∀ (more kvs:List (Key × V)),(mergeK kvs more).length<=kvs.length + more.length
 | [],kvs=>by show kvs.length<=kvs.length + 0; omega
 | p :: r,kvs=>by
  have h1:=length_mergeK r (putK kvs p.1 p.2)
  have h2:=length_putK kvs p.1 p.2
  show (mergeK (putK kvs p.1 p.2) r).length<=_
  rw [List.length_cons]; omega
theorem carries_of {P:Program} {w:World}:∀ {kvs:List (Key × V)} {ws:List (Value × Value)},VV (kvs.map fun kv=>(kV kv.1,kv.2)) ws->∃ rs,Carries (mixKind P w) ws rs/\KV kvs rs
 | [],_,r=>by rw [List.map_nil] at r; cases r; exact ⟨[],True.intro,.nil⟩
 | p :: kvs,_,r=>by
  rw [List.map_cons] at r
  cases r with
  | @cons a b as bs h t=>
   obtain ⟨rs,c,q⟩:=carries_of (P:=P) (w:=w) t
   obtain ⟨b1,b2⟩:=b
   exact ⟨(p.1,b2) :: rs,⟨kV_is h.1,rfl,c⟩,.cons ⟨rfl,h.2⟩ q⟩
def tDisp (trs:List (TE × TE)):TE:=fun σ H Q=>∀ p,H p = none->tPairs trs σ (upd H p (.dK [])) fun ps H2=>H2 p = some (.dK [])/\∃ kvs:List (Key × V),ps = kvs.map (fun kv=>(kV kv.1,kv.2))/\kvs.length<=15/\Q (.ref p) (upd H2 p (.dK (mergeK [] kvs)))
theorem pe_disp {X:Cx} {pos:Pos} {keys:List (Option Expr)} {values:List Expr} {trs:List (TE × TE)} (h:PPs X pos keys values trs) (hall:keys.all (·.isSome) = true) (hl:keys.length = values.length) (h0:keys ≠ [])
  (h15:keys.length<=15):PE X (.Dict keys values pos) (tDisp trs):=by
 refine ⟨?_⟩
 intro pins s σ H Q I q
 have hn:=I.hok.fresh (Nat.le_refl s.heap.objs.size)
 have I1:=I.laid (a:=s.heap.objs.size) (o:=.dK []) (h':=s.heap.push { cls:=.type "dict",data:=.dict #[] }) (t':=s.toks) (fun _ _ q=>Heap.get?_push_of_some _ q) (Nat.le_refl _) (dk_empty s.heap I.big)
 refine wpAny_Dict_walk (knd:=mixKind X.prog X.w) hall hl h0 h15 (thn (h pins _ σ _ _ I1 (q _ hn)) fun ws s2 ⟨ps,H2,I2,rel,e,kvs,ep,lk,q2⟩=>?_)
 subst ep
 obtain ⟨rs,c,rk⟩:=carries_of (P:=X.prog) (w:=X.w) rel
 obtain ⟨z,hd,vs0,r0,dd⟩:=dk_of I2.hok e
 cases r0
 refine ⟨rs,c,dd,fun h' dd' hs=>⟨.ref s.heap.objs.size,_,?_,rfl,q2⟩⟩
 have hz:(mergeK [] kvs).length<=sizeLine:=by
  have h1:=length_mergeK kvs []
  rw [List.length_nil] at h1
  rw [sizeLine_eq]; omega
 have he:∃ q,h'.get? s.heap.objs.size = some q:=let ⟨q,_,_,hq,_⟩:=dd'; ⟨q,hq⟩
 exact d_write I2 (by rw [e]; exact True.intro) hs he (dk_new hz hd (rk.merge .nil) dd')
structure M1 (X:Cx) (o:Expr) (m:Str) (apos:Pos) (e:Expr) (cpos:Pos):Prop where
 base:attributeBase o m X.env (eval o X.env) = eval o X.env
 few:((backTo cpos (starEach [e] X.env)).all (fun x=>!x.1) && (backToKw cpos (keywordEach [] X.env)).all (fun x=>x.1.isSome)
  && decide (([e]:List Expr).length + ([]:List Keyword).length + (if ([]:List Keyword).isEmpty then 0 else 1) < 30)) = true
 line:(apos.endLine == cpos.line) = true
 trees:backTo cpos (starEach [e] X.env) = [(false,eval e X.env)]
def IsD (H:Hp) (a:Addr):Prop:=(∃ kvs,Rd H a (.dK kvs))\/∃ kvs,Rd H a (.dT kvs)
theorem isD_at {X:Cx} {pins:List (Addr × Obj)} {σ : St} {H:Hp} {s:Shared} {a:Addr} (I:Inv X pins σ H s) (d:IsD H a) :
  s.TypeIs (.ref a) "dict"/\(∀ b,Value.ref a = .ref b->∃ ob,s.heap.get? b = some ob/\ob.dict = none)/\(a == sysModules) = false:=by
 rcases d with ⟨kvs,e⟩ | ⟨kvs,e⟩
 ·obtain ⟨_,hd,vs,_,dd⟩:=dk_rd I.hok e
  refine ⟨dd.typeIs,fun b q=>?_,hd⟩
  cases q
  obtain ⟨ob,_,_,h1,h2,_⟩:=dd
  exact ⟨ob,h1,h2.2.1⟩
 ·obtain ⟨_,hd,xs,_,dd⟩:=dt_rd I.hok e
  refine ⟨dd.typeIs,fun b q=>?_,hd⟩
  cases q
  obtain ⟨ob,_,_,h1,h2,_⟩:=dd
  exact ⟨ob,h1,h2.2.1⟩
section
variable {X:Cx} {pins:List (Addr × Obj)} {σ : St} {H:Hp} {s:Shared} {a:Addr} {y d:V} {u r:Value} {o:Option V} {A:Around} {E:Value->Shared->Prop}
theorem d_get1 {Q:Value->Shared->Prop} (hu:A.units + 1 < cLine) (I:Inv X pins σ H s) (g:DGet H a y o) (ry:RelV y u) (h:∀ w' s',Inv X pins σ H s'->RelV (o.getD .non) w'->Q w' s') :
  wpAny (model X.prog X.w) A (call (.builtin "dict.get") [.ref a,u]) Q E s:=by
 rcases g with ⟨kvs,k,e,ey,l⟩ | ⟨kvs,k,b,e,ey,eb,l⟩
 ·subst ey
  obtain ⟨z,hd,vs,rel,dd⟩:=dk_rd I.hok e
  refine call_meetsIn PySem.F.slot_dict_get dd.typeIs PySem.F.entry_dict_get (PySem.F.args_dict_get_2 _ _) (meets_dict_get (mixKind X.prog X.w) a (kV_is ry) hd) ⟨_,dd.mapOf,h _ _ (I.tok _) ?_⟩
  rw [l]
  exact (rel.val k).getD rfl
 ·subst ey
  cases (show u = Value.ref b from ry)
  obtain ⟨z,hd,xs,rel,dd⟩:=dt_rd I.hok e
  refine call_meetsIn PySem.F.slot_dict_get dd.typeIs PySem.F.entry_dict_get (PySem.F.args_dict_get_2 _ _) (meetsH_dict_get (tupleKind (mixKind X.prog X.w)) a b hd) ⟨tupleKind_room_in1 hu,k,xs,key_of I.hok eb,dd,h _ _ (I.tok _) ?_⟩
  rw [l]
  exact (rel.val k).getD rfl
end
def tDGet1 (td ty:TE):TE:=fun σ H Q=>td σ H fun x H1=>∃ a,x = .ref a/\IsD H1 a/\ty σ H1 fun y H2=>∃ o,DGet H2 a y o/\Q (o.getD .non) H2
section
variable {X:Cx} {o e f:Expr} {apos cpos:Pos} {td ty tx:TE}
theorem pe_dget1 (hu:X.A.units + 1 < cLine) (ho:PE X o td) (he:PE X e ty) (m:M1 X o "get" apos e cpos):PE X (.Call (.Attribute o "get" apos) [e] [] cpos) (tDGet1 td ty):=by
 refine ⟨?_⟩
 intro pins s σ H Q I h
 refine wpAny_Call_method m.base m.few m.line PySem.F.plainAttrs_dict PySem.F.slot_dict_get PySem.F.type_dict_get (thn (ho pins s σ H _ I h) fun u s1 ⟨x,H1,I1,rx,a,ex,d,q1⟩=>?_)
 subst ex
 obtain rfl:u = Value.ref a:=rx
 obtain ⟨t1,t2,_⟩:=isD_at I1 d
 refine ⟨t1,t2,?_⟩
 rw [m.trees]
 refine Calls.callWith_builtin rfl (Calls.evalArgs_plain (Calls.spliced_cons (thn (he pins s1 σ H1 _ I1 q1) fun iv s2 ⟨y,H2,I2,ry,ov,g,q2⟩=>Calls.spliced_nil ?_)))
 exact d_get1 hu I2 g ry fun w' s3 I3 rw'=>⟨_,H2,I3,rw',q2⟩
end
section
variable {X:Cx} {pins:List (Addr × Obj)} {σ : St} {H:Hp} {s:Shared} {a:Addr} {kvs:List (Key × V)} {A:Around} {E:Value->Shared->Prop}
end
section
variable {X:Cx} {pins:List (Addr × Obj)} {σ : St} {H:Hp} {s:Shared} {a:Addr} {y:V} {u:Value} {A:Around} {E:Value->Shared->Prop}
end
end L2
namespace Att
open PySem PySem.W PySem.Calls PyProof.Rows
theorem ints_of_wellAll {P:Params} {h:Heap}:∀ (ns:List Int) (vs:List Value),WellAll P h vs (ns.map WData.int)->IntsAre vs ns:=by
 intro ns
 induction ns with
 | nil=>
  intro vs w
  rw [List.map_nil] at w
  cases w
  exact .nil
 | cons n ns ih=>
  intro vs w
  rw [List.map_cons] at w
  cases w with
  | cons a b=>
   cases a
   exact .cons _ _ (ih _ b)
theorem script_of {l:OpenLaw} {n:Nat} (hn:l.most = some n) {P:Params} {h:Heap} {args:List WData} {vals:List Value}
  (hpre:l.row.toRowW.claim.pre args = true) (hwl:WellAll P h vals args) :
  ∃ a vs ns,vals = [Value.ref a]/\args = [WData.list (ns.map WData.int)]/\h.get? a = some { cls:=.type "list",data:=.seq vs.toArray }/\IntsAre vs ns/\ns.length<=n:=by
 have hsh:WShape.hasAll [] args [.list .int] = true:=(pre_splitW hpre).1
 have hc:l.pre.holds [] { args:=args } = true:=(pre_splitW hpre).2
 obtain ⟨d,r,rfl,h1,h2⟩:=hasAllW_cons hsh
 obtain rfl:=hasAllW_nil h2
 obtain ⟨xs,rfl,h3⟩:=hasW_list h1
 obtain ⟨ns,rfl⟩:=items_int h3
 have hlen:ns.length<=n:=by
  unfold OpenLaw.pre at hc
  have h4:(WTm.not (.lt (.lit (.int (n:Int))) (.len (.arg 0)))).holds [] { args:=[.list (ns.map .int)] } = true:=by
   have h4:=(holds_andW hc).1
   rw [hn] at h4
   exact h4
  have h5:=condW_of h4 (w_not (w_lt w_lit (w_len_list (w_arg rfl))))
  rw [List.length_map] at h5
  refine Nat.le_of_not_lt fun q=>?_
  have q':(n:Int) < ((ns.length:Nat):Int):=by omega
  first
   | (rw [decide_eq_true q'] at h5; exact absurd h5 (by decide))
   | (simp at h5; omega)
 cases hwl with
 | cons w1 w2=>
  cases w2
  cases w1 with
  | list ho hall=>exact ⟨_,_,ns,rfl,rfl,ho,ints_of_wellAll ns _ hall,hlen⟩
theorem post_true (l:OpenLaw) (args:List WData):l.row.toRowW.claim.post args (.bool true) args = true:=
 postW_of (r:=l.row.toRowW) (X:=(true == true))
  (show WShape.has [] (.bool true) .bool = true by first | rfl | decide | simp [WShape.has,WShape.arms,WShape.armsAll])
  (show (WTm.eq .res (.lit (.bool true))).value [] { args:=args,res:=some (.bool true),after:=args } = some (.bool (true == true)) from w_eq_bool (w_res rfl) w_lit) rfl
section
variable {prog:Program} {w:World} {A:Around} {E:Value->Shared->Prop} {s:Shared} {K:Frag}
def ledger (h:Heap) (L d:Addr):List (Addr × Obj):=(List.range h.objs.size).filterMap fun a=>if a = L\/a = d then none else (h.get? a).map fun o=>(a,o)
end
end Att
namespace L2
open PySem PySem.Spec PyProof.Rows
theorem vals_ints:∀ {vs:List Value} {ns:List Int},IntsAre vs ns->Vals (ns.map V.int) vs
 | _,_,.nil=>.nil
 | _,_,.cons n t h=>.cons ⟨t,rfl⟩ (vals_ints h)
def Only (H:Hp):Prop:=∀ b,H b = none\/∃ o xs,H b = some (.frz o (.lst xs))
theorem law_call {P:Program} {w:World} {K:PySem.W.Frag} {mg mb:Str->Option Value} {CX:CXT} {k:Nat} {fa a:Addr} {fd:FuncData} {x:Str} {sp:Sp} {s₁:Shared} {vs:List Value} {ns:List Int}
  (KX:K.In s₁.heap) (hns:s₁.heap.Ns mainGlobals mg) (hb:s₁.heap.Ns builtinsNs mb) (hbb:∀ x:Str,x ≠ "__name__"->mb x = bootBuiltins x) (hlim:s₁.heap.NoLimit) (hg:s₁.gens = #[])
  (ha:s₁.heap.get? a = some { cls:=.type "list",data:=.seq vs.toArray }) (hi:IntsAre vs ns) (hl:ns.length<=sizeLine) (hr:Room k callerA)
  (F:∀ base:Heap,K.In base->base.Ns mainGlobals mg->FnOk P w K mg base CX k fa fd [x] sp) (hbind:∀ (s:Shared) (u:Value),BindsTo s fd ⟨[u],[]⟩ [(x,u)])
  (hsp:∀ H:Hp,Only H->SqL K H a (ns.map V.int)->sp [.ref a] H (fun v _=>v = .bl true) fun _ _ _=>False)
  (hCX:∀ H e s',CX [] H s₁ (fun _ _ _=>False) e s'->False) :
  codeAny (model P w) callerA (.call (.ref fa) ⟨[.ref a],[]⟩) (fun r s'=>r = .ok (.ret (.bool true))/\OldK s₁.heap s'.heap/\s'.os = s₁.os/\AllBare s'.gens) s₁:=by
 have rv:=vals_ints hi
 have lenV:=hi.length
 have core:∀ H:Hp,Only H->SqL K H a (ns.map V.int)->HOk P w H s₁.heap->(∀ b,H b ≠ none->b = a)->(H a ≠ none->K.lookup a = none)->
   codeAny (model P w) callerA (.call (.ref fa) ⟨[.ref a],[]⟩) (fun r s'=>r = .ok (.ret (.bool true))/\OldK s₁.heap s'.heap/\s'.os = s₁.os/\AllBare s'.gens) s₁:=by
  intro H hO hS hok hA hK
  have base_of:∀ {b:Addr} {o:Obj},s₁.heap.get? b = some o->H b = none->(hidT s₁.heap H).get? b = some o:=fun e n=>hidT_get e n
  have noA:∀ {b:Addr} {o:Obj} {es:Array DictEntry} {ep:Nat},s₁.heap.get? b = some o->o.data = .dict es ep->H b = none:=fun {b o es ep} e d=>by
   cases q:H b with
   | none=>rfl
   | some u=>
    have e':b = a:=hA b (by rw [q]; simp)
    subst e'
    rw [ha] at e; cases e
    have d':Data.seq vs.toArray _ = Data.dict es ep:=d
    cases d'
  have nsK:∀ {b:Addr} {m:Str->Option Value},s₁.heap.Ns b m->(hidT s₁.heap H).Ns b m:=fun {b m} ⟨o,es,ep,e,d,r⟩=>⟨o,es,ep,base_of e (noA e d),d,r⟩
  have hKb:K.In (hidT s₁.heap H):=fun b o e=>base_of (KX b o e) (by
   cases q:H b with
   | none=>rfl
   | some u=>
    have e':b = a:=hA b (by rw [q]; simp)
    subst e'
    rw [hK (by rw [q]; simp)] at e; cases e)
  have hM:Mod K mg (hidT s₁.heap H):=⟨hKb,nsK hns,⟨mb,nsK hb,hbb⟩,let ⟨mc,h1,h2⟩:=hlim; ⟨mc,nsK h1,h2⟩⟩
  have e0:Env0 P w K mg (hidT s₁.heap H) callerA [] s₁ H:=⟨rfl,hM,fun b o e=>of_hidT e,Nat.le_of_eq (hidT_size _ _),trivial,fun b hb=>absurd (show b ∈ ([]:List Addr) from hb) (by simp),hok,.of_eq hg⟩
  refine codeAny_mono ((F _ hKb (nsK hns)).run callerA [] s₁ H ⟨[.ref a],[]⟩ [.ref a] [.ref a] _ _ hr e0 (hbind s₁ (.ref a)) (.cons rfl .nil) (hsp H hO hS)) fun r s' h=>?_
  cases r with
  | error e=>exact (hCX H e s' h).elim
  | ok fl=>
   cases fl with
   | next=>exact False.elim h
   | brk=>exact False.elim h
   | cont=>exact False.elim h
   | ret u=>
    obtain ⟨v,H',os,bare,un,hok',r',q⟩:=h
    have q':v = .bl true:=q
    subst q'
    obtain rfl:u = Value.bool true:=r'
    refine ⟨rfl,OldK.of_keep fun b o e=>?_,os,bare⟩
    cases q:H b with
    | none=>exact un.keep b o e q (by intro z; exact absurd (show b ∈ ([]:List Addr) from z) (by simp)) (by simp)
    | some u=>
     rcases hO b with z | ⟨ob,xs,z⟩
     ·rw [q] at z; cases z
     ·have z2:=un.frzs b ob _ z
      obtain ⟨e1,_⟩:=hok b _ z
      obtain ⟨e2,_⟩:=hok' b _ z2
      rw [e] at e1; cases e1
      exact e2
 cases hk:K.lookup a with
 | some o=>
  have e:=KX a o hk
  rw [ha] at e
  cases e
  refine core (fun _=>none) (fun _=>.inl rfl) (.inr ⟨_,vs.toArray,_,hk,rfl,rfl,rfl,by rw [List.size_toArray,lenV]; exact hl,by simpa using rv⟩) (fun b u z=>by have z':(none:Option HO) = some u:=z; cases z') (fun b z=>absurd rfl z) fun z=>absurd rfl z
 | none=>
  refine core (fun b=>if b = a then some (.frz { cls:=.type "list",data:=.seq vs.toArray } (.lst (ns.map V.int))) else none) (fun b=>?_) (.inl (.inr ⟨{ cls:=.type "list",data:=.seq vs.toArray },if_pos rfl⟩)) (fun b u z=>?_) (fun b z=>?_) fun _=>hk
  ·by_cases hb:b = a
   ·exact .inr ⟨_,_,if_pos hb⟩
   ·exact .inl (if_neg hb)
  ·by_cases hb:b = a
   ·have z':=(if_pos hb).symm.trans z
    cases z'
    subst hb
    exact ⟨ha,by rw [List.length_map]; exact hl,vs,_,rv,ha⟩
   ·have z':=(if_neg hb).symm.trans z
    cases z'
  ·by_cases hb:b = a
   ·exact hb
   ·exact absurd (if_neg hb) z
def inClass (s:Stmt) (j:Nat):Stmt:=match s with
 | .ClassDef _ _ _ body _ _ _ _ _ _ _=>body.getD j (.Pass ⟨0,0,0,0⟩)
 | _=>.Pass ⟨0,0,0,0⟩
def defArgs (s:Stmt):Arguments:=match s with
 | .FunctionDef _ a _ _ _ _ _ _ _ _=>a
 | _=>{ posonlyargs:=[],args:=[],vararg:=none,kwonlyargs:=[],kw_defaults:=[],kwarg:=none,defaults:=[] }
def defBody (s:Stmt):List Stmt:=match s with
 | .FunctionDef _ _ b _ _ _ _ _ _ _=>b
 | _=>[]
def defScope (s:Stmt):Scope:=match s with
 | .FunctionDef _ _ _ _ _ _ sc _ _ _=>sc
 | _=>{ kind:=.function,names:=[],isGenerator:=false,isCoroutine:=false }
abbrev CX0:CXT:=fun _ _ _ _ _ _=>False
abbrev E0:XK:=fun _ _ _=>False
theorem pass0 {X:Cx}:Passes CX0 X E0:=fun _ _ _ _ _ _ _ h=>h.elim
structure Fun (K:PySem.W.Frag) (x qual:Str) (st:Stmt) (f:Addr) (fd:FuncData):Prop where
 ex:∃ (oc:Value) (od:Option Addr) (kV doc pm:Value) (an:Option Addr) (cdv ct:Value) (osl:Array (Option Value)),
  fd = PySem.W.fnOf x qual (defArgs st) (defBody st) (defScope st) .none kV doc pm an cdv ct/\K.lookup f = some ⟨oc,od,.func fd,osl⟩/\PySem.W.codeIn K cdv qual = true
 kp:PySem.W.keepIn K (.ref f) = true
section
variable {P:Program} {w:World} {K:PySem.W.Frag} {mg:Str->Option Value} {base:Heap}
theorem Fun.ok {x qual:Str} {st:Stmt} {f:Addr} {fd:FuncData} {N ps:List Str} {k:Nat} {sp:Sp} (F:Fun K x qual st f fd) (S:FnScope N ps (defScope st)) (len:∀ vs H Q E,sp vs H Q E->vs.length = ps.length)
  (hbody:∀ (cdv:Value) (A:Around) (outer:List Env) (s:Shared) (H:Hp) (vs:List V) (Q:VK) (E:XK),Room k (A.deeper (envOfC qual (defScope st) s.heap.objs.size f cdv))->sp vs H Q E->
   ∃ t,PSs (cxOf CX0 P w K mg base N qual (defScope st) f cdv A outer s H E).nox (defBody st) t/\t { nx:=fun _ H'=>Q .non H',rt:=Q } (start N vs) H):FnOk P w K mg base CX0 (k + 1) f fd ps sp:=by
 obtain ⟨oc,od,kV,doc,pm,an,cdv,ct,osl,rfl,lk,hcd⟩:=F.ex
 refine fn_of lk hcd S len fun A outer s H vs Q E hr hsp=>?_
 obtain ⟨t,h,q⟩:=hbody cdv A outer s H vs Q E hr hsp
 exact ⟨t,h.nox,q⟩
theorem Fun.binds {x qual:Str} {st:Stmt} {f:Addr} {fd:FuncData} {ps:List Str} (F:Fun K x qual st f fd)
  (h:∀ (kV doc pm:Value) (an:Option Addr) (cdv ct:Value) (us:List Value),us.length = ps.length->bindArgs (PySem.W.fnOf x qual (defArgs st) (defBody st) (defScope st) .none kV doc pm an cdv ct) ⟨us,[]⟩ = pure (ps.zip us)):Binds K fd ps []:=by
 obtain ⟨oc,od,kV,doc,pm,an,cdv,ct,osl,rfl,lk,hcd⟩:=F.ex
 exact .all (h kV doc pm an cdv ct)
theorem fun_mk {x qual:Str} {st:Stmt} {f:Addr} {oc:Value} {od an:Option Addr} {osl:Array (Option Value)} {kV doc pm cdv ct:Value} (l:K.lookup f = some ⟨oc,od,.func (PySem.W.fnOf x qual (defArgs st) (defBody st) (defScope st) .none kV doc pm an cdv ct),osl⟩)
  (c:PySem.W.codeIn K cdv qual = true) (k:PySem.W.keepIn K (.ref f) = true):Fun K x qual st f (PySem.W.fnOf x qual (defArgs st) (defBody st) (defScope st) .none kV doc pm an cdv ct):=⟨⟨oc,od,kV,doc,pm,an,cdv,ct,osl,rfl,l,c⟩,k⟩
end
theorem hu_of {A:Around} {k:Nat} (hr:Room k A):A.units + 1 < cLine:=Nat.lt_of_le_of_lt (Nat.add_le_add_left (by decide : 1<=64) _) hr.units
theorem small1000 {n:Nat} (h:n<=1000):n < sizeLine:=Nat.lt_of_le_of_lt h (by decide)
section
variable {X:Cx}
theorem pv (i:Nat) {x:Str} {pos:Pos} (hN:X.N[i]? = some x:=by rfl) (hv:Vis X.env.scope x:=by first | exact Or.inl rfl | exact Or.inr (Or.inl rfl) | exact Or.inr (Or.inr rfl)) (hd:(x == ("__debug__" : Str)) = false:=by decide)
  (hcd:(x == ("__classdict__" : Str)) = false:=by decide):PE X (.Name x pos) (tVar i):=pe_var hN hv hd hcd
end
theorem iteF {A B:Prop} (h:B):if false = true then A else B:=by
 rw [if_neg Bool.false_ne_true]
 exact h
theorem iteT {A B:Prop} (h:A):if true = true then A else B:=by
 rw [if_pos rfl]
 exact h
theorem ite2 {c A B:Prop} [Decidable c] (h1:c->A) (h2:¬ c->B):if c then A else B:=by
 by_cases h:c
 ·rw [if_pos h]
  exact h1 h
 ·rw [if_neg h]
  exact h2 h
theorem iteNS {c A B:Prop} [Decidable c] (hc:c) (h:B):if (!decide c) = true then A else B:=by
 rw [decide_eq_true hc]
 exact iteF h
def Same (H H':Hp):Prop:=∀ b o,H b = some o->H' b = some o
theorem Same.refl (H:Hp):Same H H:=fun _ _ h=>h
theorem Same.trans {H H1 H2:Hp} (a:Same H H1) (b:Same H1 H2):Same H H2:=fun c o h=>b c o (a c o h)
theorem Same.free {H H':Hp} (e:Same H H') {l:Addr} (h:H' l = Option.none):H l = Option.none:=by
 cases q:H l with
 | none=>rfl
 | some o=>
  rw [e l o q] at h
  cases h
theorem Same.seq {K:PySem.W.Frag} {H H':Hp} {a:Addr} {xs:List V} (e:Same H H') (h:SqL K H a xs):SqL K H' a xs:=by
 rcases h with (h | ⟨o,h⟩) | h
 ·exact .inl (.inl (e _ _ h))
 ·exact .inl (.inr ⟨o,e _ _ h⟩)
 ·exact .inr h
section
variable {X:Cx}
end
section
variable {κ : Type} [DecidableEq κ]
end
def clB (env:Env) (fr:List Str):List (Str × Addr):=fr.map fun n=>(n,(env.cells.lookup n).getD 0)
theorem clB_look {env:Env}:∀ {fr:List Str} {x:Str} {c:Addr},(clB env fr).lookup x = some c->x ∈ fr/\c = (env.cells.lookup x).getD 0
 | [],x,c,h=>by simp [clB] at h
 | n :: r,x,c,h=>by
  have h':List.lookup x ((n,(env.cells.lookup n).getD 0) :: clB env r) = some c:=h
  rw [List.lookup_cons] at h'
  cases e:x == n with
  | true=>
   rw [e] at h'
   have e':x = n:=by simpa using e
   subst e'
   exact ⟨List.mem_cons_self,(Option.some.inj h').symm⟩
  | false=>
   rw [e] at h'
   obtain ⟨h1,h2⟩:=clB_look h'
   exact ⟨List.mem_cons_of_mem _ h1,h2⟩
theorem clB_in {env:Env}:∀ {fr:List Str} {x:Str},x ∈ fr->(clB env fr).lookup x = some ((env.cells.lookup x).getD 0)
 | n :: r,x,h=>by
  show List.lookup x ((n,(env.cells.lookup n).getD 0) :: clB env r) = _
  rw [List.lookup_cons]
  cases e:x == n with
  | true=>
   have e':x = n:=by simpa using e
   subst e'
   rfl
  | false=>
   rcases List.mem_cons.mp h with z | z
   ·subst z; simp at e
   ·exact clB_in z
theorem relabel_mem {env:Env}:∀ {names:List (Str × NameKind)} {x:Str} {k:NameKind},
  (names.map fun (n,k)=>if (k == NameKind.free && env.scope.kind == .function && env.kindOf n == some .cell) then (n,NameKind.cell) else (n,k)).lookup x = some k->
  ∃ k0,(x,k0) ∈ names/\(k = k0\/(k0 = .free/\k = .cell))
 | [],_,_,h=>by simp at h
 | (n,k0) :: r,x,k,h=>by
  have h':List.lookup x ((if (k0 == NameKind.free && env.scope.kind == .function && env.kindOf n == some .cell) = true then (n,NameKind.cell) else (n,k0)) ::
   (r.map fun (n,k)=>if (k == NameKind.free && env.scope.kind == .function && env.kindOf n == some .cell) then (n,NameKind.cell) else (n,k))) = some k:=h
  by_cases hc:(k0 == NameKind.free && env.scope.kind == .function && env.kindOf n == some .cell) = true
  ·rw [if_pos hc,List.lookup_cons] at h'
   cases e:x == n with
   | true=>
    rw [e] at h'
    have e':x = n:=by simpa using e
    subst e'
    simp only [Bool.and_eq_true] at hc
    exact ⟨k0,List.mem_cons_self,.inr ⟨by simpa using hc.1.1,(Option.some.inj h').symm⟩⟩
   | false=>
    rw [e] at h'
    obtain ⟨k1,h1,h2⟩:=relabel_mem h'
    exact ⟨k1,List.mem_cons_of_mem _ h1,h2⟩
  ·rw [if_neg hc,List.lookup_cons] at h'
   cases e:x == n with
   | true=>
    rw [e] at h'
    have e':x = n:=by simpa using e
    subst e'
    exact ⟨k0,List.mem_cons_self,.inl (Option.some.inj h').symm⟩
   | false=>
    rw [e] at h'
    obtain ⟨k1,h1,h2⟩:=relabel_mem h'
    exact ⟨k1,List.mem_cons_of_mem _ h1,h2⟩
theorem relabel_free {env:Env} (hk:env.scope.kind = .function):∀ {names:List (Str × NameKind)} {x:Str},names.lookup x = some .free->env.kindOf x = some .cell->
  (names.map fun (n,k)=>if (k == NameKind.free && env.scope.kind == .function && env.kindOf n == some .cell) then (n,NameKind.cell) else (n,k)).lookup x = some .cell
 | [],_,h,_=>by simp at h
 | (n,k0) :: r,x,h,hx=>by
  show List.lookup x ((if (k0 == NameKind.free && env.scope.kind == .function && env.kindOf n == some .cell) = true then (n,NameKind.cell) else (n,k0)) ::
   (r.map fun (n,k)=>if (k == NameKind.free && env.scope.kind == .function && env.kindOf n == some .cell) then (n,NameKind.cell) else (n,k))) = some .cell
  rw [List.lookup_cons] at h
  cases e:x == n with
  | true=>
   rw [e] at h
   have e':x = n:=by simpa using e
   subst e'
   have h0:k0 = .free:=Option.some.inj h
   subst h0
   rw [if_pos (by rw [hk,hx]; decide),List.lookup_cons]
   simp
  | false=>
   rw [e] at h
   have ih:=relabel_free hk h hx
   split
   ·rw [List.lookup_cons,e]; exact ih
   ·rw [List.lookup_cons,e]; exact ih
abbrev compCx (X:Cx) (pins:List (Addr × Obj)) (sc:Scope) (fr Nc:List Str) (fp:List Addr) (s:Shared) (H:Hp) (C:Addr):Cx:=
 { prog:=X.prog,w:=X.w,K:=X.K,mg:=X.mg,base:=X.base,A:=X.A,N:=Nc,s₀:=s,H₀:=H,env:=compEnvC sc (clB X.env fr) C X.env,outer:=X.stack,stack:=X.stack,ex:=fp,fn:=fun _=>false,calm:=X.calm,pn:=X.pn ++ pins,xe:=fun _ _=>False }
structure BlockOk (env:Env) (sc:Scope) (fr:List Str):Prop where
 kind:sc.kind = .function
 clos:closureFor sc env = pure (clB env fr)
 cells:(fr.all fun n=>(env.cells.lookup n).isSome) = true
 names:(sc.names.all fun y=>(y.2 != .cell) && (y.2 != .free || fr.contains y.1) && (y.2 != .local || sc.names.lookup y.1 == some .local)) = true
def capChk (N Nc:List Str) (caps:List (Option Nat)) (env:Env) (sc:Scope) (fr:List Str):Bool:=
 (Nc.zip caps).all fun p=>match p.2 with
  | none=>true
  | some j=>(N[j]? == some p.1) && (env.kindOf p.1 == some .cell) && (sc.names.lookup p.1 == some .free) && fr.contains p.1
def capS (caps:List (Option Nat)) (σ : St):St:=caps.map fun o=>match o with
 | none=>none
 | some j=>(σ[j]?).join
section
variable {X:Cx} {pins:List (Addr × Obj)} {σ : St} {H:Hp} {s:Shared} {sc:Scope} {fr Nc:List Str} {fp:List Addr} {C:Addr}
theorem BlockOk.sub {env:Env} (B:BlockOk env sc fr) {x:Str} {c:Addr} (h:(clB env fr).lookup x = some c):env.cells.lookup x = some c:=by
 obtain ⟨h1,h2⟩:=clB_look h
 have h3:=List.all_eq_true.mp B.cells x h1
 obtain ⟨d,hd⟩:=Option.isSome_iff_exists.mp h3
 rw [hd] at h2 |-
 rw [h2]; rfl
theorem BlockOk.free {env:Env} (B:BlockOk env sc fr) {x:Str} {k:NameKind} (h:(relabel sc env).names.lookup x = some k) (hk:k = .cell\/k = .free):x ∈ fr:=by
 obtain ⟨k0,h1,h2⟩:=relabel_mem h
 have h3:=List.all_eq_true.mp B.names _ h1
 simp only [Bool.and_eq_true,Bool.or_eq_true,bne_iff_ne,ne_eq,List.contains_iff_mem] at h3
 have h4:k0 = .free:=by
  rcases h2 with h2 | ⟨h2,_⟩
  ·subst h2
   rcases hk with z | z
   ·exact absurd z h3.1.1
   ·exact z
  ·exact h2
 rcases h3.1.2 with z | z
 ·exact absurd h4 z
 ·exact z
theorem comp_ok (I:Inv X pins σ H s) (B:BlockOk X.env sc fr) (hf:∀ b ∈ fp,FpOk X pins H b) (ho:∀ b ∈ fp,∃ o,s.heap.get? b = some o) (hC:s.heap.objs.size<=C):(compCx X pins sc fr Nc fp s H C).Ok where
 mod:=I.ok.mod
 kind:=B.kind
 glob:=I.ok.glob
 blt:=I.ok.blt
 above:=hC
 inj:=fun x y c h1 h2=>I.ok.inj x y c (B.sub h1) (B.sub h2)
 has:=fun x h=>by
  have hx:x ∈ fr:=by
   rcases h with h | h
   ·exact B.free h (.inl rfl)
   ·exact B.free h (.inr rfl)
  exact ⟨_,clB_in hx⟩
 cab:=fun x c h=>absurd h (by simp)
 hd:=I.ok.hd
 frames:=I.ok.frames
 stk:=.inl rfl
 exf:=fun b hb=>by
  obtain ⟨o,e⟩:=ho b hb
  refine ⟨fun z=>?_,fun x c h=>(hf b hb).2.2.2.2.1 x c (B.sub h)⟩
  have z':b = C:=z
  have:=Heap.lt_size e
  rw [z'] at this
  exact absurd (Nat.lt_of_lt_of_le this hC) (Nat.lt_irrefl _)
 bs:=I.bs
 bsz:=Nat.le_trans I.ok.bsz I.sz
 noex:=fun b o e hb=>by
  rcases (hf b hb).2.2.2.1 with z | z
  ·exact I.ok.noex b o e z
  ·exact absurd (Nat.lt_of_lt_of_le (Heap.lt_size (I.ok.bs b o e).1) z) (Nat.lt_irrefl _)
 exfs:=fun b hb h=>by
  rcases List.mem_cons.mp (I.stkSub b h) with z | z
  ·exact (hf b hb).2.1 z
  ·exact (hf b hb).2.2.1 z
 funs:=I.stack
 frf:=I.stkFree
theorem Inv.pin_lt (I:Inv X pins σ H s) {p:Addr × Obj} (hp:p ∈ X.pn ++ pins):p.1 < s.heap.objs.size:=Heap.lt_size (I.pin p hp).1
theorem comp_start {caps:List (Option Nat)} {h':Heap} {D:Addr} {m:Str->Option Value} {t' n0:Nat} (I:Inv X pins σ H s) (B:BlockOk X.env sc fr) (hf:∀ b ∈ fp,FpOk X pins H b) (ho:∀ b ∈ fp,∃ o,s.heap.get? b = some o)
  (hC:s.heap.objs.size<=C) (hD:s.heap.objs.size<=D) (hDC:D ≠ C) (keep:∀ b o,s.heap.get? b = some o->h'.get? b = some o) (hl:h'.get? D = some { cls:=.type "list",data:=.seq ([]:List Value).toArray n0 }) (hn:h'.Ns C m)
  (hcap:capChk X.N Nc caps X.env sc fr = true) (hlen:caps.length = Nc.length) :
  Inv (compCx X pins sc fr Nc fp s H C) [] (capS caps σ) (upd H D (.lst [])) { s with heap:=h',toks:=t' }:=by
 have hk:X.env.scope.kind = .function:=I.ok.kind
 have fresh:∀ a,s.heap.objs.size<=a->H a = none:=fun a ha=>I.hok.fresh ha
 refine ⟨comp_ok I B hf ho hC,rfl,I.bare,Un.laid keep hD (fresh D hD),⟨m,hn,fun i x v e1 e2 e3=>?_⟩,fun x c h=>?_,?_,fun x c h=>?_,fun p hp=>?_,?_,?_⟩
 ·
  have e2':(caps[i]?).map (fun o=>match o with | none=>none | some j=>(σ[j]?).join) = some (some v):=by
   have:(capS caps σ)[i]? = some (some v):=e2
   unfold capS at this
   rw [List.getElem?_map] at this
   exact this
  cases hc:caps[i]? with
  | none=>rw [hc] at e2'; cases e2'
  | some o=>
   rw [hc] at e2'
   cases o with
   | none=>simp at e2'
   | some j=>
    have e4:(σ[j]?).join = some v:=by simpa using e2'
    have e5 : σ[j]? = some (some v):=by
     cases q : σ[j]? with
     | none=>rw [q] at e4; cases e4
     | some w'=>rw [q] at e4; simp at e4; rw [e4]
    have e6:(Nc.zip caps)[i]? = some (x,some j):=by
     rw [List.getElem?_zip_eq_some]
     exact ⟨e1,hc⟩
    have e7:=List.all_eq_true.mp hcap _ (List.mem_of_getElem? e6)
    simp only [Bool.and_eq_true,beq_iff_eq,List.contains_iff_mem] at e7
    obtain ⟨⟨⟨a1,a2⟩,a3⟩,a4⟩:=e7
    obtain ⟨m0,hn0,hl0⟩:=I.loc
    obtain ⟨u,r,l⟩:=hl0 j x v a1 e5 (.inr (.inl a2))
    refine ⟨u,r,.inr ⟨.inl (relabel_free hk a3 a2),_,clB_in a4,?_⟩⟩
    rcases l with ⟨z,_⟩ | ⟨_,c,ec,hcell⟩
    ·rw [a2] at z; cases z
    ·have:(X.env.cells.lookup x).getD 0 = c:=by rw [ec]; rfl
     rw [this]
     exact hcell.keeps keep
 ·obtain ⟨v,hv⟩:=I.cell x c (B.sub h)
  exact ⟨v,hv.keeps keep⟩
 ·show upd H D (.lst []) C = none
  rw [upd_ne (Ne.symm hDC)]; exact fresh C hC
 ·obtain ⟨v,hv⟩:=I.cell x c (B.sub h)
  have:c ≠ D:=fun z=>by have:=hv.lt; rw [z] at this; exact absurd (Nat.lt_of_lt_of_le this hD) (Nat.lt_irrefl _)
  rw [upd_ne this]; exact I.freeC x c (B.sub h)
 ·have hp':p ∈ X.pn ++ pins:=by simpa using hp
  obtain ⟨e,n,ne,nf,d⟩:=I.pin p hp'
  have hlt:=I.pin_lt hp'
  refine ⟨keep _ _ e,?_,?_,fun z=>?_,d⟩
  ·rw [upd_ne (fun z=>by rw [z] at hlt; exact absurd (Nat.lt_of_lt_of_le hlt hD) (Nat.lt_irrefl _))]; exact n
  ·intro z
   have z':p.1 = C:=z
   rw [z'] at hlt; exact absurd (Nat.lt_of_lt_of_le hlt hC) (Nat.lt_irrefl _)
  ·rcases List.mem_cons.mp (I.stkSub p.1 z) with q | q
   ·exact ne q
   ·exact nf q
 ·exact I.hok.laid keep hD ⟨Nat.zero_le _,[],n0,.nil,hl⟩
 ·show (capS caps σ).length = Nc.length
  unfold capS
  rw [List.length_map,hlen]
theorem comp_back {pl:List (Addr × Obj)} {σ':St} {H':Hp} {s':Shared} (I:Inv X pins σ H s) (hf:∀ b ∈ fp,FpOk X pins H b) (J:Inv (compCx X pins sc fr Nc fp s H C) pl σ' H' s'):Inv X pins σ H' s':=
 I.call' J.os J.base J.hok J.bare fun b hb=>⟨(hf b hb).2.2.2.1,(hf b hb).2.1,(hf b hb).2.2.2.2.1,(hf b hb).2.2.2.2.2⟩
theorem comp_gone {pl:List (Addr × Obj)} {σ' σ2:St} {H':Hp} {s':Shared} {h2:Heap} {t2:Nat} (I:Inv X pins σ H s) (J:Inv (compCx X pins sc fr Nc fp s H C) pl σ' H' s') (J2:Inv X pins σ2 H' s') (hs:Heap.SameBut C s'.heap h2):Inv X pins σ2 H' { s' with heap:=h2,toks:=t2 }:=by
 have hC:s.heap.objs.size<=C:=J.ok.above
 refine J2.turned (it:=C) (fun b o hb e=>(hs.2 b hb).trans e) J.free ?_ (.inr (Nat.le_trans I.sz hC)) (fun x c h z=>?_) fun p hp z=>?_
 ·intro z
  have:=I.lt
  rw [<- z] at this
  exact absurd (Nat.lt_of_lt_of_le this hC) (Nat.lt_irrefl _)
 ·obtain ⟨v,hv⟩:=I.cell x c h
  have:=hv.lt
  rw [z] at this
  exact absurd (Nat.lt_of_lt_of_le this hC) (Nat.lt_irrefl _)
 ·have:=I.pin_lt hp
  rw [z] at this
  exact absurd (Nat.lt_of_lt_of_le this hC) (Nat.lt_irrefl _)
end
def tTrue:TT:=fun _ H Q=>Q true H
structure PIf (X:Cx) (ifs:List Expr) (t:TT):Prop where
 run:∀ (pins:List (Addr × Obj)) (s:Shared) (σ : St) (H:Hp) (Q:Bool->Hp->Prop),Inv X pins σ H s->t σ H Q->
  wpAny (model X.prog X.w) X.A (forIn ifs true fun c r=>if r = true then do let ok <- isTrue c X.env (eval c X.env); pure (ForInStep.yield ok) else pure (ForInStep.yield r)) (TP X pins σ Q) X.xe s
instance {X:Cx} {ifs:List Expr} {t:TT}:CoeFun (PIf X ifs t) (fun _=>∀ (pins:List (Addr × Obj)) (s:Shared) (σ : St) (H:Hp) (Q:Bool->Hp->Prop),Inv X pins σ H s->t σ H Q->
  wpAny (model X.prog X.w) X.A (forIn ifs true fun c r=>if r = true then do let ok <- isTrue c X.env (eval c X.env); pure (ForInStep.yield ok) else pure (ForInStep.yield r)) (TP X pins σ Q) X.xe s):=⟨PIf.run⟩
theorem pif_nil {X:Cx}:PIf X [] tTrue:=⟨fun _ _ _ H _ I h=>wpAny_tests_nil ⟨H,I,h⟩⟩
theorem pif_one {X:Cx} {c:Expr} {t:TT} (hc:PT X c t):PIf X [c] t:=⟨fun pins s σ H Q I h=>wpAny_tests_one (hc pins s σ H Q I h)⟩
def GOwn (g:TG) (ow:List Nat):Prop:=
 ∀ (v:V) (σ : St) (H:Hp) (Q:St->Hp->Prop),g v σ H Q->g v σ H fun σ2 H2=>Q σ2 H2/\σ2.length = σ.length/\∀ i,i ∉ ow->σ2[i]? = σ[i]?
theorem gown_name (i:Nat):GOwn (gName i) [i]:=fun v σ H Q h=>⟨h,List.length_set ..,fun j hj=>List.getElem?_set_ne (fun e=>hj (by simp [e]))⟩
theorem gown_tup2 {K:PySem.W.Frag} {n:Nat} (i j:Nat):GOwn (gTup K n (gCons (gName i) (gCons (gName j) gNil))) [i,j]:=by
 rintro v σ H Q ⟨a,xs,e1,e2,e3,v1,r1,e4,v2,r2,e5,e6,q⟩
 refine ⟨a,xs,e1,e2,e3,v1,r1,e4,v2,r2,e5,e6,q,by rw [List.length_set,List.length_set],fun k hk=>?_⟩
 have h1:i ≠ k:=fun e=>hk (by simp [e])
 have h2:j ≠ k:=fun e=>hk (by simp [e])
 rw [List.getElem?_set_ne h2,List.getElem?_set_ne h1]
section
variable {prog:Program} {w:World} {A:Around} {R:Result->Shared->Prop} {s:Shared}
theorem compLoop_any {elt target iter:Expr} {ifs:List Expr} {scope:Scope} {pos:Pos} {it acc:Value} {env:Env} (I:Nat->Shared->Prop)
  (turn:∀ n s,I n s->wpAny (model prog w) A (pyNext it) (fun r s₁=>match r with
   | none=>R (.ok .next) s₁
   | some v=>wpAny (model prog w) A (letOwnedTupleGo target it v) (fun _ s₀=>wpAny (model prog w) A (assign target env v) (fun _ s₂=>
     wpAny (model prog w) A (forIn ifs true fun c r=>if r = true then do let ok <- isTrue c env (eval c env); pure (ForInStep.yield ok) else pure (ForInStep.yield r)) (fun ok s₃=>
      if ok = true then wpAny (model prog w) A (eval elt env) (fun x s₄=>
       wpAny (model prog w) A (call (.builtin "list.append") [acc,x]) (fun _ s₅=>∃ m,m < n/\I m s₅) (fun _ _=>False) s₄) (fun _ _=>False) s₃
      else ∃ m,m < n/\I m s₃) (fun _ _=>False) s₂) (fun _ _=>False) s₀) (fun _ _=>False) s₁) (fun _ _=>False) s)
  (n:Nat) (h:I n s) :
  codeAny (model prog w) A (.compLoop (.ListComp elt [⟨target,iter,ifs,0⟩] scope pos) 0 it acc env) R s:=by
 refine codeAny_loop rfl I (fun n s hI=>?_) n h
 show wpAny _ A ((compTurn (.ListComp elt [⟨target,iter,ifs,0⟩] scope pos) 0 it acc env).onRaise (fun x=>do noteFrame x env; theTreesLotGoes x)) _ _ s
 refine wpAny_noted ?_
 rw [compTurn_list]
 refine wpAny_bind (wpAny_standAt (wpAny_bind (wpAny_mono (turn n s hI) (fun r s₁ h₁=>?_) fun _ _ z=>z.elim)))
 cases r with
 | none=>exact wpAny_pure h₁
 | some v=>
  refine wpAny_bind (wpAny_mono h₁ (fun _ s₀ h₀=>?_) fun _ _ z=>z.elim)
  refine wpAny_bind (wpAny_mono h₀ (fun _ s₂ h₂=>wpAny_bind (wpAny_mono h₂ (fun ok s₃ h₃=>?_) fun _ _ z=>z.elim)) fun _ _ z=>z.elim)
  cases ok with
  | false=>exact wpAny_pure ⟨rfl,h₃⟩
  | true=>
   exact wpAny_bind (wpAny_bind (wpAny_mono h₃ (fun x s₄ h₄=>wpAny_bind (wpAny_mono h₄ (fun _ s₅ h₅=>wpAny_pure (wpAny_pure ⟨rfl,h₅⟩)) fun _ _ z=>z.elim)) fun _ _ z=>z.elim))
end
def LCr (J:It) (caps:List (Option Nat)) (g:TG) (tt:TT) (te:TE) (σ : St) (H1:Hp) (Q:VK) (D:Addr):Prop:=
 ∃ W:Nat->Nat->List V->Hp->Prop,(∃ m,W 0 m [] (upd H1 D (.lst [])))/\∀ i m ys H,W i m ys H->
  (J.stop i H/\Q (.ref D) H)\/
  (J.go i H/\∀ x H',J.yld i H x H'->g x (capS caps σ) H' fun σ2 H2=>tt σ2 H2 fun ok H3=>
   (ok = true->te σ2 H3 fun v H4=>H4 D = some (.lst ys)/\ys.length < sizeLine/\∃ m',m' < m/\W (i + 1) m' (ys ++ [v]) (upd H4 D (.lst (ys ++ [v]))))/\
   (ok = false->∃ m',m' < m/\W (i + 1) m' ys H3))
def tLC (wi:TI) (caps:List (Option Nat)) (g:TG) (tt:TT) (te:TE):TE:=fun σ H Q=>wi σ H fun J H1=>∀ D,H1 D = none->LCr J caps g tt te σ H1 Q D
section
variable {X:Cx} {pins:List (Addr × Obj)} {σ : St} {s:Shared} {sc:Scope} {fr Nc:List Str} {caps:List (Option Nat)} {elt tg iter:Expr} {ifs:List Expr} {g:TG} {tt:TT} {te:TE} {ow:List Nat} {pos pos2:Pos} {E:Value->Shared->Prop}
theorem comp_run {H2:Hp} {it:Addr} {fp:List Addr} {tn:Nat->Heap->Prop} {J:It} {Q:VK} {RR:Value->Addr->Result->Shared->Prop}
  (hc:X.calm = true) (B:BlockOk X.env sc fr) (go:GOwn g ow) (how:(ow.all fun i=>caps[i]? == some none) = true) (hcap:capChk X.N Nc caps X.env sc fr = true) (hlen:caps.length = Nc.length)
  (hb:∀ (pins:List (Addr × Obj)) (fp:List Addr) (s:Shared) (H:Hp) (C:Addr),PG (compCx X pins sc fr Nc fp s H C) tg g/\PIf (compCx X pins sc fr Nc fp s H C) ifs tt/\PE (compCx X pins sc fr Nc fp s H C) elt te)
  (I2:Inv X pins σ H2 s) (T:Turn X.prog X.w X.K tg J fp it tn) (st2:tn 0 s.heap) (f2:∀ b ∈ fp,FpOk X pins H2 b) (h:∀ D,H2 D = none->LCr J caps g tt te σ H2 Q D)
  (fin:∀ (D C:Addr) (σ':St) (H':Hp) (s':Shared),Inv (compCx X pins sc fr Nc fp s H2 C) [] σ' H' s'->Q (.ref D) H'->RR (.ref D) C (.ok .next) s') :
  wpAny (model X.prog X.w) X.A (newList []) (fun acc s₃=>wpAny (model X.prog X.w) X.A (newFunctionEnv sc X.env.globals (clB X.env fr) [] X.env.qual none .none (some X.env)) (fun cenv s₄=>
   codeAny (model X.prog X.w) X.A (.compStart (.ListComp elt [⟨tg,iter,ifs,0⟩] sc pos) 0 (.ref it) acc { cenv with scope:=relabel sc X.env }) (RR acc cenv.locals) s₄) E s₃) E s:=by
 have hcell:∀ y ∈ sc.names,y.2 ≠ .cell:=fun y hy=>by
  have h3:=List.all_eq_true.mp B.names _ hy
  simp only [Bool.and_eq_true,bne_iff_ne,ne_eq] at h3
  exact h3.1.1
 refine wpAny_newObj_type (wpAny_newFunctionEnv hcell (by intro y hy; simp at hy) (fun h₁ hns₁ hsb₁=>?_) B.kind)
 dsimp only at hns₁ hsb₁ |-
 generalize hH2:s.heap.push { cls:=.type "list",dict:=none,data:=.seq ([]:List Value).toArray } = H3 at hns₁ hsb₁ |-
 have hCs:H3.objs.size = s.heap.objs.size + 1:=by rw [<- hH2,Heap.size_push]
 have hDC:s.heap.objs.size ≠ H3.objs.size:=by rw [hCs]; exact Nat.ne_of_lt (Nat.lt_succ_self _)
 have hC:s.heap.objs.size<=H3.objs.size:=by rw [hCs]; exact Nat.le_succ _
 have old:∀ b o,s.heap.get? b = some o->h₁.get? b = some o:=fun b o e=>
  hsb₁.extBut b o (Nat.ne_of_lt (Nat.lt_of_lt_of_le (Heap.lt_size e) hC)) (Heap.get?_push_of_some _ (hH2 ▸ Heap.get?_push_of_some _ e))
 have hD:h₁.get? s.heap.objs.size = some { cls:=.type "list",data:=.seq ([]:List Value).toArray }:=hsb₁.extBut _ _ hDC (Heap.get?_push_of_some _ (hH2 ▸ Heap.get?_push_size _ rfl))
 have ho:∀ b ∈ fp,∃ o,s.heap.get? b = some o:=fun b hb'=>let ⟨o,e,_⟩:=T.obj 0 _ st2 b hb'; ⟨o,e⟩
 have I4:∀ t',Inv (compCx X pins sc fr Nc fp s H2 H3.objs.size) [] (capS caps σ) (upd H2 s.heap.objs.size (.lst [])) { s with heap:=h₁,toks:=t' }:=fun t'=>
  comp_start I2 B f2 ho hC (Nat.le_refl _) hDC old hD hns₁ hcap hlen
 have ok:=(I4 0).ok
 obtain ⟨hbg,hbt,hbe⟩:=hb pins fp s H2 H3.objs.size
 obtain ⟨W,⟨m0,w0⟩,turn⟩:=h s.heap.objs.size (I2.hok.fresh (Nat.le_refl _))
 have stat:∀ {H':Hp},(∀ b ∈ fp,H' b = none)->∀ b ∈ fp,FpOk (compCx X pins sc fr Nc fp s H2 H3.objs.size) [] H' b:=fun hn b hb'=>
  ⟨hn b hb',(ok.exf b hb').1,ok.exfs b hb',.inl hb',(ok.exf b hb').2,fun p hp=>(f2 b hb').2.2.2.2.2 p (by simpa using hp)⟩
 have hfp0:∀ b ∈ fp,upd H2 s.heap.objs.size (.lst []) b = none:=fun b hb'=>by
  obtain ⟨o,e⟩:=ho b hb'
  rw [upd_ne (Nat.ne_of_lt (Heap.lt_size e))]
  exact (f2 b hb').1
 have loop:∀ s₃:Shared,s₃ = { s with heap:=h₁,toks:=s.toks + ([]:List (Str × Value)).length }->
   codeAny (model X.prog X.w) X.A (.compLoop (.ListComp elt [⟨tg,iter,ifs,0⟩] sc pos) 0 (.ref it) (.ref s.heap.objs.size) (compEnvC sc (clB X.env fr) H3.objs.size X.env)) (RR (.ref s.heap.objs.size) H3.objs.size) s₃:=by
  rintro s₃ rfl
  refine compLoop_any (fun n s'=>∃ i σ' H' ys,Inv (compCx X pins sc fr Nc fp s H2 H3.objs.size) [] σ' H' s'/\tn i s'.heap/\(∀ b ∈ fp,H' b = none)/\W i n ys H'/\
   (∀ (k:Nat) (v:V),(capS caps σ)[k]? = some (some v)->σ'[k]? = some (some v))) ?_ m0
   ⟨0,_,_,[],I4 _,T.keep _ _ _ st2 (fun b _ o e=>old b o e),hfp0,w0,fun _ _ e=>e⟩
  rintro n s3 ⟨i,σ3,H4,ys,I3,st3,fr3,w3,wk3⟩
  have I3':Inv (compCx X pins sc fr Nc fp s H2 H3.objs.size) [] (capS caps σ) H4 s3:=I3.weak (by rw [I3.len]; exact (I4 0).len) wk3
  rcases turn i n ys H4 w3 with ⟨stop,qn⟩ | ⟨gg,step⟩
  ·refine thn (T.done (compCx X pins sc fr Nc fp s H2 H3.objs.size) rfl rfl rfl hc i [] s3 _ H4 (fun _ _=>False) I3' (stat fr3) st3 stop) fun r s4 ⟨hr,I4'⟩=>?_
   subst hr
   exact fin _ _ _ _ _ I4' qn
  ·refine thn (T.item (compCx X pins sc fr Nc fp s H2 H3.objs.size) rfl rfl rfl hc i [] s3 _ H4 (fun _ _=>False) I3' (stat fr3) st3 gg) fun r s4 ⟨u,hr,h4⟩=>?_
   subst hr
   refine thn h4 fun _ s5 ⟨x,H5,I5,r5,y5,st5,fr5⟩=>?_
   have I5':=I5.pinned (stat fr5) (T.obj _ _ st5)
   refine thn (hbg _ s5 _ H5 x u _ I5' r5 (go _ _ _ _ (step x H5 y5))) fun _ s6 ⟨σ6,H6,I6,q6,l6,k6⟩=>?_
   have wk6:∀ (k:Nat) (v:V),(capS caps σ)[k]? = some (some v)->σ6[k]? = some (some v):=fun k v e=>by
    rw [k6 k fun hk=>?_]
    ·exact e
    ·have h1:=List.all_eq_true.mp how k hk
     have h2:caps[k]? = some none:=by simpa using h1
     unfold capS at e
     rw [List.getElem?_map,h2] at e
     cases e
   refine thn (hbt _ s6 σ6 H6 _ I6 q6) fun ok s7 ⟨H7,I7,q7⟩=>?_
   have again:∀ {H8:Hp} {s8:Shared} {ys':List V},Inv (compCx X pins sc fr Nc fp s H2 H3.objs.size) ([] ++ pinsAt fp s5.heap) σ6 H8 s8->(∃ m',m' < n/\W (i + 1) m' ys' H8)->
     ∃ m,m < n/\∃ i σ' H' ys,Inv (compCx X pins sc fr Nc fp s H2 H3.objs.size) [] σ' H' s8/\tn i s8.heap/\(∀ b ∈ fp,H' b = none)/\W i m ys H'/\(∀ (k:Nat) (v:V),(capS caps σ)[k]? = some (some v)->σ'[k]? = some (some v)):=fun {H8 s8 ys'} I8 ⟨m',hm,w8⟩=>by
    refine ⟨m',hm,i + 1,σ6,H8,ys',I8.unpinned,T.keep _ _ _ st5 fun b hb' o e=>(I8.pin (b,o) (List.mem_append_right _ (List.mem_append_right _ (mem_pinsAt hb' e)))).1,fun b hb'=>?_,w8,wk6⟩
    obtain ⟨o,e,d⟩:=T.obj _ _ st5 b hb'
    exact (I8.pin (b,o) (List.mem_append_right _ (List.mem_append_right _ (mem_pinsAt hb' e)))).2.1
   cases ok with
   | false=>
    rw [if_neg Bool.false_ne_true]
    exact again I7 (q7.2 rfl)
   | true=>
    rw [if_pos rfl]
    refine thn (hbe _ s7 σ6 H7 _ I7 (q7.1 rfl)) fun uv s8 ⟨v,H8,I8,r8,hD8,hz,q8⟩=>?_
    refine thn (mt_append (X:=compCx X pins sc fr Nc fp s H2 H3.objs.size) _ s8 σ6 H8 (.ref s.heap.objs.size) [v] _ [uv] (fun _ H'=>H' = upd H8 s.heap.objs.size (.lst (ys ++ [v]))) I8 rfl (.cons r8 .nil) ⟨_,ys,v,rfl,rfl,hD8,hz,rfl⟩) fun _ s9 ⟨_,H9,I9,_,e9⟩=>?_
    subst e9
    exact again I9 q8
 exact codeAny_compStart_list (loop _ rfl) (T.self _ 0 _ _ _ (T.keep _ _ _ st2 (fun b _ o e=>old b o e)) (loop _ rfl))
theorem BlockOk.loc {env:Env} (B:BlockOk env sc fr):∀ x ∈ sc.names,x.2 = .local->sc.names.lookup x.1 = some .local:=fun y hy e=>by
 have h3:=List.all_eq_true.mp B.names _ hy
 simp only [Bool.and_eq_true,Bool.or_eq_true,bne_iff_ne,ne_eq,beq_iff_eq] at h3
 rcases h3.2 with z | z
 ·exact absurd e z
 ·exact z
theorem pe_lc {wi:TI} (fr Nc:List Str) (caps:List (Option Nat)) (hc:X.calm = true) (B:BlockOk X.env sc fr) (hi:PI X tg iter wi) (go:GOwn g ow) (how:(ow.all fun i=>caps[i]? == some none) = true)
  (hcap:capChk X.N Nc caps X.env sc fr = true) (hlen:caps.length = Nc.length)
  (hb:∀ (pins:List (Addr × Obj)) (fp:List Addr) (s:Shared) (H:Hp) (C:Addr),PG (compCx X pins sc fr Nc fp s H C) tg g/\PIf (compCx X pins sc fr Nc fp s H C) ifs tt/\PE (compCx X pins sc fr Nc fp s H C) elt te)
  (hs:∀ x,foldedSetIterable iter X.env x = pure x:=by intro _; rfl):PE X (.ListComp elt [⟨tg,iter,ifs,0⟩] sc pos) (tLC wi caps g tt te):=by
 refine ⟨?_⟩
 intro pins s σ H Q I h
 rw [eval_ListComp]
 refine wpAny_comprehension_free (use:=none) rfl hs B.clos B.kind B.loc (thn (hi pins s σ H _ I h) fun v s1 h1=>thn h1 fun itv s2 h2=>?_)
 obtain ⟨it,fp,tn,J,H2,e,I2,T,st2,f2,q⟩:=h2
 subst e
 refine comp_run (RR:=fun acc C=>compPost (model X.prog X.w) X.A X.xe none (EP X pins σ Q) acc C) hc B go how hcap hlen hb I2 T st2 f2 q ?_
 intro D C σ' H' s' J' qq
 obtain ⟨m,hn,_⟩:=J'.loc
 exact ⟨m,hn,fun h' hs'=>⟨.ref D,H',comp_gone I2 J' (comp_back I2 f2 J') hs',rfl,qq⟩⟩
theorem ps_lc {wi:TI} {i:Nat} {x:Str} {pos':Pos} (fr Nc:List Str) (caps:List (Option Nat)) (hN:X.N.Nodup) (hix:X.N[i]? = some x) (hx:Loc X.env.scope x) (hc:X.calm = true) (B:BlockOk X.env sc fr) (hi:PI X tg iter wi) (go:GOwn g ow) (how:(ow.all fun i=>caps[i]? == some none) = true)
  (hcap:capChk X.N Nc caps X.env sc fr = true) (hlen:caps.length = Nc.length)
  (hb:∀ (pins:List (Addr × Obj)) (fp:List Addr) (s:Shared) (H:Hp) (C:Addr),PG (compCx X pins sc fr Nc fp s H C) tg g/\PIf (compCx X pins sc fr Nc fp s H C) ifs tt/\PE (compCx X pins sc fr Nc fp s H C) elt te)
  (hsw:swapsWith (.ListComp elt [⟨tg,iter,ifs,0⟩] sc pos) (some (.Name x pos')) pos2.line X.env = pure true:=by rfl)
  (hs:∀ x,foldedSetIterable iter X.env x = pure x:=by intro _; rfl) (hf:X.fn x = true\/X.env.scope.names.lookup x = some .local:=by first | exact .inl rfl | exact .inr rfl | assumption) :
  PS X (.Assign [.Name x pos'] (.ListComp elt [⟨tg,iter,ifs,0⟩] sc pos) pos2) (tAsg (tLC wi caps g tt te) (gName i)):=by
 refine ⟨?_⟩
 intro pins s σ H D0 I h
 rw [exec_Assign_Name_used _ _ _ _ hsw]
 refine wpAny_bind (wpAny_standAt (wpAny_bind ?_))
 show wpAny _ X.A (do let _ <- comprehension (.ListComp elt [⟨tg,iter,ifs,0⟩] sc pos) sc X.env _ (newList []) false (eval iter X.env) (some (assign (.Name x pos') X.env))) _ _ s
 refine wpAny_bind (wpAny_mono (wpAny_comprehension_free (use:=some (assign (.Name x pos') X.env)) (Q:=fun _ s'=>SP X pins D0 .next s') rfl hs B.clos B.kind B.loc
  (thn (hi pins s σ H _ I h) fun v s1 h1=>thn h1 fun itv s2 h2=>?_)) (fun _ s' hq=>wpAny_pure (wpAny_pure hq)) fun _ _ e=>e)
 obtain ⟨it,fp,tn,J,H2,e,I2,T,st2,f2,q⟩:=h2
 subst e
 refine comp_run (Q:=fun v H1=>gName i v σ H1 D0.nx) (RR:=fun acc C=>compPost (model X.prog X.w) X.A X.xe (some (assign (.Name x pos') X.env)) (fun _ s'=>SP X pins D0 .next s') acc C) hc B go how hcap hlen hb I2 T st2 f2 q ?_
 intro D C σ' H' s' J' qq
 have I':=comp_back I2 f2 J'
 obtain ⟨m,hn,_⟩:=J'.loc
 have hC:s2.heap.objs.size<=C:=J'.ok.above
 show wpAny _ X.A (assign (.Name x pos') X.env (.ref D)) _ _ s'
 refine wpAny_assign_Name (store_ok2 (v:=.ref D) I' hN hix hx rfl (fun s'' I'' ⟨a,sb,ha⟩=>?_) hf)
 have haC:C ≠ a:=by
  rintro rfl
  rcases ha with z | z
  ·have:=I2.lt
   rw [<- z] at this
   exact absurd (Nat.lt_of_lt_of_le this hC) (Nat.lt_irrefl _)
  ·obtain ⟨v,hv⟩:=I2.cell x C z
   exact absurd (Nat.lt_of_lt_of_le hv.lt hC) (Nat.lt_irrefl _)
 have hCH:H' C = none:=J'.free
 refine ⟨m,hn.sameBut sb haC,fun h' hs'=>⟨_,H',?_,qq⟩⟩
 refine I''.turned (it:=C) (t':=s''.toks) (fun b o hb e=>(hs'.2 b hb).trans e) hCH ?_ (.inr (Nat.le_trans I2.sz hC)) (fun x c h z=>?_) fun p hp z=>?_
 ·intro z
  have:=I2.lt
  rw [<- z] at this
  exact absurd (Nat.lt_of_lt_of_le this hC) (Nat.lt_irrefl _)
 ·obtain ⟨v,hv⟩:=I2.cell x c h
  have:=hv.lt
  rw [z] at this
  exact absurd (Nat.lt_of_lt_of_le this hC) (Nat.lt_irrefl _)
 ·have:=I2.pin_lt hp
  rw [z] at this
  exact absurd (Nat.lt_of_lt_of_le this hC) (Nat.lt_irrefl _)
end
def Its (z:Str):It:=⟨fun i _=>i < z.cps.size,fun i H x H'=>H' = H/\∃ c,z.cps[i]? = some c/\x = .str ⟨#[c]⟩,fun i _=>z.cps.size<=i⟩
theorem turn_str {P:Program} {w:World} {K:PySem.W.Frag} {tg:Expr} (it:Addr) (z:Str) (t:Tok):Turn P w K tg (Its z) [it] it (fun i h=>h.IsStrIter it (strIterType z) z t i) where
 mem:=by simp
 obj:=fun i h st b hb=>by
  have e:b = it:=by simpa using hb
  subst e
  obtain ⟨o,e,_,d⟩:=st
  exact ⟨o,e,fun v q=>by rw [d] at q; cases q⟩
 keep:=fun i h h' st k=>by
  obtain ⟨o,e,r⟩:=st
  exact ⟨o,k it (by simp) o e,r⟩
 item:=by
  intro X hP hw hK hc i pins s σ H E I hf st hg
  subst hP hw hK
  obtain ⟨f0,f1,f2,f3,f4,f5⟩:=hf it (by simp)
  have hi:i < z.cps.size:=hg
  have hx:z.cps[i]? = some z.cps[i]:=by simp [hi]
  have fin:∀ h',h'.IsStrIter it (strIterType z) z t (i + 1)->Heap.SameBut it s.heap h'->
    ∃ u,some (Value.str ⟨#[z.cps[i]]⟩ s.toks) = some u/\wpAny (model X.prog X.w) X.A (letOwnedTupleGo tg (.ref it) u) (fun _ s2=>∃ x H',Inv X pins σ H' s2/\RelV x u/\(Its z).yld i H x H'/\s2.heap.IsStrIter it (strIterType z) z t (i + 1)/\∀ b ∈ [it],H' b = none) E { s with heap:=h',toks:=s.toks + 1 }:=fun h' hit hs=>by
   have I1:Inv X pins σ H { s with heap:=h',toks:=s.toks + 1 }:=I.turned (fun b o hb e=>(hs.2 b hb).trans e) f0 f1 f3 f4 f5
   obtain ⟨o,e1,e2,e3⟩:=id hit
   refine ⟨_,rfl,go_of (s:={ s with heap:=h',toks:=s.toks + 1 }) e1 e2 e3 ?_ ⟨.str ⟨#[z.cps[i]]⟩,H,I1,⟨_,rfl⟩,⟨rfl,_,hx,rfl⟩,hit,fun b hb=>(hf b hb).1⟩⟩
   unfold strIterType
   split <;> decide
  cases ha:z.cps.all (· < 128)
  ·have e:strIterType z = "str_iterator":=by simp [strIterType,ha]
   rw [e] at st
   exact wpAny_pyNext_wide_item st hx fun h' a b=>fin h' (e.symm ▸ a) b
  ·have e:strIterType z = "str_ascii_iterator":=by simp [strIterType,ha]
   rw [e] at st
   exact wpAny_pyNext_ascii_item st hx fun h' a b=>fin h' (e.symm ▸ a) b
 done:=by
  intro X hP hw hK hc i pins s σ H E I hf st hg
  subst hP hw hK
  obtain ⟨f0,f1,f2,f3,f4,f5⟩:=hf it (by simp)
  have hi:z.cps.size<=i:=hg
  have hx:z.cps[i]? = none:=by simp [hi]
  have fin:∀ h',Heap.ExtBut it s.heap h'->(none:Option Value) = none/\Inv X pins σ H { s with heap:=h' }:=fun h' eb=>⟨rfl,I.turned (t':=s.toks) (fun b o hb e=>eb b o hb e) f0 f1 f3 f4 f5⟩
  cases ha:z.cps.all (· < 128)
  ·have e:strIterType z = "str_iterator":=by simp [strIterType,ha]
   rw [e] at st
   exact wpAny_pyNext_wide_end (I.ok.hd hc) st hx fin
  ·have e:strIterType z = "str_ascii_iterator":=by simp [strIterType,ha]
   rw [e] at st
   exact wpAny_pyNext_ascii_end (I.ok.hd hc) st hx fin
 self:=fun A i s Q E st h=>by
  cases ha:z.cps.all (· < 128)
  ·have e:strIterType z = "str_iterator":=by simp [strIterType,ha]
   rw [e] at st
   exact wpAny_pyIter_striter_wide st h
  ·have e:strIterType z = "str_ascii_iterator":=by simp [strIterType,ha]
   rw [e] at st
   exact wpAny_pyIter_striter_ascii st h
section
variable {X:Cx} {tg:Expr}
def iStr (tl:TE):TI:=fun σ H R=>tl σ H fun x H1=>∃ z,x = .str z/\R (Its z) H1
theorem pi_str {l:Expr} {tl:TE} (hl:PE X l tl):PI X tg l (iStr tl):=by
 refine ⟨?_⟩
 intro pins s σ H R I h
 refine thn (hl pins s σ H _ I h) fun v s1 ⟨x,H1,I1,r1,q1⟩=>?_
 obtain ⟨z,e,q⟩:=q1
 subst e
 obtain ⟨t,rfl⟩:=r1
 refine wpAny_pyIter_strU ?_
 refine ⟨s1.heap.objs.size,[s1.heap.objs.size],_,_,H1,rfl,I1.kept (t':=s1.toks) fun b o e=>Heap.get?_push_of_some _ e,turn_str _ z t,⟨_,Heap.get?_push_size _ rfl,rfl,rfl⟩,fun b hb=>?_,q⟩
 have e:b = s1.heap.objs.size:=by simpa using hb
 subst e
 exact I1.fpOk (Nat.le_refl _) (I1.hok.fresh (Nat.le_refl _))
def rSlS:V->Option Int->Option Int->Hp->VK->Prop:=fun x lo hi H Q=>∃ z,x = .str z/\z.length<=sizeLine/\Q (.str (Txt.slice z lo hi)) H
theorem sl_str:SlR X rSlS:=by
 intro pins s σ H x v vl vu lo hi sl Q I rx hs pl pu h
 obtain ⟨z,rfl,hz,q⟩:=h
 obtain ⟨t,rfl⟩:=rx
 refine ⟨"str",_,F.slot_str_getitem.lookup,typeIs_str _ _ _,?_⟩
 have fin:∀ t' k,EP X pins σ Q (.str (Txt.slice z lo hi) t') { s with toks:=k }:=fun t' k=>⟨.str (Txt.slice z lo hi),H,I.tok k,⟨t',rfl⟩,q⟩
 cases pl with
 | none=>
  cases pu with
  | none=>exact wpAny_getItem_str_slice (l:=none) (u:=none) (st:=none) hs rfl (post_val_or_str ⟨Nat.le_trans (Txt.slice_le z _ _) hz,fin⟩)
  | int j tj=>exact wpAny_getItem_str_slice (l:=none) (u:=some (j,tj)) (st:=none) hs rfl (post_val_or_str ⟨Nat.le_trans (Txt.slice_le z _ _) hz,fin⟩)
 | int i ti=>
  cases pu with
  | none=>exact wpAny_getItem_str_slice (l:=some (i,ti)) (u:=none) (st:=none) hs rfl (post_val_or_str ⟨Nat.le_trans (Txt.slice_le z _ _) hz,fin⟩)
  | int j tj=>exact wpAny_getItem_str_slice (l:=some (i,ti)) (u:=some (j,tj)) (st:=none) hs rfl (post_val_or_str ⟨Nat.le_trans (Txt.slice_le z _ _) hz,fin⟩)
theorem call_allB (hc:X.calm = true):CallR X (.builtin "all") (fun xs H Q=>∃ (p:Addr) (bs:List Bool),xs = [.ref p]/\SqL X.K H p (bs.map V.bl)/\Q (.bl (bs.all id)) H):=by
 intro pins s σ H xs us Q I r h
 obtain ⟨p,bs,rfl,hS,q⟩:=h
 obtain ⟨u,rfl,ru⟩:=vals1 r
 cases ru
 obtain ⟨its,rv,hp,hz⟩:=I.list hS
 have hlen:its.length = bs.length:=by rw [<- rv.length,List.length_map]
 have hne:p ≠ s.heap.objs.size:=Nat.ne_of_lt (by obtain ⟨_,e,_⟩:=hp.isList; exact Heap.lt_size e)
 refine call_all_walk (wpAny_pyIter_list hp.isList ?_)
 refine ⟨s.heap.objs.size,_,_,_,_,_,fun i=>bs.getD i false,rfl,Walks.list (A:=X.A.in1) (I.ok.hd hc) s.heap.objs.size p hne its.toArray,⟨⟨_,Heap.get?_push_size _ rfl,rfl,rfl⟩,hp.isList.push _⟩,?_,fun h' tk k=>?_⟩
 ·intro i v s' Q' E' hP hQ
  have hv:its[i]? = some v:=by simpa using hP
  have hi:i < bs.length:=by rw [<- hlen]; exact (List.getElem?_eq_some_iff.mp hv).1
  obtain ⟨u',e1,e2⟩:=rv.get (i:=i) (x:=V.bl bs[i]) (by rw [List.getElem?_map,List.getElem?_eq_getElem hi]; rfl)
  rw [hv] at e1
  cases e1
  cases e2
  refine wpAny_truthy_bool ?_
  have:bs.getD i false = bs[i]:=by rw [List.getD_eq_getElem?_getD,List.getElem?_eq_getElem hi]; rfl
  rw [<- this]
  exact hQ
 ·have e:((List.range its.toArray.size).all fun i=>bs.getD i false) = bs.all id:=by
   rw [List.size_toArray,hlen,Bool.eq_iff_iff,List.all_eq_true,List.all_eq_true]
   constructor
   ·intro hh b hb
    obtain ⟨i,hi,rfl⟩:=List.getElem_of_mem hb
    have:=hh i (List.mem_range.mpr hi)
    rw [List.getD_eq_getElem?_getD,List.getElem?_eq_getElem hi] at this
    exact this
   ·intro hh i hi
    have hi':=List.mem_range.mp hi
    rw [List.getD_eq_getElem?_getD,List.getElem?_eq_getElem hi']
    exact hh _ (List.getElem_mem hi')
  rw [e]
  exact ⟨.bl (bs.all id),H,I.kept (h':=h') (t':=tk) (fun b o q=>k b o (fun hm=>by
   have e:b = s.heap.objs.size:=by simpa using hm
   exact absurd (Heap.lt_size q) (by rw [e]; exact Nat.lt_irrefl _)) (Heap.get?_push_of_some _ q)),rfl,q⟩
theorem call_isinst:CallR X (.builtin "isinstance") (fun xs H Q=>∃ x T t b,xs = [x,.ty T]/\TyOf X.K H x t/\PySem.W.kitOne X.K t (.type T) = some b/\Q (.bl b) H):=by
 intro pins s σ H xs us Q I r h
 obtain ⟨x,T,t,b,rfl,ty,e,q⟩:=h
 obtain ⟨u,w',rfl,ru,rw'⟩:=vals2 r
 cases rw'
 exact isinst_ok I ru ty e fun tk=>⟨.bl b,H,I.tok tk,rfl,q⟩
end
def isSt:Expr->Bool
 | .Starred ..=>true
 | _=>false
theorem star_cons {e:Expr} {es:List Expr} {env:Env} (h:isSt e = false):starEach (e :: es) env = (false,eval e env) :: starEach es env:=by
 cases e <;> first | rfl | cases h
theorem star_any {env:Env} {pos:Pos}:∀ {es:List Expr},es.any isSt = false->(backTo pos (starEach es env)).any (·.1) = false
 | [],_=>rfl
 | e :: es,h=>by
  rw [List.any_cons,Bool.or_eq_false_iff] at h
  rw [star_cons h.1]
  show (false || (backTo pos (starEach es env)).any (·.1)) = false
  rw [star_any h.2]
  rfl
section
variable {X:Cx} {CX:CXT} {k:Nat} {f C:Addr} {fd:FuncData} {ps:List Str} {sp:Sp} {dvs:List V} {ds:List Value} {E:XK} {x m:Str} {p pos apos:Pos} {e o:Expr} {es:List Expr} {te ta:TE} {t:TA} {id T:String} {r:List V->Hp->VK->Prop}
theorem ac (ha:PE X e te) (hr:PA X es t) (h:isSt e = false:=by rfl):PA X (e :: es) (tCons te t):=pa_cons ha hr (star_cons h)
theorem cB (hc:CallR X (.builtin id) r) (hm:X.mg x = none) (hv:bootBuiltins x = some (.builtin id)) (ha:PA X (e :: es) t) (hg:Gl X x:=by rfl) (hn:x ≠ "__name__":=by decide) (hdb:(x == ("__debug__" : Str)) = false:=by decide)
  (h1:isSt e = false:=by rfl) (h2:es.any isSt = false:=by rfl):PE X (.Call (.Name x p) (e :: es) [] pos) (tCB r t):=pe_callB hc hg hm hv ha hn hdb (star_cons h1) (star_any h2)
theorem cTy (hc:CallR X (.type T) r) (hm:X.mg x = none) (hv:bootBuiltins x = some (.type T)) (ha:PA X (e :: es) t) (hg:Gl X x:=by rfl) (hn:x ≠ "__name__":=by decide) (hdb:(x == ("__debug__" : Str)) = false:=by decide)
  (h1:isSt e = false:=by rfl) (h2:es.any isSt = false:=by rfl):PE X (.Call (.Name x p) (e :: es) [] pos) (tCB r t):=pe_callTy hc hg hm hv ha hn hdb (star_cons h1) (star_any h2)
structure Callee (P:Program) (w:World) (K:PySem.W.Frag) (mg:Str->Option Value) (base:Heap) (k:Nat) (x:Str) (f:Addr) (fd:FuncData) (ps:List Str) (sp:Sp):Prop where
 ok:FnOk P w K mg base CX0 k f fd ps sp
 mg:mg x = some (.ref f)
 kp:PySem.W.keepIn K (.ref f) = true
 bd:Binds K fd ps []
theorem cF (c:Callee X.prog X.w X.K X.mg X.base k x f fd ps sp) (hr:Room k X.A) (ha:PA X (e :: es) t) (hg:Gl X x:=by rfl) (hdb:(x == ("__debug__" : Str)) = false:=by decide)
  (h1:isSt e = false:=by rfl) (h2:es.any isSt = false:=by rfl):PE X (.Call (.Name x p) (e :: es) [] pos) (tCall sp [] E0 t):=
 pe_call c.ok hr hg c.mg c.kp c.bd .nil pass0 ha hdb (star_cons h1) (star_any h2)
end
end L2
namespace L2
open PySem PyProof.Rows
theorem kt_NoneType_str (K:PySem.W.Frag):PySem.W.kitOne K (.type "NoneType") (.type "str") = some false:=by kernel_rfl
theorem kt_int_str (K:PySem.W.Frag):PySem.W.kitOne K (.type "int") (.type "str") = some false:=by kernel_rfl
theorem kt_int_bool (K:PySem.W.Frag):PySem.W.kitOne K (.type "int") (.type "bool") = some false:=by kernel_rfl
theorem kt_int_int (K:PySem.W.Frag):PySem.W.kitOne K (.type "int") (.type "int") = some true:=by kernel_rfl
theorem kt_bool_str (K:PySem.W.Frag):PySem.W.kitOne K (.type "bool") (.type "str") = some false:=by kernel_rfl
theorem kt_bool_bool (K:PySem.W.Frag):PySem.W.kitOne K (.type "bool") (.type "bool") = some true:=by kernel_rfl
theorem kt_str_str (K:PySem.W.Frag):PySem.W.kitOne K (.type "str") (.type "str") = some true:=by kernel_rfl
theorem kt_list_str (K:PySem.W.Frag):PySem.W.kitOne K (.type "list") (.type "str") = some false:=by kernel_rfl
theorem kt_tuple_str (K:PySem.W.Frag):PySem.W.kitOne K (.type "tuple") (.type "str") = some false:=by kernel_rfl
theorem kt_tuple_tuple (K:PySem.W.Frag):PySem.W.kitOne K (.type "tuple") (.type "tuple") = some true:=by kernel_rfl
theorem kt_dict_str (K:PySem.W.Frag):PySem.W.kitOne K (.type "dict") (.type "str") = some false:=by kernel_rfl
end L2
namespace L2
open PySem PySem.Spec PyProof.Rows
inductive Dt where
 | non | bl (b:Bool) | int (i:Int) | str (z:Str) | tup (ds:List Dt) | lst (ds:List Dt)
def FlatD:V->Dt->Prop
 | .non,.non=>True
 | .bl a,.bl b=>a = b
 | .int a,.int b=>a = b
 | .str a,.str b=>a = b
 | _,_=>False
def Says (K:PySem.W.Frag) (ok:Addr->Prop) (H:Hp):Nat->V->Dt->Prop
 | 0,x,d=>FlatD x d
 | n + 1,x,d=>FlatD x d\/(∃ a xs ds,x = .ref a/\d = .tup ds/\SqT K H a xs/\Paired (Says K ok H n) xs ds)\/(∃ a xs ds,x = .ref a/\d = .lst ds/\ok a/\H a = some (.lst xs)/\Paired (Says K ok H n) xs ds)
section
variable {K:PySem.W.Frag} {ok ok':Addr->Prop} {H H':Hp}
theorem Says.flat {n:Nat} {x:V} {d:Dt} (h:FlatD x d):Says K ok H n x d:=by
 cases n with
 | zero=>exact h
 | succ n=>exact .inl h
theorem Says.int {n:Nat} {i:Int}:Says K ok H n (.int i) (.int i):=.flat rfl
theorem Says.str {n:Nat} {z:Str}:Says K ok H n (.str z) (.str z):=.flat rfl
theorem Says.non {n:Nat}:Says K ok H n .non .non:=.flat True.intro
theorem Says.tup {n:Nat} {a:Addr} {xs:List V} {ds:List Dt} (h:SqT K H a xs) (r:Paired (Says K ok H n) xs ds):Says K ok H (n + 1) (.ref a) (.tup ds):=.inr (.inl ⟨a,xs,ds,rfl,rfl,h,r⟩)
theorem Says.lst {n:Nat} {a:Addr} {xs:List V} {ds:List Dt} (o:ok a) (h:H a = some (.lst xs)) (r:Paired (Says K ok H n) xs ds):Says K ok H (n + 1) (.ref a) (.lst ds):=.inr (.inr ⟨a,xs,ds,rfl,rfl,o,h,r⟩)
theorem Says.frame (hT:∀ a xs,SqT K H a xs->SqT K H' a xs) (hL:∀ a xs,ok a->H a = some (.lst xs)->ok' a/\H' a = some (.lst xs)):∀ {n:Nat} {x:V} {d:Dt},Says K ok H n x d->Says K ok' H' n x d
 | 0,_,_,h=>h
 | n + 1,x,d,h=>by
  rcases h with h | ⟨a,xs,ds,e1,e2,h,r⟩ | ⟨a,xs,ds,e1,e2,o,h,r⟩
  ·exact .inl h
  ·exact .inr (.inl ⟨a,xs,ds,e1,e2,hT a xs h,Paired.imp' (fun _ _ z=>Says.frame hT hL z) r⟩)
  ·exact .inr (.inr ⟨a,xs,ds,e1,e2,(hL a xs o h).1,(hL a xs o h).2,Paired.imp' (fun _ _ z=>Says.frame hT hL z) r⟩)
theorem Same.sqT {a:Addr} {xs:List V} (e:Same H H') (h:SqT K H a xs):SqT K H' a xs:=by
 rcases h with (h | ⟨o,h⟩) | h
 ·exact .inl (.inl (e _ _ h))
 ·exact .inl (.inr ⟨o,e _ _ h⟩)
 ·exact .inr h
theorem Says.same {n:Nat} {x:V} {d:Dt} (e:Same H H') (h:Says K ok H n x d):Says K ok H' n x d:=h.frame (fun _ _ z=>e.sqT z) fun _ _ o z=>⟨o,e _ _ z⟩
theorem Paired.get {α β : Type} {F : α->β->Prop}:∀ {l₁:List α} {l₂:List β} {i:Nat} {a : α},Paired F l₁ l₂->l₁[i]? = some a->∃ b,l₂[i]? = some b/\F a b
 | _,_,_,_,.nil,e=>by simp at e
 | _,_,0,_,.cons r _,e=>by simp at e; subst e; exact ⟨_,rfl,r⟩
 | _,_,i + 1,a,.cons _ t,e=>by
  obtain ⟨b,h1,h2⟩:=Paired.get (i:=i) (a:=a) t (by simpa using e)
  exact ⟨b,by simpa using h1,h2⟩
end
section
variable {X:Cx} {pins:List (Addr × Obj)} {σ : St} {H:Hp} {s:Shared} {ok ok':Addr->Prop}
theorem flat_same {A:Around} {x y:V} {d:Dt} {u v:Value} (hx:FlatD x d) (hy:FlatD y d) (ru:RelV x u) (rv:RelV y v):SeqAt.EqAt A s u v true:=by
 cases d with
 | non=>
  cases x <;> try exact hx.elim
  cases y <;> try exact hy.elim
  cases ru; cases rv; exact SeqAt.EqAt.same _
 | bl b=>
  cases x <;> try exact hx.elim
  cases y <;> try exact hy.elim
  rename_i a c
  obtain rfl:a = b:=hx
  obtain rfl:c = a:=hy
  cases ru; cases rv; exact SeqAt.EqAt.same _
 | int b=>
  cases x <;> try exact hx.elim
  cases y <;> try exact hy.elim
  rename_i a c
  obtain rfl:a = b:=hx
  obtain rfl:c = a:=hy
  obtain ⟨t,rfl⟩:=ru
  obtain ⟨t',rfl⟩:=rv
  have:=SeqAt.EqAt.int_int (A:=A) (s:=s) c t c t'
  simpa using this
 | str b=>
  cases x <;> try exact hx.elim
  cases y <;> try exact hy.elim
  rename_i a c
  obtain rfl:a = b:=hx
  obtain rfl:c = a:=hy
  obtain ⟨t,rfl⟩:=ru
  obtain ⟨t',rfl⟩:=rv
  have:=SeqAt.EqAt.str_str (A:=A) (s:=s) c t c t'
  simpa using this
 | tup ds=>cases x <;> exact hx.elim
 | lst ds=>cases x <;> exact hx.elim
theorem flat_ref {a:Addr} {d:Dt} (h:FlatD (.ref a) d):False:=by cases d <;> exact h
theorem all_true (n:Nat):((List.range n).all fun _=>true) = true:=by rw [List.all_eq_true]; intro _ _; rfl
theorem eqAt_same (I:Inv X pins σ H s):∀ (n:Nat) {A:Around} {x y:V} {d:Dt} {u v:Value},Says X.K ok H n x d->Says X.K ok' H n y d->RelV x u->RelV y v->A.units + n < cLine->SeqAt.EqAt A s u v true
 | 0,A,x,y,d,u,v,hx,hy,ru,rv,_=>flat_same hx hy ru rv
 | n + 1,A,x,y,d,u,v,hx,hy,ru,rv,hu=>by
  have hin:A.in1.units + n < cLine:=by show A.units + 1 + n < cLine; omega
  rcases hx with hx | ⟨a,xs,ds,rfl,rfl,hx,r⟩ | ⟨a,xs,ds,rfl,rfl,_,hx,r⟩
  ·rcases hy with hy | ⟨b,ys,es,rfl,rfl,hy,q⟩ | ⟨b,ys,es,rfl,rfl,_,hy,q⟩
   ·exact flat_same hx hy ru rv
   ·cases x <;> exact hx.elim
   ·cases x <;> exact hx.elim
  ·rcases hy with hy | ⟨b,ys,es,rfl,e2,hy,q⟩ | ⟨b,ys,es,rfl,e2,_,hy,q⟩
   ·cases y <;> exact hy.elim
   ·cases e2
    cases ru; cases rv
    by_cases hab:a = b
    ·subst hab; exact SeqAt.EqAt.same _
    ·obtain ⟨ia,va,pa,_⟩:=I.tuple hx
     obtain ⟨ib,vb,pb,_⟩:=I.tuple hy
     have la:ia.length = ds.length:=by rw [<- va.length,r.length]
     have lb:ib.length = ds.length:=by rw [<- vb.length,q.length]
     have:=SeqAt.RcAt.tuples (A:=A) (s:=s) (e:=fun _=>true) (show s.heap.IsTuple a ia.toArray from pa) (show s.heap.IsTuple b ib.toArray from pb) (by omega) (fun j h1 h2=>by
      have j1:j < ia.length:=by simpa using h1
      have j2:j < ib.length:=by simpa using h2
      have hxl:j < xs.length:=by rw [va.length]; exact j1
      have hyl:j < ys.length:=by rw [vb.length]; exact j2
      obtain ⟨u',e1,e2⟩:=va.get (i:=j) (List.getElem?_eq_getElem hxl)
      obtain ⟨v',e3,e4⟩:=vb.get (i:=j) (List.getElem?_eq_getElem hyl)
      obtain ⟨d1,f1,f2⟩:=Paired.get r (List.getElem?_eq_getElem hxl)
      obtain ⟨d2,f3,f4⟩:=Paired.get q (List.getElem?_eq_getElem hyl)
      rw [f1] at f3
      cases f3
      rw [List.getElem?_eq_getElem j1] at e1
      rw [List.getElem?_eq_getElem j2] at e3
      cases e1; cases e3
      simpa using eqAt_same I n f2 f4 e2 e4 hin)
     rw [all_true] at this
     have z:(ia.toArray.size == ib.toArray.size) = true:=by simp [la,lb]
     rw [z] at this
     exact SeqAt.EqAt.of_refs hab this
   ·cases e2
  ·rcases hy with hy | ⟨b,ys,es,rfl,e2,hy,q⟩ | ⟨b,ys,es,rfl,e2,_,hy,q⟩
   ·cases y <;> exact hy.elim
   ·cases e2
   ·cases e2
    cases ru; cases rv
    by_cases hab:a = b
    ·subst hab; exact SeqAt.EqAt.same _
    ·obtain ⟨ia,va,pa,_⟩:=I.list (SqL.of hx)
     obtain ⟨ib,vb,pb,_⟩:=I.list (SqL.of hy)
     have la:ia.length = ds.length:=by rw [<- va.length,r.length]
     have lb:ib.length = ds.length:=by rw [<- vb.length,q.length]
     have:=SeqAt.RcAt.lists (A:=A) (s:=s) (e:=fun _=>true) pa.isList pb.isList (by simp [la,lb]) (by omega) (fun j h1 h2=>by
      have j1:j < ia.length:=by simpa using h1
      have j2:j < ib.length:=by simpa using h2
      have hxl:j < xs.length:=by rw [va.length]; exact j1
      have hyl:j < ys.length:=by rw [vb.length]; exact j2
      obtain ⟨u',e1,e2⟩:=va.get (i:=j) (List.getElem?_eq_getElem hxl)
      obtain ⟨v',e3,e4⟩:=vb.get (i:=j) (List.getElem?_eq_getElem hyl)
      obtain ⟨d1,f1,f2⟩:=Paired.get r (List.getElem?_eq_getElem hxl)
      obtain ⟨d2,f3,f4⟩:=Paired.get q (List.getElem?_eq_getElem hyl)
      rw [f1] at f3
      cases f3
      rw [List.getElem?_eq_getElem j1] at e1
      rw [List.getElem?_eq_getElem j2] at e3
      cases e1; cases e3
      simpa using eqAt_same I n f2 f4 e2 e4 hin)
     rw [all_true] at this
     exact SeqAt.EqAt.of_refs hab this
theorem rc_same (I:Inv X pins σ H s) {n:Nat} {A:Around} {a b:Addr} {d:Dt} (hx:Says X.K ok H (n + 1) (.ref a) d) (hy:Says X.K ok' H (n + 1) (.ref b) d) (hu:A.units + n + 1 < cLine) :
  SeqAt.RcAt A s (.ref a) (.ref b) true/\SeqAt.RcNeAt A s (.ref a) (.ref b) false:=by
 have hin:A.in1.units + n < cLine:=by show A.units + 1 + n < cLine; omega
 rcases hx with hx | ⟨a,xs,ds,e0,rfl,hx,r⟩ | ⟨a,xs,ds,e0,rfl,_,hx,r⟩
 ·exact (flat_ref hx).elim
 ·cases e0
  rcases hy with hy | ⟨b,ys,es,e1,e2,hy,q⟩ | ⟨b,ys,es,e1,e2,_,hy,q⟩
  ·exact (flat_ref hy).elim
  ·cases e1; cases e2
   obtain ⟨ia,va,pa,_⟩:=I.tuple hx
   obtain ⟨ib,vb,pb,_⟩:=I.tuple hy
   have la:ia.length = ds.length:=by rw [<- va.length,r.length]
   have lb:ib.length = ds.length:=by rw [<- vb.length,q.length]
   have el:∀ j (h1:j < ia.toArray.size) (h2:j < ib.toArray.size),SeqAt.EqAt A.in1 s ia.toArray[j] ib.toArray[j] true:=fun j h1 h2=>by
    have j1:j < ia.length:=by simpa using h1
    have j2:j < ib.length:=by simpa using h2
    have hxl:j < xs.length:=by rw [va.length]; exact j1
    have hyl:j < ys.length:=by rw [vb.length]; exact j2
    obtain ⟨u',e1,e2⟩:=va.get (i:=j) (List.getElem?_eq_getElem hxl)
    obtain ⟨v',e3,e4⟩:=vb.get (i:=j) (List.getElem?_eq_getElem hyl)
    obtain ⟨d1,f1,f2⟩:=Paired.get r (List.getElem?_eq_getElem hxl)
    obtain ⟨d2,f3,f4⟩:=Paired.get q (List.getElem?_eq_getElem hyl)
    rw [f1] at f3
    cases f3
    rw [List.getElem?_eq_getElem j1] at e1
    rw [List.getElem?_eq_getElem j2] at e3
    cases e1; cases e3
    simpa using eqAt_same I n f2 f4 e2 e4 hin
   have z:(ia.toArray.size == ib.toArray.size) = true:=by simp [la,lb]
   have t1:=SeqAt.RcAt.tuples (A:=A) (s:=s) (e:=fun _=>true) (show s.heap.IsTuple a ia.toArray from pa) (show s.heap.IsTuple b ib.toArray from pb) (by omega) el
   have t2:=SeqAt.RcNeAt.tuples (A:=A) (s:=s) (e:=fun _=>true) (show s.heap.IsTuple a ia.toArray from pa) (show s.heap.IsTuple b ib.toArray from pb) (by omega) el
   rw [all_true,z] at t1 t2
   exact ⟨t1,t2⟩
  ·cases e1; cases e2
 ·cases e0
  rcases hy with hy | ⟨b,ys,es,e1,e2,hy,q⟩ | ⟨b,ys,es,e1,e2,_,hy,q⟩
  ·exact (flat_ref hy).elim
  ·cases e1; cases e2
  ·cases e1; cases e2
   obtain ⟨ia,va,pa,_⟩:=I.list (SqL.of hx)
   obtain ⟨ib,vb,pb,_⟩:=I.list (SqL.of hy)
   have la:ia.length = ds.length:=by rw [<- va.length,r.length]
   have lb:ib.length = ds.length:=by rw [<- vb.length,q.length]
   have el:∀ j (h1:j < ia.toArray.size) (h2:j < ib.toArray.size),SeqAt.EqAt A.in1 s ia.toArray[j] ib.toArray[j] true:=fun j h1 h2=>by
    have j1:j < ia.length:=by simpa using h1
    have j2:j < ib.length:=by simpa using h2
    have hxl:j < xs.length:=by rw [va.length]; exact j1
    have hyl:j < ys.length:=by rw [vb.length]; exact j2
    obtain ⟨u',e1,e2⟩:=va.get (i:=j) (List.getElem?_eq_getElem hxl)
    obtain ⟨v',e3,e4⟩:=vb.get (i:=j) (List.getElem?_eq_getElem hyl)
    obtain ⟨d1,f1,f2⟩:=Paired.get r (List.getElem?_eq_getElem hxl)
    obtain ⟨d2,f3,f4⟩:=Paired.get q (List.getElem?_eq_getElem hyl)
    rw [f1] at f3
    cases f3
    rw [List.getElem?_eq_getElem j1] at e1
    rw [List.getElem?_eq_getElem j2] at e3
    cases e1; cases e3
    simpa using eqAt_same I n f2 f4 e2 e4 hin
   have t1:=SeqAt.RcAt.lists (A:=A) (s:=s) (e:=fun _=>true) pa.isList pb.isList (by simp [la,lb]) (by omega) el
   have t2:=SeqAt.RcNeAt.lists (A:=A) (s:=s) (e:=fun _=>true) pa.isList pb.isList (by simp [la,lb]) (by omega) el
   rw [all_true] at t1 t2
   exact ⟨t1,t2⟩
def rSame (K:PySem.W.Frag) (b:Bool):R2:=fun x y H Q=>∃ (a c:Addr) (n:Nat) (d:Dt) (ok ok':Addr->Prop),x = .ref a/\y = .ref c/\n<=20/\Says K ok H (n + 1) x d/\Says K ok' H (n + 1) y d/\Q (.bl b) H
theorem op_eqS (hu:X.A.units + 64 < cLine):OpR X (compareOp .Eq) (rSame X.K true):=by
 intro pins s σ H x y v u Q I rx ry h
 obtain ⟨a,c,n,d,ok,ok',rfl,rfl,hn,hx,hy,q⟩:=h
 cases rx; cases ry
 exact (rc_same (A:=X.A) I hx hy (by omega)).1 X.prog X.w X.xe _ ⟨.bl true,H,I,rfl,q⟩
theorem op_neS (hu:X.A.units + 64 < cLine):OpR X (compareOp .NotEq) (rSame X.K false):=by
 intro pins s σ H x y v u Q I rx ry h
 obtain ⟨a,c,n,d,ok,ok',rfl,rfl,hn,hx,hy,q⟩:=h
 cases rx; cases ry
 exact (rc_same (A:=X.A) I hx hy (by omega)).2 X.prog X.w X.xe _ ⟨.bl false,H,I,rfl,q⟩
end
def Ite (K:PySem.W.Frag) (a:Addr):It:=
 ⟨fun i H=>∃ xs x,SqL K H a xs/\xs[i]? = some x,fun i H x H'=>∃ (p:Addr) (y:V),x = .ref p/\H p = none/\(∀ xs,SqL K H a xs->xs[i]? = some y)/\H' = upd H p (.tup [.int i,y]),fun i H=>∃ xs,SqL K H a xs/\xs.length<=i⟩
theorem turn_enum {P:Program} {w:World} {K:PySem.W.Frag} {elts:List Expr} {x1:Nat} {tpos:Pos} (a e it:Addr) (hne:e ≠ it) :
  Turn P w K (.Tuple elts x1 tpos) (Ite K a) [e,it] e (fun i h=>(∃ old,IsEnum h e it (i:Int) old)/\h.IsListIter it a i) where
 mem:=by simp
 obj:=fun i h st b hb=>by
  rcases List.mem_cons.mp hb with rfl | hb
  ·obtain ⟨⟨old,he⟩,_⟩:=st
   exact ⟨_,he,fun v q=>by cases q⟩
  ·have e':b = it:=by simpa using hb
   subst e'
   obtain ⟨_,o,ho,_,hd⟩:=st
   exact ⟨o,ho,fun v q=>by rw [hd] at q; cases q⟩
 keep:=fun i h h' st k=>by
  obtain ⟨⟨old,he⟩,o,ho,r⟩:=st
  exact ⟨⟨old,k e (by simp) _ he⟩,o,k it (by simp) o ho,r⟩
 item:=by
  intro X hP hw hK hc i pins s σ H E I hf st hg
  subst hP hw hK
  obtain ⟨f0,f1,f2,f3,f4,f5⟩:=hf e (by simp)
  obtain ⟨g0,g1,g2,g3,g4,g5⟩:=hf it (by simp)
  obtain ⟨⟨old,he⟩,hit⟩:=st
  obtain ⟨xs,x,hS,hx⟩:=hg
  obtain ⟨its,rv,hp,hz⟩:=I.list hS
  obtain ⟨u,hu,ru⟩:=rv.get hx
  refine wpAny_pyNext_enum_item he hit hp.isList (x:=u) (by simpa using hu) hne fun h' he' hit' htup hsz hk=>?_
  have I0:Inv X pins σ H { s with heap:=h',toks:=s.toks + 1 }:=by
   refine I.step (g':=s.gens) (d':=s.drawn) (ch:=[e,it]) (fun b hb=>?_) (fun b o _ _ hc' e1 _=>hk b o (fun z=>hc' (by simp [z])) (fun z=>hc' (by simp [z])) e1) (fun b o _ _ hc' e1 _=>⟨o.slots,hk b o (fun z=>hc' (by simp [z])) (fun z=>hc' (by simp [z])) e1⟩) (fun _ _ _ _ n=>n)
    (fun b o hc' e1=>⟨o,hk b o (fun z=>hc' (by simp [z])) (fun z=>hc' (by simp [z])) e1⟩) (fun _ _ e1=>e1) (fun _ _ _ e1=>e1) (fun b ps e1=>⟨#[],by rw [e1]; simp⟩) (fun m hm=>?_) (fun b u' e1=>?_) I.bare
   ·rcases List.mem_cons.mp hb with rfl | hb
    ·exact ⟨f3,f1,f4,f5⟩
    ·have e':b = it:=by simpa using hb
     subst e'
     exact ⟨g3,g1,g4,g5⟩
   ·obtain ⟨o,es,ep,ho,r⟩:=hm
    exact ⟨o,es,ep,hk _ o (Ne.symm f1) (Ne.symm g1) ho,r⟩
   ·have nit:∀ c v',H c = some v'->c ≠ e/\c ≠ it:=fun c v' q=>⟨fun z=>(by rw [z,f0] at q; cases q),fun z=>(by rw [z,g0] at q; cases q)⟩
    refine (I.hok b u' e1).stay (fun c v' hc' q=>?_) (fun _ q=>q) fun _ _ q=>q
    rcases hc' with z | z
    ·subst z; exact hk c v' (nit c _ e1).1 (nit c _ e1).2 q
    ·exact hk c v' (nit c _ z).1 (nit c _ z).2 q
  have hfr:H s.heap.objs.size = none:=I.hok.fresh (Nat.le_refl _)
  have I1:Inv X pins σ (upd H s.heap.objs.size (.tup [.int i,x])) { s with heap:=h',toks:=s.toks + 1 }:=by
   have hok:HOk X.prog X.w (upd H s.heap.objs.size (.tup [.int i,x])) h':=fun b o q=>by
    by_cases hb:b = s.heap.objs.size
    ·subst hb
     rw [upd_same] at q; cases q
     exact ⟨by show 2<=sizeLine; decide,[.int i s.toks,u],.cons ⟨_,rfl⟩ (.cons ru .nil),⟨_,htup,rfl,_,rfl⟩⟩
    ·rw [upd_ne hb] at q
     exact (I0.hok b o q).stay (fun _ _ _ z=>z) (fun c z=>by rw [upd_ne (ne_of_none z hfr)]; exact z) fun c xs' z=>by rw [upd_ne (ne_of_none z hfr)]; exact z
   refine I0.step (s:={ s with heap:=h',toks:=s.toks + 1 }) (g':=s.gens) (d':=s.drawn) (h':=h') (t':=s.toks + 1) (ch:=[s.heap.objs.size]) (fun b hb=>?_) (fun b o _ _ _ e1 _=>e1) (fun b o _ _ _ e1 _=>⟨o.slots,e1⟩) (fun b o hb e1 n=>by rw [upd_ne (fun z=>hb (by simp [z]))]; exact n)
    (fun b o _ e1=>⟨o,e1⟩) (fun b xs' e1=>by rw [upd_ne (ne_of_none e1 hfr)]; exact e1) (fun b o' u' e1=>by rw [upd_ne (ne_of_none e1 hfr)]; exact e1) (fun b ps e1=>⟨#[],by rw [upd_ne (ne_of_none e1 hfr),e1]; simp⟩) (fun m hm=>hm) hok I0.bare
   have e':b = s.heap.objs.size:=by simpa using hb
   subst e'
   refine ⟨.inr I.sz,fun z=>?_,fun y c h z=>?_,fun p hp' z=>?_⟩
   ·have:=I.lt; rw [<- z] at this; exact absurd this (Nat.lt_irrefl _)
   ·obtain ⟨v',hv⟩:=I.cell y c h
    have:=hv.lt; rw [z] at this; exact absurd this (Nat.lt_irrefl _)
   ·have:=I.pin_lt hp'; rw [z] at this; exact absurd this (Nat.lt_irrefl _)
  refine ⟨_,rfl,wpAny_letOwnedTupleGo_enum he' fun h2 he2 hs2=>?_⟩
  have nes:s.heap.objs.size ≠ e:=fun z=>by
   have:=Heap.lt_size (show s.heap.get? e = some _ from he)
   rw [<- z] at this; exact absurd this (Nat.lt_irrefl _)
  have nis:s.heap.objs.size ≠ it:=fun z=>by
   obtain ⟨o,ho,_⟩:=hit
   have:=Heap.lt_size ho
   rw [<- z] at this; exact absurd this (Nat.lt_irrefl _)
  have I2:Inv X pins σ (upd H s.heap.objs.size (.tup [.int i,x])) { s with heap:=h2,toks:=s.toks + 1 }:=
   I1.turned (s:={ s with heap:=h',toks:=s.toks + 1 }) (t':=s.toks + 1) (it:=e) (fun b o hb q=>(hs2.2 b hb).trans q) (by rw [upd_ne nes.symm]; exact f0) f1 f3 f4 f5
  refine ⟨.ref s.heap.objs.size,_,I2,rfl,⟨_,x,rfl,hfr,fun xs' h'=>?_,rfl⟩,⟨⟨_,by simpa using he2⟩,?_⟩,fun b hb=>?_⟩
  ·rw [I.list_inj h' hS]; exact hx
  ·obtain ⟨o,ho,r⟩:=hit'
   exact ⟨o,(hs2.2 it (Ne.symm hne)).trans ho,r⟩
  ·rcases List.mem_cons.mp hb with rfl | hb
   ·rw [upd_ne nes.symm]; exact f0
   ·have e':b = it:=by simpa using hb
    subst e'
    rw [upd_ne nis.symm]; exact g0
 done:=by
  intro X hP hw hK hc i pins s σ H E I hf st hg
  subst hP hw hK
  obtain ⟨⟨old,he⟩,hit⟩:=st
  obtain ⟨g0,g1,g2,g3,g4,g5⟩:=hf it (by simp)
  obtain ⟨xs,hS,hle⟩:=hg
  obtain ⟨its,rv,hp,hz⟩:=I.list hS
  have hx:its.toArray[i]? = none:=by simp [<- rv.length,hle]
  exact wpAny_pyNext_enum_end (I.ok.hd hc) he hit hp.isList hx fun h' eb=>⟨rfl,I.turned (t':=s.toks) (fun b o hb e1=>eb b o hb e1) g0 g1 g3 g4 g5⟩
 self:=fun A i s Q E st h=>by
  obtain ⟨⟨old,he⟩,_⟩:=st
  exact wpAny_pyIter_enum he h
section
variable {X:Cx} {elts:List Expr} {x1:Nat} {tpos:Pos}
def iEnum (K:PySem.W.Frag) (ta:TA):TI:=fun σ H R=>ta σ H fun vs H1=>∃ a,vs = [.ref a]/\(∃ xs,SqL K H1 a xs)/\R (Ite K a) H1
theorem pi_enum {l:Expr} {ta:TA} {p pos:Pos} (hg:Gl X "enumerate") (hm:X.mg "enumerate" = none) (ha:PA X [l] ta) (hl:isSt l = false:=by rfl):PI X (.Tuple elts x1 tpos) (.Call (.Name "enumerate" p) [l] [] pos) (iEnum X.K ta):=by
 refine ⟨?_⟩
 intro pins s σ H R I h
 refine Call_ (ld_blt I hg hm PyProof.Rows.boot_enumerate (PyProof.Rows.callWith_type1 (thn (ha pos pins s σ H _ I h) fun us s1 ⟨vs,H1,I1,r1,q1⟩=>?_) (star_cons hl) rfl))
 obtain ⟨a,e,⟨xs,hS⟩,q⟩:=q1
 subst e
 obtain ⟨u,rfl,ru⟩:=vals1 r1
 cases ru
 obtain ⟨its,rv,hp,hz⟩:=I1.list hS
 refine call_enumerate_list hp.isList fun h' he hit hsz hk=>?_
 refine wpAny_pyIter_enum he ?_
 have hfr:∀ b,s1.heap.objs.size<=b->H1 b = none:=fun b hb=>I1.hok.fresh hb
 have I2:Inv X pins σ H1 { s1 with heap:=h' }:=I1.kept (t':=s1.toks) hk
 refine ⟨s1.heap.objs.size + 1,[s1.heap.objs.size + 1,s1.heap.objs.size],_,_,H1,rfl,I2,turn_enum a _ _ (Nat.succ_ne_self _),⟨⟨_,he⟩,hit⟩,fun b hb=>?_,q⟩
 rcases List.mem_cons.mp hb with rfl | hb
 ·exact I1.fpOk (Nat.le_succ _) (hfr _ (Nat.le_succ _))
 ·have e':b = s1.heap.objs.size:=by simpa using hb
  subst e'
  exact I1.fpOk (Nat.le_refl _) (hfr _ (Nat.le_refl _))
end
end L2
namespace Att
open PySem PySem.W PySem.Calls PyProof.Rows
theorem script_bits {ns:List Int} (h:WData.layableAll [WData.list (ns.map WData.int)] = true):∀ n ∈ ns,Builtin.Int.intBits n<=1048576:=fun n hn=>
 PySem.intBits_le_of_layable (layable0_of_all (lay0_int (layableW_item (layW_cons h).1 (.int n) (List.mem_map.mpr ⟨n,hn,rfl⟩))))
theorem attach_callB {l:OpenLaw} {n:Nat} {q:Program} {loose:List Str} {XP:(Str->Option Value)->Heap->Prop} {YP:World->Heap->Prop} {d:DefRec}
  (hn:l.most = some n) (hdf:d.params.defaults = [])
  (call:∀ (w:World) (s₀ s₁:Shared) (mg mb:Str->Option Value) (fa:Addr) (o:Obj) (pm cd doc:Value) (a:Addr) (vs:List Value) (ns:List Int),
   Ground q loose [] XP w s₀ mg mb s₁.heap->YP w s₁.heap->
   s₁.heap.get? fa = some o->o.data = .func (docDef d.name d.params d.body d.scope pm cd doc)->s₁.heap.CodeRec cd d.name->mg d.name = some (.ref fa)->
   s₁.heap.get? a = some { cls:=.type "list",data:=.seq vs.toArray }->IntsAre vs ns->ns.length<=n->(∀ m ∈ ns,Builtin.Int.intBits m<=1048576)->s₁.gens = #[]->
   codeAny (model l.prog w) callerA (.call (.ref fa) ⟨[.ref a],[]⟩) (fun r s'=>r = .ok (.ret (.bool true))/\OldK s₁.heap s'.heap/\s'.os = s₁.os/\AllBare s'.gens) s₁) :
  WalkO q loose XP YP l.row.toRowW d [] (fun f vs=>PySem.call f vs):=by
 intro w s₀ s₁ mg mb G Y fa o pm cd doc dV kV ho hd hcd hD hmg hg args vals as hpre hlay hrd hwl hlo
 obtain rfl:dV = .none:=Dflts.none hD hdf
 obtain rfl:kV = .none:=Dflts.noKw hD
 obtain ⟨a,vs,ns,rfl,rfl,hobj,hints,hlen⟩:=script_of hn hpre hwl
 refine enter_call (codeAny_mono (call w s₀ s₁ mg mb fa o pm cd doc a vs ns G Y ho (fd_plain hd) hcd hmg hobj hints hlen (script_bits hlay) hg) fun r s' hq=>?_)
 obtain ⟨rfl,h2,h3,h4⟩:=hq
 exact ⟨.inl ⟨.bool true,.bool true,[],rfl,fun _=>rfl,.bool true,post_true l _,fun _=>⟨List.Pairwise.nil,fun _ hm=>(nomatch hm)⟩⟩,h2,h3,h4⟩
end Att
namespace L2
open PySem PySem.Spec PyProof.Rows
theorem walk_ofB {l:PySem.W.OpenLaw} {n k:Nat} {q:Program} {loose:List Str} {XP:(Str->Option Value)->Heap->Prop} {YP:World->Heap->Prop} {d:DefRec} {K:Params->PySem.W.Frag} {CX:World->CXT} {sp:World->Sp} {x:Str}
  (hn:l.most = some n) (hn2:n<=sizeLine) (hdf:d.params.defaults = []) (hr:Room k callerA)
  (hY:∀ (w:World) (h:Heap),YP w h->(K w.params).In h)
  (F:∀ (w:World) (mg:Str->Option Value) (fa:Addr) (h:Heap),(K w.params).In h->h.Ns mainGlobals mg->mg d.name = some (.ref fa)->
   ∃ fd:FuncData,(∀ (s:Shared) (u:Value),BindsTo s fd ⟨[u],[]⟩ [(x,u)])/\
    ∀ base:Heap,(K w.params).In base->base.Ns mainGlobals mg->FnOk l.prog w (K w.params) mg base (CX w) k fa fd [x] (sp w))
  (hsp:∀ (w:World) (H:Hp) (a:Addr) (ns:List Int),ns.length<=n->(∀ m ∈ ns,Builtin.Int.intBits m<=1048576)->Only H->SqL (K w.params) H a (ns.map V.int)->sp w [.ref a] H (fun v _=>v = .bl true) fun _ _ _=>False)
  (hCX:∀ (w:World) (H:Hp) (s:Shared) (e:Value) (s':Shared),CX w [] H s (fun _ _ _=>False) e s'->False) :
  PySem.W.WalkO q loose XP YP l.row.toRowW d [] (fun f vs=>PySem.call f vs):=by
 refine Att.attach_callB hn hdf fun w s₀ s₁ mg mb fa o pm cd doc a vs ns G Y ho hd hcd hmg hobj hints hlen hbits hg=>?_
 have KX:=hY w _ Y
 obtain ⟨fd,hb,hF⟩:=F w mg fa _ KX G.T.g hmg
 exact law_call KX G.T.g G.T.b G.T.builtins G.T.nolimit hg hobj hints (Nat.le_trans hlen hn2) hr hF hb (fun H hO hS=>hsp w H a ns hlen hbits hO hS) fun H e s'=>hCX w H s₁ e s'
section
variable {X:Cx}
theorem op_mulB:OpR X (binaryOp .Mult) (rI IntMulOk fun i j=>.int (i * j)):=opI fun _ _ _ _ _ _ _ hc q=>mul_int q hc
end
structure FunD (K:PySem.W.Frag) (x qual:Str) (st:Stmt) (f:Addr) (fd:FuncData) (items:List Value):Prop where
 ex:∃ (oc:Value) (od:Option Addr) (T:Addr) (kV doc pm:Value) (an:Option Addr) (cdv ct:Value) (osl:Array (Option Value)) (o:Obj) (n:Nat),
  fd = PySem.W.fnOf x qual (defArgs st) (defBody st) (defScope st) (.ref T) kV doc pm an cdv ct/\K.lookup f = some ⟨oc,od,.func fd,osl⟩/\PySem.W.codeIn K cdv qual = true/\K.lookup T = some o/\o.data = .seq items.toArray n
 kp:PySem.W.keepIn K (.ref f) = true
section
variable {P:Program} {w:World} {K:PySem.W.Frag} {mg:Str->Option Value} {base:Heap}
theorem FunD.ok {x qual:Str} {st:Stmt} {f:Addr} {fd:FuncData} {items:List Value} {N ps:List Str} {k:Nat} {sp:Sp} (F:FunD K x qual st f fd items) (S:FnScope N ps (defScope st)) (len:∀ vs H Q E,sp vs H Q E->vs.length = ps.length)
  (hbody:∀ (cdv:Value) (A:Around) (outer:List Env) (s:Shared) (H:Hp) (vs:List V) (Q:VK) (E:XK),Room k (A.deeper (envOfC qual (defScope st) s.heap.objs.size f cdv))->sp vs H Q E->
   ∃ t,PSs (cxOf CX0 P w K mg base N qual (defScope st) f cdv A outer s H E).nox (defBody st) t/\t { nx:=fun _ H'=>Q .non H',rt:=Q } (start N vs) H):FnOk P w K mg base CX0 (k + 1) f fd ps sp:=by
 obtain ⟨oc,od,T,kV,doc,pm,an,cdv,ct,osl,o,n,rfl,lk,hcd,_,_⟩:=F.ex
 refine fn_of lk hcd S len fun A outer s H vs Q E hr hsp=>?_
 obtain ⟨t,h,q⟩:=hbody cdv A outer s H vs Q E hr hsp
 exact ⟨t,h.nox,q⟩
theorem FunD.bindsTo {x qual:Str} {st:Stmt} {f:Addr} {fd:FuncData} {items:List Value} (F:FunD K x qual st f fd items) {args:Args} {bs:List (Str × Value)}
  (h:∀ (T:Addr) (kV doc pm:Value) (an:Option Addr) (cdv ct:Value),∃ k:Option (Array Value)->Sem (List (Str × Value)),
   bindArgs (PySem.W.fnOf x qual (defArgs st) (defBody st) (defScope st) (.ref T) kV doc pm an cdv ct) args = seqItems? (.ref T) >>= k/\k (some items.toArray) = pure bs) {s:Shared} (KX:K.In s.heap):BindsTo s fd args bs:=by
 obtain ⟨oc,od,T,kV,doc,pm,an,cdv,ct,osl,o,n,rfl,lk,hcd,lt,hs⟩:=F.ex
 obtain ⟨k,h1,h2⟩:=h T kV doc pm an cdv ct
 exact BindsTo.of_defaults (T:=T) (n:=n) rfl (KX _ _ lt) hs h1 h2
theorem funD_mk {x qual:Str} {st:Stmt} {f T:Addr} {oc:Value} {od an:Option Addr} {osl:Array (Option Value)} {kV doc pm cdv ct:Value} {o:Obj} {n:Nat} {items:List Value}
  (l:K.lookup f = some ⟨oc,od,.func (PySem.W.fnOf x qual (defArgs st) (defBody st) (defScope st) (.ref T) kV doc pm an cdv ct),osl⟩)
  (c:PySem.W.codeIn K cdv qual = true) (k:PySem.W.keepIn K (.ref f) = true) (lT:K.lookup T = some o) (hs:o.data = .seq items.toArray n) :
  FunD K x qual st f (PySem.W.fnOf x qual (defArgs st) (defBody st) (defScope st) (.ref T) kV doc pm an cdv ct) items:=⟨⟨oc,od,T,kV,doc,pm,an,cdv,ct,osl,o,n,rfl,l,c,lT,hs⟩,k⟩
end
section
variable {X:Cx} {CX:CXT} {k:Nat} {f C:Addr} {fd:FuncData} {ps ks:List Str} {sp:Sp} {E:XK} {x:Str} {p pos:Pos} {e:Expr} {es:List Expr} {kws:List Keyword} {t tk:TA}
 {g:List Value->List Value->List Value} {gV:List V->List V->List V}
end
theorem seq_via {t u:TS} {D:Ends} {σ : St} {H:Hp} (R:St->Hp->Prop) (h2:∀ σ H,R σ H->u D σ H) (h1:(∀ σ H,R σ H->u D σ H)->t { D with nx:=u D } σ H):tSeq t u D σ H:=h1 h2
def lcN (n i:Nat) (D:Addr) (Pv:Nat->List V->Hp->Prop) (ys:List V):VK:=fun v H4=>H4 D = some (.lst ys)/\ys.length < sizeLine/\∃ m',m' < n - i/\m' = n - (i + 1)/\i + 1<=n/\Pv (i + 1) (ys ++ [v]) (upd H4 D (.lst (ys ++ [v])))
def lcS (n i:Nat) (Pv:Nat->List V->Hp->Prop) (ys:List V):Hp->Prop:=fun H4=>∃ m',m' < n - i/\m' = n - (i + 1)/\i + 1<=n/\Pv (i + 1) ys H4
theorem lcN.mk {n i:Nat} {D:Addr} {Pv:Nat->List V->Hp->Prop} {ys:List V} {v:V} {H4:Hp} (hi:i < n) (hn:n<=sizeLine) (hD:H4 D = some (.lst ys)) (hy:ys.length<=i) (p:Pv (i + 1) (ys ++ [v]) (upd H4 D (.lst (ys ++ [v])))):lcN n i D Pv ys v H4:=
 ⟨hD,by omega,n - (i + 1),by omega,rfl,hi,p⟩
theorem lcS.mk {n i:Nat} {Pv:Nat->List V->Hp->Prop} {ys:List V} {H4:Hp} (hi:i < n) (p:Pv (i + 1) ys H4):lcS n i Pv ys H4:=⟨n - (i + 1),by omega,rfl,hi,p⟩
theorem lc_list {K:PySem.W.Frag} {a:Addr} {xs:List V} {caps:List (Option Nat)} {g:TG} {tt:TT} {te:TE} {σ : St} {H1:Hp} {Q:VK} {D:Addr} (Pv:Nat->List V->Hp->Prop) (h0:Pv 0 [] (upd H1 D (.lst [])))
  (hl:∀ i ys H,Pv i ys H->SqL K H a xs)
  (hs:∀ i x ys H,i < xs.length->xs[i]? = some x->Pv i ys H->g x (capS caps σ) H fun σ2 H2=>tt σ2 H2 fun ok H3=>(ok = true->te σ2 H3 (lcN xs.length i D Pv ys))/\(ok = false->lcS xs.length i Pv ys H3))
  (hd:∀ ys H,Pv xs.length ys H->Q (.ref D) H):LCr (Itl K a) caps g tt te σ H1 Q D:=by
 refine ⟨fun i m ys H=>m = xs.length - i/\i<=xs.length/\Pv i ys H,⟨xs.length,by simp,Nat.zero_le _,h0⟩,?_⟩
 rintro i m ys H ⟨rfl,hi,p⟩
 have q:=hl i ys H p
 by_cases hlt:i < xs.length
 ·refine .inr ⟨⟨xs,xs[i],q,by simp [hlt]⟩,fun x H' y=>?_⟩
  obtain ⟨e,y⟩:=y
  subst e
  exact hs i x ys _ hlt (y xs q) p
 ·have e:i = xs.length:=by omega
  subst e
  exact .inl ⟨⟨xs,q,Nat.le_refl _⟩,hd ys H p⟩
theorem same_make0 {H:Hp} {x dx:Addr} {o1:HO} (hx:H x = none) (hd:H dx = none):Same H (upd (upd H dx (.own x)) x o1):=fun b u q=>by
 rw [upd_ne (ne_of_none q hx),upd_ne (ne_of_none q hd)]
 exact q
theorem same_new {H:Hp} {p:Addr} (h:H p = none) (o:HO):Same H (upd H p o):=fun b u q=>by rw [upd_ne (ne_of_none q h)]; exact q
theorem lc_range {lo:Int} {n:Nat} {caps:List (Option Nat)} {g:TG} {tt:TT} {te:TE} {σ : St} {H1:Hp} {Q:VK} {D:Addr} (Pv:Nat->List V->Hp->Prop) (h0:Pv 0 [] (upd H1 D (.lst [])))
  (hs:∀ i ys H,i < n->Pv i ys H->g (.int (lo + i)) (capS caps σ) H fun σ2 H2=>tt σ2 H2 fun ok H3=>(ok = true->te σ2 H3 (lcN n i D Pv ys))/\(ok = false->lcS n i Pv ys H3))
  (hd:∀ ys H,Pv n ys H->Q (.ref D) H):LCr (Itr lo n) caps g tt te σ H1 Q D:=by
 refine ⟨fun i m ys H=>m = n - i/\i<=n/\Pv i ys H,⟨n,by simp,Nat.zero_le _,h0⟩,?_⟩
 rintro i m ys H ⟨rfl,hi,p⟩
 by_cases hlt:i < n
 ·refine .inr ⟨hlt,fun x H' y=>?_⟩
  obtain ⟨e,y⟩:=y
  subst e y
  exact hs i ys _ hlt p
 ·have e:i = n:=by omega
  subst e
  exact .inl ⟨Nat.le_refl _,hd ys H p⟩
theorem lc_enum {K:PySem.W.Frag} {a:Addr} {xs:List V} {caps:List (Option Nat)} {g:TG} {tt:TT} {te:TE} {σ : St} {H1:Hp} {Q:VK} {D:Addr} (Pv:Nat->List V->Hp->Prop) (h0:Pv 0 [] (upd H1 D (.lst [])))
  (hl:∀ i ys H,Pv i ys H->SqL K H a xs)
  (hs:∀ i x p ys H,i < xs.length->xs[i]? = some x->Pv i ys H->H p = none->g (.ref p) (capS caps σ) (upd H p (.tup [.int i,x])) fun σ2 H2=>tt σ2 H2 fun ok H3=>(ok = true->te σ2 H3 (lcN xs.length i D Pv ys))/\(ok = false->lcS xs.length i Pv ys H3))
  (hd:∀ ys H,Pv xs.length ys H->Q (.ref D) H):LCr (Ite K a) caps g tt te σ H1 Q D:=by
 refine ⟨fun i m ys H=>m = xs.length - i/\i<=xs.length/\Pv i ys H,⟨xs.length,by simp,Nat.zero_le _,h0⟩,?_⟩
 rintro i m ys H ⟨rfl,hi,p⟩
 have q:=hl i ys H p
 by_cases hlt:i < xs.length
 ·refine .inr ⟨⟨xs,xs[i],q,by simp [hlt]⟩,fun x H' y=>?_⟩
  obtain ⟨pp,y,rfl,hp,y2,rfl⟩:=y
  exact hs i y pp ys H hlt (y2 xs q) p hp
 ·have e:i = xs.length:=by omega
  subst e
  exact .inl ⟨⟨xs,q,Nat.le_refl _⟩,hd ys H p⟩
theorem for_enum {K:PySem.W.Frag} {a:Addr} {xs:List V} {g:TG} {tb:TS} {D:Ends} {σ : St} {H:Hp} (Pv:Nat->St->Hp->Prop) (h0:Pv 0 σ H) (hl:∀ i σ H,i<=xs.length->Pv i σ H->SqL K H a xs)
  (hs:∀ i x p σ H,xs[i]? = some x->Pv i σ H->H p = none->g (.ref p) σ (upd H p (.tup [.int i,x])) fun σ2 H2=>tb { D with nx:=Pv (i + 1),ct:=Pv (i + 1),bk:=D.nx } σ2 H2) (hd:∀ σ H,Pv xs.length σ H->D.nx σ H) :
  ∃ W:Nat->Nat->St->Hp->Prop,(∃ m,W 0 m σ H)/\∀ i m σ H,W i m σ H->
   ((Ite K a).stop i H/\D.nx σ H)\/((Ite K a).go i H/\∃ N:St->Hp->Prop,(∀ σ' H',N σ' H'->∃ m',m' < m/\W (i + 1) m' σ' H')/\∀ x H',(Ite K a).yld i H x H'->g x σ H' fun σ2 H2=>tb { D with nx:=N,ct:=N,bk:=D.nx } σ2 H2):=by
 refine ⟨fun i m σ H=>m = xs.length - i/\i<=xs.length/\Pv i σ H,⟨xs.length,by simp,Nat.zero_le _,h0⟩,?_⟩
 rintro i m σ H ⟨rfl,hi,p⟩
 have q:=hl i σ H hi p
 by_cases hlt:i < xs.length
 ·refine .inr ⟨⟨xs,xs[i],q,by simp [hlt]⟩,Pv (i + 1),fun σ' H' p'=>⟨xs.length - (i + 1),by omega,rfl,hlt,p'⟩,fun x H' y=>?_⟩
  obtain ⟨pp,y,rfl,hp,y2,rfl⟩:=y
  exact hs i y pp σ H (y2 xs q) p hp
 ·have e:i = xs.length:=by omega
  subst e
  exact .inl ⟨⟨xs,q,Nat.le_refl _⟩,hd σ H p⟩
theorem call_isinstT {X:Cx}:CallR X (.builtin "isinstance") (fun xs H Q=>∃ a ys T b,xs = [.ref a,.ty T]/\SqT X.K H a ys/\PySem.W.kitOne X.K (.type "tuple") (.type T) = some b/\Q (.bl b) H):=by
 intro pins s σ H xs us Q I r h
 obtain ⟨a,ys,T,b,rfl,hS,e,q⟩:=h
 obtain ⟨u,w',rfl,ru,rw'⟩:=vals2 r
 cases rw'
 cases ru
 obtain ⟨its,r,⟨o,h1,h2,_⟩,_⟩:=I.tuple hS
 exact PySem.W.kia_one PySem.W.kitx_tuple I.kIn ⟨o,h1,h2⟩ e (fun z=>nomatch z) fun tk=>⟨.bl b,H,I.tok tk,rfl,q⟩
structure Fly (P:Program) (w:World) (outer:List Env) (H:Hp) (s:Shared) (cls:Value) (H':Hp) (ea:Addr) (s':Shared):Prop where
 os:s'.os = s.os
 bare:AllBare s'.gens
 un:Un (frs outer) [] H H' s.heap s'.heap
 hok:HOk P w H' s'.heap
 nt:H' ea = none
 fly:∃ B a0,Heap.FlyingW B outer ea cls a0 s'.heap/\(∀ b u,H' b = some u->∃ o,B.get? b = some o)/\(∀ b o,s.heap.get? b = some o->H b = none->b ∉ frs outer->B.get? b = some o)/\
  ∀ b o,s.heap.get? b = some o->b ∉ frs outer->∃ o',B.get? b = some o'
abbrev CXe (P:Program) (w:World):CXT:=fun outer H s E e s'=>∃ ea cls H',e = .ref ea/\Fly P w outer H s cls H' ea s'/\E cls none H'
section
variable {X:Cx} {pins:List (Addr × Obj)} {σ : St} {H H':Hp} {s s':Shared} {ea:Addr} {cls:Value} {vs:List Value} {h':Heap} {M:Model} {E:Value->Shared->Prop}
theorem frs_stack (hstk:X.stack = X.env :: X.outer) (hfl:X.env.frame = some X.env.locals):frs X.stack = X.env.locals :: frs X.outer:=by
 rw [hstk]
 unfold frs
 rw [List.filterMap_cons,hfl]
theorem HOk.sameAt {P:Program} {w:World} {h h':Heap} (x:HOk P w H h) (k:∀ b u o,H b = some u->h.get? b = some o->h'.get? b = some o):HOk P w H h':=fun a o e=>
 (x a o e).stay (fun b u hb q=>by
  rcases hb with z | z
  ·exact k b o u (by rw [z]; exact e) q
  ·exact k b _ u z q) (fun _ q=>q) fun _ _ q=>q
theorem HOk.rec {P:Program} {w:World} {h:Heap} (x:HOk P w H h) {b:Addr} {u:HO} (e:H b = some u):∃ o,h.get? b = some o:=by
 have q:=x b u e
 cases u with
 | lst xs=>obtain ⟨_,_,_,_,e⟩:=q; exact ⟨_,e⟩
 | tup xs=>obtain ⟨_,_,_,o,e,_⟩:=q; exact ⟨_,e⟩
 | dK kvs=>obtain ⟨_,_,_,_,o,_,_,e,_⟩:=q; exact ⟨_,e⟩
 | dT kvs=>obtain ⟨_,_,_,_,o,_,_,e,_⟩:=q; exact ⟨_,e⟩
 | set S n=>obtain ⟨o,_,_,_,e,_⟩:=q; exact ⟨_,e⟩
 | ins C dx fs=>obtain ⟨_,_,_,e,_⟩:=q; exact ⟨_,e⟩
 | own y=>exact q
 | xd fs=>obtain ⟨_,⟨o,_,_,e,_⟩,_⟩:=q; exact ⟨_,e⟩
 | rng lo hi=>obtain ⟨_,_,_,e⟩:=q; exact ⟨_,e⟩
 | frz ob u=>obtain ⟨e,_⟩:=q; exact ⟨_,e⟩
 | tbl ps=>exact ⟨_,q⟩
 | met f y=>exact ⟨_,q⟩
 | ext φ=>exact q.2.1
theorem fly_made (I:Inv X pins σ H s) (hstk:X.stack = X.env :: X.outer) (hfl:X.env.frame = some X.env.locals) (hex:X.ex = []) (hx:Heap.MadeExcOf s.heap h' ea cls vs) :
  wpAny M X.A (leaving X.env (.ref ea)) (fun _ s''=>Fly X.prog X.w X.outer X.H₀ X.s₀ cls H ea s'') E { s with heap:=h' }:=by
 have fr:=frs_stack hstk hfl
 have fl:s.heap.FunFrames (PySem.W.hideAll s.heap (frs X.stack)) (X.env :: X.outer):=by
  have:=I.stack
  rw [hstk] at this
  refine PySem.W.funFrames_hide this fun env he b hb=>?_
  rw [hstk]
  exact List.mem_filterMap.mpr ⟨env,he,hb⟩
 have fr0:=I.ok.frames
 rw [hstk] at fr0
 have neL:∀ b o,X.s₀.heap.get? b = some o->b ≠ X.env.locals:=fun b o e=>Nat.ne_of_lt (Nat.lt_of_lt_of_le (Heap.lt_size e) I.ok.above)
 have noEx:∀ b:Addr,b ∉ X.ex:=fun b=>by rw [hex]; simp
 have inB:∀ b o,s.heap.get? b = some o->b ∉ frs X.stack->(PySem.W.hideAll s.heap (frs X.stack)).get? b = some o:=fun b o e n=>PySem.W.hideAll_get _ e n
 have trB:∀ b u,H b = some u->b ∉ frs X.stack:=fun b u e n=>by rw [I.stkFree b n] at e; cases e
 refine wpAny_leaves_madeW (base:=PySem.W.hideAll s.heap (frs X.stack)) fr0 hfl (fun b o q=>PySem.W.of_hideAll _ q) fl hx fun h2 t x1 x2 x3 x4=>?_
 have stay:∀ b o,s.heap.get? b = some o->b ∉ frs X.stack->h2.get? b = some o:=fun b o e n=>x1.1 b o (inB b o e n)
 have up:∀ b o,s.heap.get? b = some o->(∀ vs,o.data ≠ .fields vs)->∃ sl,h2.get? b = some { o with slots:=sl }:=fun b o e n=>x4 b o (hx.keeps b o e) n
 refine ⟨I.os,I.bare,⟨fun b o e n hb _=>?_,fun b o e n hb _=>?_,fun b o e n _=>I.base.free b o e n (noEx b),fun b o e _=>?_,I.base.tups,I.base.frzs,I.base.tbls⟩,I.hok.sameAt fun b u o e q=>stay b o q (trB b u e),?_,?_⟩
 ·refine stay b o (I.base.keep b o e n hb (noEx b)) ?_
  rw [fr]
  exact fun z=>(List.mem_cons.mp z).elim (neL b o e) hb
 ·obtain ⟨sl,e1⟩:=I.base.slot b o e n hb (noEx b)
  obtain ⟨_,o',ho',hd⟩:=I.funs.mem hb
  rw [e1] at ho'
  cases ho'
  obtain ⟨sl2,e2⟩:=up b _ e1 hd
  exact ⟨sl2,e2⟩
 ·obtain ⟨o1,e1⟩:=I.base.there b o e (noEx b)
  by_cases hb:b ∈ frs X.stack
  ·obtain ⟨_,o',ho',hd⟩:=I.stack.mem hb
   obtain ⟨sl2,e2⟩:=up b o' ho' hd
   exact ⟨_,e2⟩
  ·exact ⟨o1,stay b o1 e1 hb⟩
 ·cases q:H ea with
  | none=>rfl
  | some u=>
   obtain ⟨o,e⟩:=I.hok.rec q
   rw [hx.new] at e; cases e
 ·refine ⟨_,_,x1,fun b u e=>?_,fun b o e n hb=>?_,fun b o e hb=>?_⟩
  ·obtain ⟨o,q⟩:=I.hok.rec e
   exact ⟨o,inB b o q (trB b u e)⟩
  ·refine inB b o (I.base.keep b o e n hb (noEx b)) ?_
   rw [fr]
   exact fun z=>(List.mem_cons.mp z).elim (neL b o e) hb
  ·obtain ⟨o1,e1⟩:=I.base.there b o e (noEx b)
   refine ⟨o1,inB b o1 e1 ?_⟩
   rw [fr]
   exact fun z=>(List.mem_cons.mp z).elim (neL b o e) hb
theorem fly_on (I:Inv X pins σ H s) (hstk:X.stack = X.env :: X.outer) (hfl:X.env.frame = some X.env.locals) (hex:X.ex = []) (F:Fly X.prog X.w X.stack H s cls H' ea s') :
  wpAny M X.A (leaving X.env (.ref ea)) (fun _ s''=>Fly X.prog X.w X.outer X.H₀ X.s₀ cls H' ea s'') E s':=by
 have fr:=frs_stack hstk hfl
 have fr0:=I.ok.frames
 rw [hstk] at fr0
 obtain ⟨B,a0,fl,tr,old,olds⟩:=F.fly
 have neL:∀ b o,X.s₀.heap.get? b = some o->b ≠ X.env.locals:=fun b o e=>Nat.ne_of_lt (Nat.lt_of_lt_of_le (Heap.lt_size e) I.ok.above)
 have noEx:∀ b:Addr,b ∉ X.ex:=fun b=>by rw [hex]; simp
 have nst:∀ b o,X.s₀.heap.get? b = some o->b ∉ frs X.outer->b ∉ frs X.stack:=fun b o e hb=>by
  rw [fr]
  exact fun z=>(List.mem_cons.mp z).elim (neL b o e) hb
 have fl':=fl
 rw [hstk] at fl'
 refine wpAny_leaves_onW fr0 hfl fl' fun h2 x1 x2=>?_
 have oldB:∀ b o,X.s₀.heap.get? b = some o->X.H₀ b = none->b ∉ frs X.outer->B.get? b = some o:=fun b o e n hb=>
  old b o (I.base.keep b o e n hb (noEx b)) (I.base.free b o e n (noEx b)) (nst b o e hb)
 refine ⟨F.os.trans I.os,F.bare,⟨fun b o e n hb _=>x1.1 b o (oldB b o e n hb),fun b o e n hb _=>?_,fun b o e n _=>?_,fun b o e _=>?_,fun b xs e=>F.un.tups b xs (I.base.tups b xs e),fun b o u e=>F.un.frzs b o u (I.base.frzs b o u e),fun b ps e=>?_⟩,F.hok.sameAt fun b u o e q=>?_,F.nt,⟨B,a0,x1,tr,oldB,fun b o e hb=>?_⟩⟩
 ·obtain ⟨sl,e1⟩:=I.base.slot b o e n hb (noEx b)
  obtain ⟨sl1,e2⟩:=F.un.any e1 (I.base.free b o e n (noEx b)) (by simp)
  have hd:∀ vs,o.data ≠ .fields vs:=by
   obtain ⟨_,o',ho',hd⟩:=I.funs.mem hb
   rw [e1] at ho'
   cases ho'
   exact hd
  obtain ⟨sl2,e3⟩:=x2 b _ e2 hd
  exact ⟨sl2,e3⟩
 ·obtain ⟨o',e1⟩:=I.base.there b o e (noEx b)
  exact F.un.free b o' e1 (I.base.free b o e n (noEx b)) (by simp)
 ·obtain ⟨o1,e1⟩:=I.base.there b o e (noEx b)
  obtain ⟨o2,e2⟩:=F.un.there b o1 e1 (by simp)
  by_cases hb:b ∈ frs X.stack
  ·obtain ⟨_,o',ho',hd⟩:=fl.2.2.1.mem hb
   obtain ⟨sl2,e3⟩:=x2 b o' ho' hd
   exact ⟨_,e3⟩
  ·obtain ⟨o3,e3⟩:=olds b o1 e1 hb
   exact ⟨o3,x1.1 b o3 e3⟩
 ·obtain ⟨m1,e1⟩:=I.base.tbls b ps e
  obtain ⟨m2,e2⟩:=F.un.tbls b _ e1
  exact ⟨m1 ++ m2,by rw [e2,Array.append_assoc]⟩
 ·obtain ⟨o3,e3⟩:=tr b u e
  have e4:=fl.1 b o3 e3
  rw [q] at e4
  cases e4
  exact x1.1 b o e3
 ·obtain ⟨o1,e1⟩:=I.base.there b o e (noEx b)
  exact olds b o1 e1 (nst b o e hb)
end
def Raises (X:Cx) (E:XK):Prop:=∀ (pins:List (Addr × Obj)) (σ : St) (H:Hp) (s:Shared) (ea:Addr) (cls:Value) (vs:List Value) (h':Heap),Inv X pins σ H s->Heap.MadeExcOf s.heap h' ea cls vs->E cls none H->X.xe (.ref ea) { s with heap:=h' }
def tRaise (C:Addr) (E:XK) (t:TA):TS:=fun _ σ H=>t σ H fun vs H1=>vs.length<=sizeLine/\E (.ref C) none H1
section
variable {X:Cx} {E:XK} {x:Str} {C:Addr} {B Bn newId nid initId inN:String} {bm bmN:List Value} {np cpos pos:Pos} {e:Expr} {es:List Expr} {t:TA}
theorem ps_raise (hX:Raises X E) (O:OwnCls x C bm newId X.mg X.base) (Fn:ExcBaseFacts Bn newId inN bmN) (hBn:bm.contains (.type Bn) = true) (FB:ExcBaseFacts B nid initId bm) (hc:X.calm = true) (ha:PA X (e :: es) t)
  (hg:Gl X x:=by rfl) (hd:(x == ("__debug__" : Str)) = false:=by decide) (h1:isSt e = false:=by rfl) (h2:es.any isSt = false:=by rfl) :
  PS X (.Raise (some (.Call (.Name x np) (e :: es) [] cpos)) none pos) (tRaise C E t):=by
 refine ⟨?_⟩
 intro pins s σ H D I h
 obtain ⟨tl,N,nm,q,bs,hdct,sn,sub,ab,col,dd,k0,k1,k2,k3,k5,mN,hC,hN,hni,T⟩:=O.obj
 have hst:starEach (e :: es) X.env = (false,eval e X.env) :: starEach es X.env:=star_cons h1
 refine wpAny_Raise_call_subU (C:=C) (nm:=nm) (q:=q) (N:=N) (bs:=bs) (bm:=tl) (hdct:=hdct) (sn:=sn) (sub:=sub) (ab:=ab) (col:=col) (dd:=dd) (k0:=k0) (k1:=k1) (k2:=k2) (k3:=k3) (k5:=k5)
  Fn hBn FB (mN:=mN) (T.hasType FB.hasBase) (I.ok.hd hc) (by rw [hst]; show (false || (backTo cpos (starEach es X.env)).any (·.1)) = false; rw [star_any h2]; rfl) hni (ld_glob I hg O.bound ⟨rfl,?_⟩ hd)
 rw [hst]
 refine Calls.evalArgs_plain ?_
 have hA:=ha cpos pins s σ H _ I h
 rw [hst] at hA
 refine thn hA fun us s2 ⟨vs,H1,I1,r,hl,q1⟩=>⟨rfl,by rw [<- r.length]; exact hl,I1.bk _ _ hC,hN.keeps I1.bk,T.keeps I1.bk,fun h' ea hm=>?_⟩
 exact hX pins σ H1 s2 ea _ _ h' I1 hm q1
end
section
variable {P:Program} {w:World} {K:PySem.W.Frag} {mg:Str->Option Value} {base:Heap} {N:List Str} {qual:Str} {scope:Scope} {f:Addr} {cd:Value} {A:Around} {outer:List Env} {s:Shared} {H:Hp} {E E':XK}
theorem raises_cx:Raises (cxOf (CXe P w) P w K mg base N qual scope f cd A outer s H E) E:=fun pins σ H1 s1 ea cls vs h' I hm q=>by
 refine wpAny_mono (fly_made I rfl rfl rfl hm) (fun _ s2 F=>?_) fun _ _ z=>z
 exact ⟨ea,cls,H1,rfl,F,q⟩
theorem passE (hE:∀ c d H,E' c d H->E c d H):Passes (CXe P w) (cxOf (CXe P w) P w K mg base N qual scope f cd A outer s H E) E':=fun pins σ H1 s1 e s' I q=>by
 obtain ⟨ea,cls,H',rfl,F,q⟩:=q
 refine wpAny_mono (fly_on I rfl rfl rfl F) (fun _ s2 F2=>?_) fun _ _ z=>z
 exact ⟨ea,cls,H',rfl,F2,hE _ _ _ q⟩
theorem Fun.okE {x:Str} {st:Stmt} {fd:FuncData} {ps:List Str} {k:Nat} {sp:Sp} (F:Fun K x qual st f fd) (S:FnScope N ps (defScope st)) (len:∀ vs H Q E,sp vs H Q E->vs.length = ps.length)
  (hbody:∀ (cdv:Value) (A:Around) (outer:List Env) (s:Shared) (H:Hp) (vs:List V) (Q:VK) (E:XK),Room k (A.deeper (envOfC qual (defScope st) s.heap.objs.size f cdv))->sp vs H Q E->
   ∃ t,PSs (cxOf (CXe P w) P w K mg base N qual (defScope st) f cdv A outer s H E) (defBody st) t/\t { nx:=fun _ H'=>Q .non H',rt:=Q } (start N vs) H):FnOk P w K mg base (CXe P w) (k + 1) f fd ps sp:=by
 obtain ⟨oc,od,kV,doc,pm,an,cdv,ct,osl,rfl,lk,hcd⟩:=F.ex
 exact fn_of lk hcd S len fun A outer s H vs Q E hr hsp=>hbody cdv A outer s H vs Q E hr hsp
end
structure CalleeE (P:Program) (w:World) (K:PySem.W.Frag) (mg:Str->Option Value) (base:Heap) (k:Nat) (x:Str) (f:Addr) (fd:FuncData) (ps:List Str) (sp:Sp):Prop where
 ok:FnOk P w K mg base (CXe P w) k f fd ps sp
 mg:mg x = some (.ref f)
 kp:PySem.W.keepIn K (.ref f) = true
 bd:Binds K fd ps []
section
variable {X:Cx} {k:Nat} {f:Addr} {fd:FuncData} {ps:List Str} {sp:Sp} {E:XK} {x:Str} {p pos:Pos} {e:Expr} {es:List Expr} {t:TA}
theorem cE (c:CalleeE X.prog X.w X.K X.mg X.base k x f fd ps sp) (hp:Passes (CXe X.prog X.w) X E) (hr:Room k X.A) (ha:PA X (e :: es) t) (hg:Gl X x:=by rfl) (hdb:(x == ("__debug__" : Str)) = false:=by decide)
  (h1:isSt e = false:=by rfl) (h2:es.any isSt = false:=by rfl):PE X (.Call (.Name x p) (e :: es) [] pos) (tCall sp [] E t):=
 pe_call c.ok hr hg c.mg c.kp c.bd .nil hp ha hdb (star_cons h1) (star_any h2)
end
section
variable {X:Cx} {pins:List (Addr × Obj)} {σ : St} {H H':Hp} {s s':Shared} {ea a:Addr} {cls:Value} {o:HO} {h5:Heap}
end
section
variable {X:Cx} {pins:List (Addr × Obj)} {σ : St} {H:Hp} {s:Shared} {M:Model} {A:Around} {E:Value->Shared->Prop} {i:Nat} {n:Str} {pos:Pos}
end
section
variable {X:Cx} {pins:List (Addr × Obj)} {σ : St} {e:Expr} {es:List Expr} {te ta:TE} {t tr:TA} {E:XK} {x m:Str} {p pos apos:Pos} {k:Nat} {f C:Addr} {fd:FuncData} {ps:List Str} {sp:Sp} {o:Expr} {dvs:List V} {ds:List Value}
end
section
variable {X:Cx} {pins:List (Addr × Obj)} {σ : St} {H:Hp} {s:Shared} {ea:Addr}
variable {st b₀:Stmt} {suite:List Stmt} {c n:Str} {np hpos pos:Pos} {C:Addr} {i:Nat} {tb:XK->TS} {ts:TS} {ok:Value->Prop}
end
end L2
namespace L2
open PySem PySem.W PySem.Builtin PySem.Builtin.ObjectAttr PySem.Builtin.Getset_descriptor PySem.Spec PyProof.Rows
section
variable {prog:Program} {w:World} {A:Around} {E:Value->Shared->Prop} {s:Shared} {K:PySem.W.Frag} {x D:Addr}
end
end L2
namespace L2
open PySem PySem.Spec PyProof.Rows
section
variable {X:Cx}
theorem vals_refs:∀ {cs:List Addr} {us:List Value},Vals (cs.map V.ref) us->us = cs.map Value.ref
 | [],_,.nil=>rfl
 | c :: cs,_,.cons r t=>by
  cases r
  rw [vals_refs t]
  rfl
end
section
variable {P:Program} {w:World} {K:PySem.W.Frag} {mg:Str->Option Value} {base:Heap}
end
section
variable {X:Cx} {k:Nat} {f:Addr} {fd:FuncData} {ps:List Str} {sp:Sp} {x:Str} {p pos:Pos} {e:Expr} {es:List Expr} {t:TA}
end
abbrev revIt (n:Int):Obj:={ cls:=.type "range_iterator",data:=.fields #[rawInt (n - 1),rawInt n,rawInt (-1)] }
section
variable {prog:Program} {w:World} {A:Around} {E:Value->Shared->Prop} {s:Shared} {r:Addr} {n:Int} {t u v:Tok}
theorem rev_small (h0 : 0<=n) (h1:n < 2 ^ 62):(Builtin.Range.rangeFitsLong 0 && Builtin.Range.rangeFitsLong n && Builtin.Range.rangeFitsLong 1 && Builtin.Range.rangeFitsLong (-1) && Builtin.Range.rangeFitsLong (0 - 1) && Builtin.Range.rangeFitsLong (Builtin.Range.rangeSize 0 n 1)) = true:=by
 have e:Builtin.Range.rangeSize 0 n 1 = n:=by rw [rangeSize_one]; split <;> omega
 rw [e]
 have f:Builtin.Range.rangeFitsLong n = true:=by unfold Builtin.Range.rangeFitsLong; simp; omega
 rw [f]
 decide
theorem call_rev1 {Q:Value->Shared->Prop} (hr:IsRange s.heap r 0 n 1 t u v) (h0 : 0<=n) (h1:n < 2 ^ 62) (h:Q (.ref s.heap.objs.size) { s with heap:=s.heap.push (revIt n) }) :
  wpAny (model prog w) A (call (.builtin "range.__reversed__") [.ref r]) Q E s:=by
 have hT:s.TypeIs (.ref r) "range":=⟨_,hr,rfl⟩
 have e:Builtin.Range.rangeSize 0 n 1 = n:=by rw [rangeSize_one]; split <;> omega
 refine wpAny_call_entry F.slot_range_reversed hT F.entry_range_reversed ?_ (F.args_range_reversed_1 (.ref r))
 unfold Builtin.«range.__reversed__»
 refine wpAny_bind (wpAny_of_eq (a:=Value.ref r) (by rfl) ?_)
 have rf:∀ (Q':Int × Int × Int->Shared->Prop) (E':Value->Shared->Prop) (A':Around),Q' (0,n,1) s->wpAny (model prog w) A' (Builtin.Range.rangeFields (.ref r)) Q' E' s:=by
  intro Q' E' A' q
  unfold Builtin.Range.rangeFields
  refine wpAny_bind (wpAny_field hr rfl (x:=.int 0 t) rfl (wpAny_bind (wpAny_of_eq (a:=some (0:Int)) (by rfl) ?_)))
  refine wpAny_bind (wpAny_field hr rfl (x:=.int n u) rfl (wpAny_bind (wpAny_of_eq (a:=some n) (by rfl) ?_)))
  refine wpAny_bind (wpAny_field hr rfl (x:=.int 1 v) rfl (wpAny_bind (wpAny_of_eq (a:=some (1:Int)) (by rfl) ?_)))
  exact wpAny_pure q
 refine wpAny_bind (rf _ _ _ ?_)
 dsimp only
 rw [rev_small h0 h1]
 simp only [Bool.not_true,Bool.false_eq_true,if_false,if_true]
 rw [e]
 unfold newFields
 refine wpAny_bind (wpAny_newObj_type (wpAny_pure ⟨_,rfl,?_⟩))
 have e2:(0:Int) + (n - 1) * 1 = n - 1:=by omega
 rw [e2]
 exact h
theorem code_rev {Q:Value->Shared->Prop} (hr:IsRange s.heap r 0 n 1 t u v) (h0 : 0<=n) (h1:n < 2 ^ 62) (h:Q (.ref s.heap.objs.size) { s with heap:=s.heap.push (revIt n) }) :
  codeAny (model prog w) A (.call (.builtin "reversed.__new__") ⟨[.type "reversed",.ref r],[]⟩) (wants Q E) s:=by
 have hT:s.TypeIs (.ref r) "range":=⟨_,hr,rfl⟩
 refine codeAny_of_tree ?_
 show wpAny _ A.in1 (do checkBuiltinCall "reversed.__new__" ⟨[.type "reversed",.ref r],[]⟩; again (.builtin "reversed.__new__" ⟨[.type "reversed",.ref r],[]⟩)) _ _ s
 refine wpAny_bind (wpAny_of_eq (F.newCall_reversed_1 (.ref r)) (wpAny_pure ⟨plainId_quiet F.plain_reversed_new _,?_⟩))
 refine codeAny_builtin F.entry_reversed_new ?_
 rw [Around.under_plainId F.plain_reversed_new (⟨[.type "reversed",.ref r],[]⟩:Args)]
 unfold Builtin.«reversed.__new__»
 refine wpAny_bind (wpAny_of_eq (newClass_reversed (.ref r)) ?_)
 try dsimp only
 refine wpAny_bind (wpAny_of_eq (a:=Unit.unit) (by first | rfl | kernel_rfl) ?_)
 refine wpAny_bind (wpAny_of_eq (a:=Unit.unit) (by first | rfl | kernel_rfl) ?_)
 try dsimp only
 refine wpAny_bind (wpAny_specialOf hT F.slot_range_reversed.lookup ?_)
 try dsimp only
 refine wpAny_bind (wpAny_of_eq (F.slot_range_reversed.bind (.ref r)) ?_)
 try dsimp only
 have hn:¬ ((Value.builtin "range.__reversed__" == Value.none) = true):=Bool.false_ne_true
 first
 | rw [if_neg hn]
 | (show wpAny _ _ (if (Value.builtin "range.__reversed__" == Value.none) = true then _ else _) _ _ _; rw [if_neg hn])
 refine wpAny_bind (wpAny_rule ?_)
 have c1:∀ (Q':Value->Shared->Prop) (E':Value->Shared->Prop) (A':Around),Q' (.ref s.heap.objs.size) { s with heap:=s.heap.push (revIt n) }->wpAny (model prog w) A' (runValue (.call (.builtin "range.__reversed__") ⟨[.ref r],[]⟩)) Q' E' s:=fun Q' E' A' q=>call_rev1 hr h0 h1 q
 refine wpAny_bind (c1 _ _ _ ?_)
 first
 | exact wpAny_pure h
 | exact wpAny_bind (wpAny_pure (wpAny_pure h))
theorem sub_ri_rev:isSubtype (.type "range_iterator") (.type "reversed") = pure false:=by rw [isSubtype_type]; kernel_rfl
theorem call_rev {Q:Value->Shared->Prop} (hr:IsRange s.heap r 0 n 1 t u v) (h0 : 0<=n) (h1:n < 2 ^ 62) (h:Q (.ref s.heap.objs.size) { s with heap:=s.heap.push (revIt n) }) :
  wpAny (model prog w) A (call (.type "reversed") [.ref r]) Q E s:=by
 refine callType_other (U:="range_iterator") (Q₁:=fun obj s₁=>obj = .ref s.heap.objs.size/\s₁ = { s with heap:=s.heap.push (revIt n) }) (by decide +kernel) F.create_reversed ⟨_,_,F.mro_reversed⟩
  F.made_reversed sub_ri_rev (F.typeCall_reversed_1 (.ref r)) (code_rev hr h0 h1 ⟨rfl,rfl⟩) ?_
 rintro obj s₁ ⟨rfl,rfl⟩
 exact ⟨⟨_,Heap.get?_push_size _ rfl,rfl⟩,h⟩
end
theorem boot_rev:bootBuiltins "reversed" = some (.type "reversed"):=by decide +kernel
def Itrr (n:Nat):It:=⟨fun i _=>i < n,fun i H x H'=>H' = H/\x = .int ((n:Int) - 1 - i),fun i _=>n<=i⟩
theorem turn_rev {P:Program} {w:World} {K:PySem.W.Frag} {tg:Expr} (it:Addr) (n:Nat):Turn P w K tg (Itrr n) [it] it (fun i h=>IsRangeIter h it (((n:Int) - 1) + (i:Nat) * (-1)) ((n:Int) - (i:Nat)) (-1)) where
 mem:=by simp
 obj:=fun i h st b hb=>by
  have e:b = it:=by simpa using hb
  subst e
  exact ⟨_,st,fun v z=>by
   have z':Data.fields _ = Data.cell v:=z
   cases z'⟩
 keep:=fun i h h' st k=>k it (by simp) _ st
 item:=by
  intro X hP hw hK hc i pins s σ H E I hf st hg
  subst hP hw hK
  obtain ⟨f0,f1,f2,f3,f4,f5⟩:=hf it (by simp)
  have W:=Walks.range (prog:=X.prog) (w:=X.w) (I.ok.hd hc) it ((n:Int) - 1) (-1) n
  refine W.item i s _ _ hg st fun v h' tk hv st' kk=>?_
  obtain ⟨t,rfl⟩:=hv
  have I1:Inv X pins σ H { s with heap:=h',toks:=tk }:=I.turned (fun b o hb e=>kk b o (by simpa using hb) e) f0 f1 f3 f4 f5
  refine ⟨_,rfl,go_of (s:={ s with heap:=h',toks:=tk }) (n:="range_iterator") st' rfl rfl (by decide) ⟨.int ((n:Int) - 1 - i),H,I1,⟨t,?_⟩,⟨rfl,rfl⟩,st',fun b hb=>(hf b hb).1⟩⟩
  have e:(n:Int) - 1 + (i:Int) * -1 = (n:Int) - 1 - i:=by omega
  rw [e]
 done:=by
  intro X hP hw hK hc i pins s σ H E I hf st hg
  subst hP hw hK
  obtain ⟨f0,f1,f2,f3,f4,f5⟩:=hf it (by simp)
  exact wpAny_pyNext_range_end (I.ok.hd hc) st (by have:n<=i:=hg; omega) fun h' eb=>⟨rfl,I.turned (t':=s.toks) (fun b o hb e=>eb b o hb e) f0 f1 f3 f4 f5⟩
 self:=fun _ _ _ _ _ st h=>wpAny_pyIter_rangeiter st h
section
variable {X:Cx} {tg:Expr}
def iRev (ta:TA):TI:=fun σ H R=>ta σ H fun vs H1=>∃ j:Nat,vs = [.int j]/\(j:Int) < 2 ^ 62/\R (Itrr j) H1
theorem pi_rev {a:Expr} {ta:TA} {p p2 pos pos2:Pos} (hg:Gl X "range") (hm:X.mg "range" = none) (hg2:Gl X "reversed") (hm2:X.mg "reversed" = none) (ha:PA X [a] ta) (h1:isSt a = false:=by rfl) :
  PI X tg (.Call (.Name "reversed" p) [.Call (.Name "range" p2) [a] [] pos2] [] pos) (iRev ta):=by
 refine ⟨?_⟩
 intro pins s σ H R I h
 refine Call_ (ld_blt I hg2 hm2 boot_rev (PyProof.Rows.callWith_type1 ?_ (star_cons rfl) rfl))
 rw [star_cons (show isSt (.Call (.Name "range" p2) [a] [] pos2) = false from rfl)]
 show wpAny _ _ (spliced ((false,eval (.Call (.Name "range" p2) [a] [] pos2) X.env) :: backTo pos (starEach [] X.env))) _ _ s
 refine Calls.spliced_cons ?_
 refine Call_ (ld_blt I hg hm boot_range (PyProof.Rows.callWith_type1 (thn (ha pos2 pins s σ H _ I h) fun us s1 ⟨vs,H1,I1,r1,j,e,hj,q⟩=>?_) (star_cons h1) rfl))
 subst e
 cases r1 with
 | cons r rr=>
  cases rr
  obtain ⟨t,rfl⟩:=r
  refine call_range_1 (Calls.spliced_nil ?_)
  refine call_rev (IsRange.new ..) (by omega) hj ?_
  generalize hg1:s1.heap.push { cls:=.type "range",data:=.fields #[.int 0 s1.toks,.int j t,.int 1 (s1.toks + 1)] } = hh
  have k1:∀ b o,s1.heap.get? b = some o->hh.get? b = some o:=fun b o e=>by rw [<- hg1]; exact Heap.get?_push_of_some _ e
  have I2:Inv X pins σ H1 { s1 with heap:=hh,toks:=s1.toks + 1 + 1 }:=I1.kept k1
  have hit:IsRangeIter (hh.push (revIt j)) hh.objs.size ((j:Int) - 1) j (-1):=Heap.get?_push_size _ rfl
  refine wpAny_pyIter_rangeiter (s:={ s1 with heap:=hh.push (revIt j),toks:=s1.toks + 1 + 1 }) hit ?_
  have I3:Inv X pins σ H1 { s1 with heap:=hh.push (revIt j),toks:=s1.toks + 1 + 1 }:=I2.kept fun b o e=>Heap.get?_push_of_some _ e
  refine ⟨hh.objs.size,[hh.objs.size],_,_,H1,rfl,I3,turn_rev _ j,?_,fun b hb=>?_,q⟩
  ·show IsRangeIter _ _ (((j:Int) - 1) + ((0:Nat):Int) * (-1)) ((j:Int) - ((0:Nat):Int)) (-1)
   have e1:((j:Int) - 1) + ((0:Nat):Int) * (-1) = (j:Int) - 1:=by simp
   have e2:(j:Int) - ((0:Nat):Int) = j:=by simp
   rw [e1,e2]
   exact hit
  ·have e:b = hh.objs.size:=by simpa using hb
   subst e
   exact I2.fpOk (Nat.le_refl _) (I2.hok.fresh (Nat.le_refl _))
theorem for_rev {n:Nat} {g:TG} {tb:TS} {D:Ends} {σ : St} {H:Hp} (Pv:Nat->St->Hp->Prop) (h0:Pv 0 σ H)
  (hs:∀ i σ H,i < n->Pv i σ H->g (.int ((n:Int) - 1 - i)) σ H fun σ2 H2=>tb { D with nx:=Pv (i + 1),ct:=Pv (i + 1),bk:=D.nx } σ2 H2) (hd:∀ σ H,Pv n σ H->D.nx σ H) :
  ∃ W:Nat->Nat->St->Hp->Prop,(∃ m,W 0 m σ H)/\∀ i m σ H,W i m σ H->
   ((Itrr n).stop i H/\D.nx σ H)\/((Itrr n).go i H/\∃ N:St->Hp->Prop,(∀ σ' H',N σ' H'->∃ m',m' < m/\W (i + 1) m' σ' H')/\∀ x H',(Itrr n).yld i H x H'->g x σ H' fun σ2 H2=>tb { D with nx:=N,ct:=N,bk:=D.nx } σ2 H2):=by
 refine ⟨fun i m σ H=>m = n - i/\i<=n/\Pv i σ H,⟨n,by simp,Nat.zero_le _,h0⟩,?_⟩
 rintro i m σ H ⟨rfl,hi,p⟩
 by_cases hlt:i < n
 ·refine .inr ⟨hlt,Pv (i + 1),fun σ' H' p'=>⟨n - (i + 1),by omega,rfl,hlt,p'⟩,fun x H' y=>?_⟩
  obtain ⟨e,y⟩:=y
  subst e y
  exact hs i σ _ hlt p
 ·have e:i = n:=by omega
  subst e
  exact .inl ⟨Nat.le_refl _,hd σ H p⟩
end
section
variable {X:Cx} {o i:Expr} {to ti:TE} {pos tpos:Pos}
def rLen:R2:=fun x y H Q=>∃ (a c:Addr) (xs ys:List V),x = .ref a/\y = .ref c/\H a = some (.lst xs)/\H c = some (.lst ys)/\xs.length ≠ ys.length/\Q (.bl false) H
theorem op_eqLen (hu:X.A.units < cLine):OpR X (compareOp .Eq) rLen:=by
 intro pins s σ H x y v u Q I rx ry h
 obtain ⟨a,c,xs,ys,rfl,rfl,ha,hc,hn,q⟩:=h
 cases rx
 cases ry
 obtain ⟨its,r,pl,_⟩:=I.list (SqL.of ha)
 obtain ⟨its2,r2,pl2,_⟩:=I.list (SqL.of hc)
 have e1:=r.length
 have e2:=r2.length
 exact PySem.SeqAt.eq_list_lengthsAt pl.isList pl2.isList (by simp only [List.size_toArray,bne_iff_ne]; omega) hu ⟨.bl false,H,I,rfl,q⟩
end
section
variable {X:Cx} {pins:List (Addr × Obj)} {σ : St} {e:Expr} {te:TE} {pos p:Pos} {C:Addr} {x:Str}
end
theorem passF {P:Program} {w:World} {X:Cx}:Passes (CXe P w) X (fun _ _ _=>False):=fun pins σ H1 s1 e s' I q=>by
 obtain ⟨_,_,_,_,_,q⟩:=q
 exact q.elim
theorem same_after {H H1:Hp} {x dx:Addr} {o1 o2:HO} (hx:H x = none) (hd:H dx = none) (s:Same (upd (upd H dx (.own x)) x o1) H1):Same H (upd H1 x o2):=fun b u q=>by
 rw [upd_ne (ne_of_none q hx)]
 exact s _ _ (same_make0 hx hd b u q)
structure Ctor (P:Program) (w:World) (K:PySem.W.Frag) (mg:Str->Option Value) (base:Heap) (CX:CXT) (k:Nat) (x:Str) (C i:Addr) (fd:FuncData) (ps:List Str) (ds:List Value) (sp:Sp):Prop where
 mkr:Mk K C i
 ok:FnOk P w K mg base CX k i fd ps sp
 mg:mg x = some (.ref C)
 bd:Binds K fd ps ds
section
variable {X:Cx} {CX:CXT} {k:Nat} {C i f:Addr} {fd:FuncData} {ps ks:List Str} {sp:Sp} {E:XK} {x m:Str} {p pos apos:Pos} {e:Expr} {es:List Expr} {t tk:TA} {ds:List Value} {dvs:List V} {kws:List Keyword}
 {g:List Value->List Value->List Value} {gV:List V->List V->List V}
theorem cMk (c:Ctor X.prog X.w X.K X.mg X.base CX k x C i fd ps ds sp) (hd:Vals dvs ds) (hp:Passes CX X E) (hr:Room (k + 1) X.A) (ha:PA X (e :: es) t) (hg:Gl X x:=by rfl) (hdb:(x == ("__debug__" : Str)) = false:=by decide)
  (h1:isSt e = false:=by rfl) (h2:es.any isSt = false:=by rfl):PE X (.Call (.Name x p) (e :: es) [] pos) (tMake C sp dvs E t):=pe_make c.mkr c.ok hr hg c.mg c.bd hd hp ha hdb (star_cons h1) (star_any h2)
structure ClsFn (K:PySem.W.Frag) (C:Addr) (m:Str) (f:Addr):Prop where
 ga:PySem.W.specialIn K (.ref C) "__getattribute__" = some (some (.builtin "type.__getattribute__"))
 rd:PySem.W.readsIn K C (.type "type") = true
 fc:PySem.W.findCls K (.ref C) (.type "type") m = some (.val (.ref f))
 kp:PySem.W.keepIn K (.ref f) = true
theorem pe_cm {pl:Sem Bool} (B:ClsFn X.K C m f) (hm:X.mg x = some (.ref C)) (F:FnOk X.prog X.w X.K X.mg X.base CX k f fd ps sp) (hr:Room k X.A) (hb:Binds X.K fd ps []) (hx:Passes CX X E) (ha:PA X (e :: es) t) (hg:Gl X x:=by rfl)
  (hdb:(x == ("__debug__" : Str)) = false:=by decide) (h1:isSt e = false:=by rfl) (h2:es.any isSt = false:=by rfl)
  (ht:eval (.Call (.Attribute (.Name x p) m apos) (e :: es) [] pos) X.env = (do
   let ov <- eval (.Name x p) X.env
   standAt apos.atName
   let (f,first) <- holding [ov] (getMethod ov m pl)
   callWith pos f first (backTo pos (starEach (e :: es) X.env)) (backToKw pos (keywordEach [] X.env))):=by rfl) :
  PE X (.Call (.Attribute (.Name x p) m apos) (e :: es) [] pos) (tCall sp [] E t):=by
 refine ⟨?_⟩
 intro pins s σ H Q I h
 refine PySem.W.methodCall_KW (pl:=pl) (ld_glob I hg hm ?_ hdb) ht
 refine PySem.W.method_cls I.kIn B.ga (PySem.W.cls_value I.kIn B.rd B.fc rfl ?_)
 have It:=I.tok (s.toks + 1)
 refine PySem.W.callWith_K (first:=[]) (h₀:=X.base) I.ok.mod.kin B.kp (thn (ha pos pins _ σ H _ It h) fun us s2 ⟨vs,H2,I2,r,q2⟩=>⟨I2.kIn,?_⟩) (star_cons h1) (star_any h2)
 exact run_fn F hr hb .nil hx I2 r q2
end
theorem FunD.okE {P:Program} {w:World} {K:PySem.W.Frag} {mg:Str->Option Value} {base:Heap} {x qual:Str} {st:Stmt} {f:Addr} {fd:FuncData} {items:List Value} {N ps:List Str} {k:Nat} {sp:Sp} (F:FunD K x qual st f fd items) (S:FnScope N ps (defScope st)) (len:∀ vs H Q E,sp vs H Q E->vs.length = ps.length)
  (hbody:∀ (cdv:Value) (A:Around) (outer:List Env) (s:Shared) (H:Hp) (vs:List V) (Q:VK) (E:XK),Room k (A.deeper (envOfC qual (defScope st) s.heap.objs.size f cdv))->sp vs H Q E->
   ∃ t,PSs (cxOf (CXe P w) P w K mg base N qual (defScope st) f cdv A outer s H E) (defBody st) t/\t { nx:=fun _ H'=>Q .non H',rt:=Q } (start N vs) H):FnOk P w K mg base (CXe P w) (k + 1) f fd ps sp:=by
 obtain ⟨oc,od,T,kV,doc,pm,an,cdv,ct,osl,o,n,rfl,lk,hcd,_,_⟩:=F.ex
 exact fn_of lk hcd S len fun A outer s H vs Q E hr hsp=>hbody cdv A outer s H vs Q E hr hsp
theorem ps_dead {X:Cx} {st:Stmt}:PS X st (fun _ _ _=>False):=⟨fun _ _ _ _ _ _ h=>h.elim⟩
def SetT (P:Program) (w:World) (a:Addr) (S:Str->Bool) (n:Nat) (h:Heap):Prop:=h.SetOf (strKind P w) a S n
abbrev setO (P:Program) (w:World) (a:Addr) (S:Str->Bool) (n:Nat):HO:=.ext (SetT P w a S n)
theorem setO_ok {P:Program} {w:World} {H:Hp} {h:Heap} {a:Addr} {S:Str->Bool} {n:Nat} (e:h.SetOf (strKind P w) a S n):ObjOk P w H h a (setO P w a S n):=
 ⟨e,let ⟨o,_,_,_,h1,_⟩:=e; ⟨o,h1⟩,fun g1 g2 q k=>let ⟨o,es,ep,t,h1,c⟩:=q; ⟨o,es,ep,t,k o h1,c⟩⟩
section
variable {X:Cx}
theorem call_set0:CallR X (.type "set") (fun xs H Q=>xs = []/\∀ p,H p = none->Q (.ref p) (upd H p (setO X.prog X.w p (fun _=>false) 0))):=by
 intro pins s σ H xs us Q I r h
 obtain ⟨rfl,q⟩:=h
 cases r
 refine call_set_0 fun led=>?_
 have hf:H s.heap.objs.size = none:=I.hok.fresh (Nat.le_refl _)
 refine ⟨.ref s.heap.objs.size,_,I.laid (t':=s.toks) (fun b u e=>Heap.get?_push_of_some _ e) (Nat.le_refl _) (setO_ok ?_),rfl,q _ hf⟩
 exact (setObjOf_fresh led).setOf (Heap.get?_push_size _ rfl) (by decide)
theorem op_in_setT:OpR X (compareOp .In) (fun x y H Q=>∃ (a:Addr) (S:Str->Bool) (n:Nat) (z:Str),x = .str z/\y = .ref a/\H a = some (setO X.prog X.w a S n)/\Q (.bl (S z)) H):=by
 intro pins s σ H x y v u Q I rx ry h
 obtain ⟨a,S,n,z,rfl,rfl,e,q⟩:=h
 obtain ⟨t,rfl⟩:=rx
 cases ry
 have hS:s.heap.SetOf (strKind X.prog X.w) a S n:=(I.hok a _ e).1
 exact wpAny_inSet_of (strKind_is X.prog X.w z t) rfl hS ⟨.bl (S z),H,I.tok _,rfl,q⟩
def tSAdd (P:Program) (w:World) (to te:TE):TE:=fun σ H Q=>to σ H fun x H1=>∃ (a:Addr) (S:Str->Bool) (n:Nat),x = .ref a/\H1 a = some (setO P w a S n)/\te σ H1 fun y H2=>∃ (S:Str->Bool) (n:Nat) (z:Str),y = .str z/\H2 a = some (setO P w a S n)/\n + 1 < scanBound/\
 Q .non (upd H2 a (setO P w a (fun k=>S k || decide (k = z)) (if S z then n else n + 1)))
theorem pe_sadd {o e:Expr} {apos cpos:Pos} {to te:TE} (ho:PE X o to) (he:PE X e te) (m:M1 X o "add" apos e cpos):PE X (.Call (.Attribute o "add" apos) [e] [] cpos) (tSAdd X.prog X.w to te):=by
 refine ⟨?_⟩
 intro pins s σ H Q I h
 refine wpAny_Call_method m.base m.few m.line PySem.F.plainAttrs_set PySem.F.slot_set_add PySem.F.type_set_add (thn (ho pins s σ H _ I h) fun u s1 ⟨x,H1,I1,rx,a,S,n,ex,d,q1⟩=>?_)
 subst ex
 obtain rfl:u = Value.ref a:=rx
 have hS:s1.heap.SetOf (strKind X.prog X.w) a S n:=(I1.hok a _ d).1
 refine ⟨hS.typeIs,hS.noDict,?_⟩
 rw [m.trees]
 refine Calls.callWith_builtin rfl (Calls.evalArgs_plain (Calls.spliced_cons (thn (he pins s1 σ H1 _ I1 q1) fun iv s2 ⟨y,H2,I2,ry,S2,n2,z,ey,e2,hn,q2⟩=>Calls.spliced_nil ?_)))
 subst ey
 obtain ⟨t,rfl⟩:=ry
 have hS2:s2.heap.SetOf (strKind X.prog X.w) a S2 n2:=(I2.hok a _ e2).1
 refine call_set_add (strKind_is X.prog X.w z t) rfl hS2 hn fun h' hs hS3=>⟨.non,_,?_,rfl,q2⟩
 refine I2.write (x:=a) (e:=a) (by rw [e2]; exact True.intro) (.inl rfl) (fun b q hb z=>(hs.2 b hb).trans z) (let ⟨o,_,_,_,h1,_⟩:=hS3; ⟨o,h1⟩) (setO_ok hS3)
def tMethP (Cs:Addr->Prop) (m:Str) (sp:Sp) (E:XK) (ta:TE):TE:=fun σ H Q=>ta σ H fun x H1=>∃ a C dx fs,x = .ref a/\Cs C/\H1 a = some (.ins C dx fs)/\fs.lookup m = none/\sp [x] H1 Q E
theorem pe_methP {CX:CXT} {k:Nat} {f:Addr} {fd:FuncData} {ps:List Str} {sp:Sp} {E:XK} {m:Str} {pos apos:Pos} {o:Expr} {ta:TE} {Cs:Addr->Prop} {pl:Sem Bool} (he:PE X o ta) (hC:∀ C,Cs C->Cls X.K C/\Meth X.K C m f) (F:FnOk X.prog X.w X.K X.mg X.base CX k f fd ps sp) (hr:Room k X.A) (hb:Binds X.K fd ps []) (hx:Passes CX X E)
  (ht:eval (.Call (.Attribute o m apos) [] [] pos) X.env = (do
   let ov <- eval o X.env
   standAt apos.atName
   let (f,first) <- holding [ov] (getMethod ov m pl)
   callWith pos f first (backTo pos (starEach [] X.env)) (backToKw pos (keywordEach [] X.env))):=by rfl) :
  PE X (.Call (.Attribute o m apos) [] [] pos) (tMethP Cs m sp E ta):=by
 refine ⟨?_⟩
 intro pins s σ H Q I h
 refine PySem.W.methodCall_KW (pl:=pl) (thn (he pins s σ H _ I h) fun u s1 ⟨x,H1,I1,rx,a,C,dx,fs,ex,hc,ea,l,q⟩=>?_) ht
 subst ex
 obtain rfl:u = Value.ref a:=rx
 obtain ⟨c,hm⟩:=hC C hc
 refine getmeth_ok I1 ea c hm l ?_
 exact PySem.W.callWith_K0 (first:=[.ref a]) I1.kIn hm.kp (run_fn (us:=[.ref a]) (vs:=[.ref a]) F hr hb .nil hx I1 (.cons rfl .nil) q)
structure KTab (w:World) (K:PySem.W.Frag) (a:Addr) (f:Str->Option V):Prop where
 obj:∃ es n,K.lookup a = some ⟨.type "dict",none,.dict es n,#[]⟩/\PySem.W.KeysLit w.params es.toList
 vals:∀ x v,f x = some v->∃ u,PySem.W.nsIn K a x = some (some u)/\RelV v u
theorem pe_kget {e:Expr} {d:Str} {p pos:Pos} {a:Addr} {f:Str->Option V} {te:TE} (T:KTab X.w X.K a f) (hm:X.mg d = some (.ref a)) (he:PE X e te) (hg:Gl X d:=by rfl) (hs:NoSl e:=by first | exact fun _ _=>rfl | decide | rfl) (hdb:(d == ("__debug__" : Str)) = false:=by decide) :
  PE X (.Subscript (.Name d p) e pos) (fun σ H Q=>te σ H fun y H1=>∃ x v,y = .str x/\f x = some v/\Q v H1):=by
 refine ⟨?_⟩
 intro pins s σ H Q I h
 obtain ⟨es,n,hl,hk⟩:=T.obj
 refine subD_of PySem.F.slot_dict_getitem.lookup hs (ld_glob I hg hm (thn (he pins s σ H _ I h) fun iv s2 ⟨y,H2,I2,ry,x,v,ey,ef,q2⟩=>?_) hdb)
 subst ey
 obtain ⟨t,rfl⟩:=ry
 obtain ⟨u,eu,ru⟩:=T.vals x v ef
 have hmap:=PySem.W.mapOf_K (prog:=X.prog) (w:=X.w) I2.kIn hl hk
 exact ⟨hmap.typeIs,wpAny_getItem_of (strKind_is X.prog X.w x t) hmap (PySem.W.find_K hl eu) ⟨v,H2,I2.tok _,ru,q2⟩⟩
end
section
variable {X:Cx} {pins:List (Addr × Obj)} {σ : St} {H:Hp} {s:Shared} {sc:Scope} {fr Nc:List Str} {fp:List Addr} {C:Addr}
theorem comp_startO {caps:List (Option Nat)} {h':Heap} {D:Addr} {m:Str->Option Value} {t':Nat} {o0:HO} (I:Inv X pins σ H s) (B:BlockOk X.env sc fr) (hf:∀ b ∈ fp,FpOk X pins H b) (ho:∀ b ∈ fp,∃ o,s.heap.get? b = some o)
  (hC:s.heap.objs.size<=C) (hD:s.heap.objs.size<=D) (hDC:D ≠ C) (keep:∀ b o,s.heap.get? b = some o->h'.get? b = some o) (new:ObjOk X.prog X.w (upd H D o0) h' D o0) (hn:h'.Ns C m)
  (hcap:capChk X.N Nc caps X.env sc fr = true) (hlen:caps.length = Nc.length) :
  Inv (compCx X pins sc fr Nc fp s H C) [] (capS caps σ) (upd H D o0) { s with heap:=h',toks:=t' }:=by
 have hk:X.env.scope.kind = .function:=I.ok.kind
 have fresh:∀ a,s.heap.objs.size<=a->H a = none:=fun a ha=>I.hok.fresh ha
 refine ⟨comp_ok I B hf ho hC,rfl,I.bare,Un.laid keep hD (fresh D hD),⟨m,hn,fun i x v e1 e2 e3=>?_⟩,fun x c h=>?_,?_,fun x c h=>?_,fun p hp=>?_,?_,?_⟩
 ·
  have e2':(caps[i]?).map (fun o=>match o with | none=>none | some j=>(σ[j]?).join) = some (some v):=by
   have:(capS caps σ)[i]? = some (some v):=e2
   unfold capS at this
   rw [List.getElem?_map] at this
   exact this
  cases hc:caps[i]? with
  | none=>rw [hc] at e2'; cases e2'
  | some o=>
   rw [hc] at e2'
   cases o with
   | none=>simp at e2'
   | some j=>
    have e4:(σ[j]?).join = some v:=by simpa using e2'
    have e5 : σ[j]? = some (some v):=by
     cases q : σ[j]? with
     | none=>rw [q] at e4; cases e4
     | some w'=>rw [q] at e4; simp at e4; rw [e4]
    have e6:(Nc.zip caps)[i]? = some (x,some j):=by
     rw [List.getElem?_zip_eq_some]
     exact ⟨e1,hc⟩
    have e7:=List.all_eq_true.mp hcap _ (List.mem_of_getElem? e6)
    simp only [Bool.and_eq_true,beq_iff_eq,List.contains_iff_mem] at e7
    obtain ⟨⟨⟨a1,a2⟩,a3⟩,a4⟩:=e7
    obtain ⟨m0,hn0,hl0⟩:=I.loc
    obtain ⟨u,r,l⟩:=hl0 j x v a1 e5 (.inr (.inl a2))
    refine ⟨u,r,.inr ⟨.inl (relabel_free hk a3 a2),_,clB_in a4,?_⟩⟩
    rcases l with ⟨z,_⟩ | ⟨_,c,ec,hcell⟩
    ·rw [a2] at z; cases z
    ·have:(X.env.cells.lookup x).getD 0 = c:=by rw [ec]; rfl
     rw [this]
     exact hcell.keeps keep
 ·obtain ⟨v,hv⟩:=I.cell x c (B.sub h)
  exact ⟨v,hv.keeps keep⟩
 ·show upd H D o0 C = none
  rw [upd_ne (Ne.symm hDC)]; exact fresh C hC
 ·obtain ⟨v,hv⟩:=I.cell x c (B.sub h)
  have:c ≠ D:=fun z=>by have:=hv.lt; rw [z] at this; exact absurd (Nat.lt_of_lt_of_le this hD) (Nat.lt_irrefl _)
  rw [upd_ne this]; exact I.freeC x c (B.sub h)
 ·have hp':p ∈ X.pn ++ pins:=by simpa using hp
  obtain ⟨e,n,ne,nf,d⟩:=I.pin p hp'
  have hlt:=I.pin_lt hp'
  refine ⟨keep _ _ e,?_,?_,fun z=>?_,d⟩
  ·rw [upd_ne (fun z=>by rw [z] at hlt; exact absurd (Nat.lt_of_lt_of_le hlt hD) (Nat.lt_irrefl _))]; exact n
  ·intro z
   have z':p.1 = C:=z
   rw [z'] at hlt; exact absurd (Nat.lt_of_lt_of_le hlt hC) (Nat.lt_irrefl _)
  ·rcases List.mem_cons.mp (I.stkSub p.1 z) with q | q
   ·exact ne q
   ·exact nf q
 ·exact I.hok.laid keep hD new
 ·show (capS caps σ).length = Nc.length
  unfold capS
  rw [List.length_map,hlen]
end
section
variable {prog:Program} {w:World} {A:Around} {R:Result->Shared->Prop} {s:Shared}
theorem compLoop_anyD {kx vx target iter:Expr} {ifs:List Expr} {scope:Scope} {pos:Pos} {it:Value} {D:Addr} {env:Env} (I:Nat->Shared->Prop)
  (turn:∀ n s,I n s->wpAny (model prog w) A (pyNext it) (fun r s₁=>match r with
   | none=>R (.ok .next) s₁
   | some v=>wpAny (model prog w) A (letOwnedTupleGo target it v) (fun _ s₀=>wpAny (model prog w) A (assign target env v) (fun _ s₂=>
     wpAny (model prog w) A (forIn ifs true fun c r=>if r = true then do let ok <- isTrue c env (eval c env); pure (ForInStep.yield ok) else pure (ForInStep.yield r)) (fun ok s₃=>
      if ok = true then wpAny (model prog w) A (eval kx env) (fun kv s₄=>wpAny (model prog w) A (eval vx env) (fun vv s₅=>
       wpAny (model prog w) A (dictSet D kv vv) (fun _ s₆=>∃ m,m < n/\I m s₆) (fun _ _=>False) s₅) (fun _ _=>False) s₄) (fun _ _=>False) s₃
      else ∃ m,m < n/\I m s₃) (fun _ _=>False) s₂) (fun _ _=>False) s₀) (fun _ _=>False) s₁) (fun _ _=>False) s)
  (n:Nat) (h:I n s) :
  codeAny (model prog w) A (.compLoop (.DictComp kx vx [⟨target,iter,ifs,0⟩] scope pos) 0 it (.ref D) env) R s:=by
 refine codeAny_loop rfl I (fun n s hI=>?_) n h
 show wpAny _ A ((compTurn (.DictComp kx vx [⟨target,iter,ifs,0⟩] scope pos) 0 it (.ref D) env).onRaise (fun x=>do noteFrame x env; theTreesLotGoes x)) _ _ s
 refine wpAny_noted ?_
 rw [compTurn_dict]
 refine wpAny_bind (wpAny_standAt (wpAny_bind (wpAny_mono (turn n s hI) (fun r s₁ h₁=>?_) fun _ _ z=>z.elim)))
 cases r with
 | none=>exact wpAny_pure h₁
 | some v=>
  refine wpAny_bind (wpAny_mono h₁ (fun _ s₀ h₀=>?_) fun _ _ z=>z.elim)
  refine wpAny_bind (wpAny_mono h₀ (fun _ s₂ h₂=>wpAny_bind (wpAny_mono h₂ (fun ok s₃ h₃=>?_) fun _ _ z=>z.elim)) fun _ _ z=>z.elim)
  cases ok with
  | false=>exact wpAny_pure ⟨rfl,h₃⟩
  | true=>
   exact wpAny_bind (wpAny_bind (wpAny_mono h₃ (fun kv s₄ h₄=>wpAny_bind (wpAny_holding (wpAny_mono h₄ (fun vv s₅ h₅=>wpAny_bind (wpAny_standAt (wpAny_holding (wpAny_mono h₅ (fun _ s₆ h₆=>wpAny_pure ⟨rfl,h₆⟩) fun _ _ z=>z.elim)))) fun _ _ z=>z.elim))) fun _ _ z=>z.elim))
end
def DCr (J:It) (caps:List (Option Nat)) (g:TG) (tt:TT) (tk tv:TE) (σ : St) (H1:Hp) (Q:VK) (D:Addr):Prop:=
 ∃ W:Nat->Nat->List (Key × V)->Hp->Prop,(∃ m,W 0 m [] (upd H1 D (.dK [])))/\∀ i m ys H,W i m ys H->
  (J.stop i H/\Q (.ref D) H)\/
  (J.go i H/\∀ x H',J.yld i H x H'->g x (capS caps σ) H' fun σ2 H2=>tt σ2 H2 fun ok H3=>
   (ok = true->tk σ2 H3 fun y H4=>tv σ2 H4 fun v H5=>∃ k,y = kV k/\H5 D = some (.dK ys)/\ys.length < sizeLine/\∃ m',m' < m/\W (i + 1) m' (putK ys k v) (upd H5 D (.dK (putK ys k v))))/\
   (ok = false->∃ m',m' < m/\W (i + 1) m' ys H3))
def tDC (wi:TI) (caps:List (Option Nat)) (g:TG) (tt:TT) (tk tv:TE):TE:=fun σ H Q=>wi σ H fun J H1=>∀ D,H1 D = none->DCr J caps g tt tk tv σ H1 Q D
section
variable {X:Cx} {pins:List (Addr × Obj)} {σ : St} {s:Shared} {sc:Scope} {fr Nc:List Str} {caps:List (Option Nat)} {kx vx tg iter:Expr} {ifs:List Expr} {g:TG} {tt:TT} {tk tv:TE} {ow:List Nat} {pos pos2:Pos} {E:Value->Shared->Prop}
theorem sysLt {H:Hp} (I:Inv X pins σ H s):sysModules < s.heap.objs.size:=I.big
theorem comp_runD {H2:Hp} {it:Addr} {fp:List Addr} {tn:Nat->Heap->Prop} {J:It} {Q:VK} {RR:Value->Addr->Result->Shared->Prop}
  (hc:X.calm = true) (B:BlockOk X.env sc fr) (go:GOwn g ow) (how:(ow.all fun i=>caps[i]? == some none) = true) (hcap:capChk X.N Nc caps X.env sc fr = true) (hlen:caps.length = Nc.length)
  (hb:∀ (pins:List (Addr × Obj)) (fp:List Addr) (s:Shared) (H:Hp) (C:Addr),PG (compCx X pins sc fr Nc fp s H C) tg g/\PIf (compCx X pins sc fr Nc fp s H C) ifs tt/\PE (compCx X pins sc fr Nc fp s H C) kx tk/\PE (compCx X pins sc fr Nc fp s H C) vx tv)
  (I2:Inv X pins σ H2 s) (T:Turn X.prog X.w X.K tg J fp it tn) (st2:tn 0 s.heap) (f2:∀ b ∈ fp,FpOk X pins H2 b) (h:∀ D,H2 D = none->DCr J caps g tt tk tv σ H2 Q D)
  (fin:∀ (D C:Addr) (σ':St) (H':Hp) (s':Shared),Inv (compCx X pins sc fr Nc fp s H2 C) [] σ' H' s'->Q (.ref D) H'->RR (.ref D) C (.ok .next) s') :
  wpAny (model X.prog X.w) X.A newDict (fun acc s₃=>wpAny (model X.prog X.w) X.A (newFunctionEnv sc X.env.globals (clB X.env fr) [] X.env.qual none .none (some X.env)) (fun cenv s₄=>
   codeAny (model X.prog X.w) X.A (.compStart (.DictComp kx vx [⟨tg,iter,ifs,0⟩] sc pos) 0 (.ref it) acc { cenv with scope:=relabel sc X.env }) (RR acc cenv.locals) s₄) E s₃) E s:=by
 have hcell:∀ y ∈ sc.names,y.2 ≠ .cell:=fun y hy=>by
  have h3:=List.all_eq_true.mp B.names _ hy
  simp only [Bool.and_eq_true,bne_iff_ne,ne_eq] at h3
  exact h3.1.1
 refine wpAny_newObj_type (wpAny_newFunctionEnv hcell (by intro y hy; simp at hy) (fun h₁ hns₁ hsb₁=>?_) B.kind)
 dsimp only at hns₁ hsb₁ |-
 have hnew:(s.heap.push { cls:=.type "dict",dict:=none,data:=.dict #[] }).DictOf (mixKind X.prog X.w) s.heap.objs.size []:=Heap.DictOf.new s.heap
 generalize hH2:s.heap.push { cls:=.type "dict",dict:=none,data:=.dict #[] } = H3 at hns₁ hsb₁ hnew |-
 have hCs:H3.objs.size = s.heap.objs.size + 1:=by rw [<- hH2,Heap.size_push]
 have hDC:s.heap.objs.size ≠ H3.objs.size:=by rw [hCs]; exact Nat.ne_of_lt (Nat.lt_succ_self _)
 have hC:s.heap.objs.size<=H3.objs.size:=by rw [hCs]; exact Nat.le_succ _
 have old:∀ b o,s.heap.get? b = some o->h₁.get? b = some o:=fun b o e=>
  hsb₁.extBut b o (Nat.ne_of_lt (Nat.lt_of_lt_of_le (Heap.lt_size e) hC)) (Heap.get?_push_of_some _ (hH2 ▸ Heap.get?_push_of_some _ e))
 have hsm:sysModules < s.heap.objs.size:=sysLt I2
 have hD:h₁.DictOf (mixKind X.prog X.w) s.heap.objs.size []:=hnew.at fun o e=>hsb₁.extBut _ _ hDC (Heap.get?_push_of_some _ e)
 have hDo:∀ H',ObjOk X.prog X.w H' h₁ s.heap.objs.size (.dK []):=fun _=>⟨Nat.zero_le _,beq_eq_false_iff_ne.mpr (Ne.symm (Nat.ne_of_lt hsm)),[],.nil,hD⟩
 have ho:∀ b ∈ fp,∃ o,s.heap.get? b = some o:=fun b hb'=>let ⟨o,e,_⟩:=T.obj 0 _ st2 b hb'; ⟨o,e⟩
 have I4:∀ t',Inv (compCx X pins sc fr Nc fp s H2 H3.objs.size) [] (capS caps σ) (upd H2 s.heap.objs.size (.dK [])) { s with heap:=h₁,toks:=t' }:=fun t'=>
  comp_startO I2 B f2 ho hC (Nat.le_refl _) hDC old (hDo _) hns₁ hcap hlen
 have ok:=(I4 0).ok
 obtain ⟨hbg,hbt,hbk,hbv⟩:=hb pins fp s H2 H3.objs.size
 obtain ⟨W,⟨m0,w0⟩,turn⟩:=h s.heap.objs.size (I2.hok.fresh (Nat.le_refl _))
 have stat:∀ {H':Hp},(∀ b ∈ fp,H' b = none)->∀ b ∈ fp,FpOk (compCx X pins sc fr Nc fp s H2 H3.objs.size) [] H' b:=fun hn b hb'=>
  ⟨hn b hb',(ok.exf b hb').1,ok.exfs b hb',.inl hb',(ok.exf b hb').2,fun p hp=>(f2 b hb').2.2.2.2.2 p (by simpa using hp)⟩
 have hfp0:∀ b ∈ fp,upd H2 s.heap.objs.size (.dK []) b = none:=fun b hb'=>by
  obtain ⟨o,e⟩:=ho b hb'
  rw [upd_ne (Nat.ne_of_lt (Heap.lt_size e))]
  exact (f2 b hb').1
 have loop:∀ s₃:Shared,s₃ = { s with heap:=h₁,toks:=s.toks + ([]:List (Str × Value)).length }->
   codeAny (model X.prog X.w) X.A (.compLoop (.DictComp kx vx [⟨tg,iter,ifs,0⟩] sc pos) 0 (.ref it) (.ref s.heap.objs.size) (compEnvC sc (clB X.env fr) H3.objs.size X.env)) (RR (.ref s.heap.objs.size) H3.objs.size) s₃:=by
  rintro s₃ rfl
  refine compLoop_anyD (fun n s'=>∃ i σ' H' ys,Inv (compCx X pins sc fr Nc fp s H2 H3.objs.size) [] σ' H' s'/\tn i s'.heap/\(∀ b ∈ fp,H' b = none)/\W i n ys H'/\
   (∀ (k:Nat) (v:V),(capS caps σ)[k]? = some (some v)->σ'[k]? = some (some v))) ?_ m0
   ⟨0,_,_,[],I4 _,T.keep _ _ _ st2 (fun b _ o e=>old b o e),hfp0,w0,fun _ _ e=>e⟩
  rintro n s3 ⟨i,σ3,H4,ys,I3,st3,fr3,w3,wk3⟩
  have I3':Inv (compCx X pins sc fr Nc fp s H2 H3.objs.size) [] (capS caps σ) H4 s3:=I3.weak (by rw [I3.len]; exact (I4 0).len) wk3
  rcases turn i n ys H4 w3 with ⟨stop,qn⟩ | ⟨gg,step⟩
  ·refine thn (T.done (compCx X pins sc fr Nc fp s H2 H3.objs.size) rfl rfl rfl hc i [] s3 _ H4 (fun _ _=>False) I3' (stat fr3) st3 stop) fun r s4 ⟨hr,I4'⟩=>?_
   subst hr
   exact fin _ _ _ _ _ I4' qn
  ·refine thn (T.item (compCx X pins sc fr Nc fp s H2 H3.objs.size) rfl rfl rfl hc i [] s3 _ H4 (fun _ _=>False) I3' (stat fr3) st3 gg) fun r s4 ⟨u,hr,h4⟩=>?_
   subst hr
   refine thn h4 fun _ s5 ⟨x,H5,I5,r5,y5,st5,fr5⟩=>?_
   have I5':=I5.pinned (stat fr5) (T.obj _ _ st5)
   refine thn (hbg _ s5 _ H5 x u _ I5' r5 (go _ _ _ _ (step x H5 y5))) fun _ s6 ⟨σ6,H6,I6,q6,l6,k6⟩=>?_
   have wk6:∀ (k:Nat) (v:V),(capS caps σ)[k]? = some (some v)->σ6[k]? = some (some v):=fun k v e=>by
    rw [k6 k fun hk=>?_]
    ·exact e
    ·have h1:=List.all_eq_true.mp how k hk
     have h2:caps[k]? = some none:=by simpa using h1
     unfold capS at e
     rw [List.getElem?_map,h2] at e
     cases e
   refine thn (hbt _ s6 σ6 H6 _ I6 q6) fun ok s7 ⟨H7,I7,q7⟩=>?_
   have again:∀ {H8:Hp} {s8:Shared} {ys':List (Key × V)},Inv (compCx X pins sc fr Nc fp s H2 H3.objs.size) ([] ++ pinsAt fp s5.heap) σ6 H8 s8->(∃ m',m' < n/\W (i + 1) m' ys' H8)->
     ∃ m,m < n/\∃ i σ' H' ys,Inv (compCx X pins sc fr Nc fp s H2 H3.objs.size) [] σ' H' s8/\tn i s8.heap/\(∀ b ∈ fp,H' b = none)/\W i m ys H'/\(∀ (k:Nat) (v:V),(capS caps σ)[k]? = some (some v)->σ'[k]? = some (some v)):=fun {H8 s8 ys'} I8 ⟨m',hm,w8⟩=>by
    refine ⟨m',hm,i + 1,σ6,H8,ys',I8.unpinned,T.keep _ _ _ st5 fun b hb' o e=>(I8.pin (b,o) (List.mem_append_right _ (List.mem_append_right _ (mem_pinsAt hb' e)))).1,fun b hb'=>?_,w8,wk6⟩
    obtain ⟨o,e,d⟩:=T.obj _ _ st5 b hb'
    exact (I8.pin (b,o) (List.mem_append_right _ (List.mem_append_right _ (mem_pinsAt hb' e)))).2.1
   cases ok with
   | false=>
    rw [if_neg Bool.false_ne_true]
    exact again I7 (q7.2 rfl)
   | true=>
    rw [if_pos rfl]
    refine thn (hbk _ s7 σ6 H7 _ I7 (q7.1 rfl)) fun uk s8 ⟨y,H8,I8,r8,q8⟩=>?_
    refine thn (hbv _ s8 σ6 H8 _ I8 q8) fun uv s9 ⟨v,H9,I9,r9,k,ey,hD9,hz,q9⟩=>?_
    subst ey
    obtain ⟨z,hd,vs,rel,dd⟩:=dk_of I9.hok hD9
    have hzs:vs.length<=sizeLine:=by rw [<- rel.length]; exact z
    have hl:(putK ys k v).length<=sizeLine:=by have:=length_putK ys k v; omega
    refine wpAny_dictSet_pairs (hsz:=hzs) (kV_is r8) dd fun h' dd' hs=>?_
    have he:∃ q,h'.get? s.heap.objs.size = some q:=let ⟨q,_,_,hq,_⟩:=dd'; ⟨q,hq⟩
    exact again (d_write I9 (by rw [hD9]; exact True.intro) hs he (dk_new hl hd (rel.put k r9) dd')) q9
 exact codeAny_compStart_dict (loop _ rfl) (T.self _ 0 _ _ _ (T.keep _ _ _ st2 (fun b _ o e=>old b o e)) (loop _ rfl))
theorem pe_dc {wi:TI} (fr Nc:List Str) (caps:List (Option Nat)) (hc:X.calm = true) (B:BlockOk X.env sc fr) (hi:PI X tg iter wi) (go:GOwn g ow) (how:(ow.all fun i=>caps[i]? == some none) = true)
  (hcap:capChk X.N Nc caps X.env sc fr = true) (hlen:caps.length = Nc.length)
  (hb:∀ (pins:List (Addr × Obj)) (fp:List Addr) (s:Shared) (H:Hp) (C:Addr),PG (compCx X pins sc fr Nc fp s H C) tg g/\PIf (compCx X pins sc fr Nc fp s H C) ifs tt/\PE (compCx X pins sc fr Nc fp s H C) kx tk/\PE (compCx X pins sc fr Nc fp s H C) vx tv)
  (hs:∀ x,foldedSetIterable iter X.env x = pure x:=by intro _; rfl):PE X (.DictComp kx vx [⟨tg,iter,ifs,0⟩] sc pos) (tDC wi caps g tt tk tv):=by
 refine ⟨?_⟩
 intro pins s σ H Q I h
 rw [arm_eval_DictComp]
 refine wpAny_comprehension_free (use:=none) rfl hs B.clos B.kind B.loc (thn (hi pins s σ H _ I h) fun v s1 h1=>thn h1 fun itv s2 h2=>?_)
 obtain ⟨it,fp,tn,J,H2,e,I2,T,st2,f2,q⟩:=h2
 subst e
 refine comp_runD (RR:=fun acc C=>compPost (model X.prog X.w) X.A X.xe none (EP X pins σ Q) acc C) hc B go how hcap hlen hb I2 T st2 f2 q ?_
 intro D C σ' H' s' J' qq
 obtain ⟨m,hn,_⟩:=J'.loc
 exact ⟨m,hn,fun h' hs'=>⟨.ref D,H',comp_gone I2 J' (comp_back I2 f2 J') hs',rfl,qq⟩⟩
end
theorem Vals.rev {xs:List V} {us:List Value} (r:Vals xs us):Vals xs.reverse us.reverse:=by
 induction r with
 | nil=>exact .nil
 | cons h t ih=>
  rw [List.reverse_cons,List.reverse_cons]
  exact ih.append (.cons h .nil)
def eqT (xs ys:List V):Bool:=((List.range (min xs.length ys.length)).all fun j=>eqV (xs[j]?.getD .non) (ys[j]?.getD .non)) && xs.length == ys.length
end L2
namespace K54
open PySem L2 PyProof.Rows
def top (i:Nat):Stmt:=PySem.Challenge.pw_callbinds_k54_rooms.main.body.getD i (.Pass ⟨0,0,0,0⟩)
abbrev sPInit:Stmt:=inClass (top 43) 0
abbrev sFree:Stmt:=inClass (top 43) 1
abbrev sByPlace:Stmt:=inClass (top 43) 2
abbrev sByName:Stmt:=inClass (top 43) 3
abbrev sTakes:Stmt:=inClass (top 43) 4
abbrev sTold:Stmt:=inClass (top 43) 5
abbrev sSeat:Stmt:=inClass (top 44) 0
abbrev sBoth:Stmt:=inClass (top 45) 0
abbrev sTail:Stmt:=inClass (top 46) 0
abbrev sTag:Stmt:=inClass (top 47) 0
abbrev sBag:Stmt:=inClass (top 48) 0
abbrev sFInit:Stmt:=inClass (top 33) 0
abbrev sKeep:Stmt:=inClass (top 33) 1
abbrev sFPars:Stmt:=inClass (top 33) 2
abbrev sFBars:Stmt:=inClass (top 33) 3
abbrev sFPlaces:Stmt:=inClass (top 33) 4
abbrev sFTail:Stmt:=inClass (top 33) 5
abbrev sFBag:Stmt:=inClass (top 33) 6
abbrev sFNum:Stmt:=inClass (top 33) 7
abbrev sIs:Stmt:=top 27
abbrev sPof:Stmt:=top 49
abbrev sRMany:Stmt:=top 34
abbrev sROrder:Stmt:=top 35
abbrev sRBars:Stmt:=top 36
abbrev sRTwice:Stmt:=top 37
abbrev sNumW:Stmt:=top 38
abbrev sLaid:Stmt:=top 1
abbrev sMisfits:Stmt:=top 9
abbrev sFits:Stmt:=top 10
abbrev sShape:Stmt:=top 11
abbrev sFirsts:Stmt:=top 12
abbrev sMOf:Stmt:=top 13
abbrev sOvers:Stmt:=top 14
abbrev sUnw:Stmt:=top 15
abbrev sLack:Stmt:=top 16
abbrev sOneE:Stmt:=top 17
abbrev sFBoth:Stmt:=top 19
abbrev sRoom:Stmt:=top 21
abbrev sNever:Stmt:=top 22
abbrev sFewest:Stmt:=top 18
abbrev sMost:Stmt:=top 23
abbrev sCell:Stmt:=top 51
abbrev sIsInt:Stmt:=top 52
abbrev sMix:Stmt:=top 53
abbrev sPool:Stmt:=top 54
abbrev sForm:Stmt:=top 55
abbrev sLDbl:Stmt:=top 56
abbrev sLMade:Stmt:=top 57
abbrev sThing:Stmt:=top 58
abbrev sToldN:Stmt:=top 59
abbrev sFitting:Stmt:=top 60
abbrev sLNames:Stmt:=top 61
abbrev sIsRoom:Stmt:=top 62
abbrev sWithin:Stmt:=top 63
abbrev sEndless:Stmt:=top 64
abbrev sRight:Stmt:=top 65
abbrev sLaw:Stmt:=top 66
def low (c:Nat):Bool:=decide (97<=c) && decide (c<=122)
def nameB (z:Str):Bool:=decide (1<=z.length) && decide (z.length<=8) && z.cps.toList.all low
def nmV:V->Bool
 | .str z=>nameB z
 | _=>false
def OkS (z:Str):Prop:=z.length<=1000/\∀ c ∈ z.cps.toList,c < 128
def OkV (K:PySem.W.Frag) (H:Hp) (x:V):Prop:=(∃ z,x = .str z/\OkS z)\/(nmV x = false/\∃ t,TyOf K H x t/\PySem.W.kitOne K t (.type "str") = some false)
theorem nameB_iff {z:Str}:nameB z = true ↔ 1<=z.length/\z.length<=8/\∀ c ∈ z.cps.toList,97<=c/\c<=122:=by
 unfold nameB low
 simp only [Bool.and_eq_true,decide_eq_true_eq,List.all_eq_true]
 constructor
 ·rintro ⟨⟨a,b⟩,c⟩; exact ⟨a,b,c⟩
 ·rintro ⟨a,b,c⟩; exact ⟨⟨a,b⟩,c⟩
theorem nameB_long {z:Str} (h:z.length = 0\/9<=z.length):nameB z = false:=by
 cases e:nameB z with
 | false=>rfl
 | true=>
  have:=nameB_iff.mp e
  omega
theorem nameB_ok {z:Str} (h:nameB z = true):OkS z:=by
 obtain ⟨_,h2,h3⟩:=nameB_iff.mp h
 exact ⟨by omega,fun c hc=>by have:=h3 c hc; omega⟩
def letters:Str:="abcdefghijklmnopqrstuvwxyz"
theorem letters_in:∀ c:Nat,c < 128->(!(Builtin.Str.occurrences letters ⟨#[c]⟩ 0 letters.length 1).isEmpty) = low c:=by decide +kernel
theorem same_new {H:Hp} {p:Addr} (h:H p = none) (o:HO):Same H (upd H p o):=fun b u q=>by rw [upd_ne (ne_of_none q h)]; exact q
theorem tyOf_same {K:PySem.W.Frag} {H H':Hp} {x:V} {t:Value} (s:Same H H') (h:TyOf K H x t):TyOf K H' x t:=by
 cases h with
 | non=>exact .non
 | bl b=>exact .bl b
 | int i=>exact .int i
 | str z=>exact .str z
 | flt z=>exact .flt z
 | lst e=>exact .lst (s _ _ e)
 | frz e=>exact .frz (s _ _ e)
 | tup e=>exact .tup (s _ _ e)
 | dK e=>exact .dK (s _ _ e)
 | dT e=>exact .dT (s _ _ e)
 | ins e a b c d f=>exact .ins (s _ _ e) a b c d f
theorem OkV.same {K:PySem.W.Frag} {H H':Hp} {x:V} (s:Same H H') (h:OkV K H x):OkV K H' x:=by
 rcases h with h | ⟨h,t,ty,e⟩
 ·exact .inl h
 ·exact .inr ⟨h,t,tyOf_same s ty,e⟩
theorem nd1:([Str.ofString "sign"]:List Str).Nodup:=by decide +kernel
def spIs (K:PySem.W.Frag):Sp:=fun vs H Q _=>∃ x,vs = [x]/\OkV K H x/\∀ H',Same H H'->Q (.bl (nmV x)) H'
structure Txt1 (K:PySem.W.Frag) (mg:Str->Option Value):Prop where
 isi:mg "isinstance" = none
 str:mg "str" = none
 bool:mg "bool" = none
 len:mg "len" = none
 all:mg "all" = none
 range:mg "range" = none
 letters:∃ t,mg "LETTERS" = some (.str letters t)
 longest:∃ t,mg "LONGEST" = some (.int 8 t)
 kNon:PySem.W.kitOne K (.type "NoneType") (.type "str") = some false
 kInt:PySem.W.kitOne K (.type "int") (.type "str") = some false
 kBl:PySem.W.kitOne K (.type "bool") (.type "str") = some false
 kLst:PySem.W.kitOne K (.type "list") (.type "str") = some false
 kTup:PySem.W.kitOne K (.type "tuple") (.type "str") = some false
 kDct:PySem.W.kitOne K (.type "dict") (.type "str") = some false
 kStr:PySem.W.kitOne K (.type "str") (.type "str") = some true
 bBl:PySem.W.kitOne K (.type "bool") (.type "bool") = some true
section
variable {P:Program} {w:World} {K:PySem.W.Frag} {mg:Str->Option Value} {base:Heap} {f:Addr} {fd:FuncData}
theorem scIs:FnScope ["thing"] ["thing"] (defScope sIs):=⟨rfl,rfl,rfl,by decide +kernel,rfl,by decide +kernel,by decide +kernel⟩
theorem ok_is (F:Fun K "is_name" "is_name" sIs f fd) (T:Txt1 K mg):FnOk P w K mg base CX0 1 f fd ["thing"] (spIs K):=by
 refine F.ok scIs (fun vs H Q E h=>?_) (fun cdv A outer s H vs Q E hr h=>?_)
 ·obtain ⟨x,rfl,_⟩:=h
  rfl
 obtain ⟨x,rfl,hx,q⟩:=h
 obtain ⟨tL,hL⟩:=T.letters
 obtain ⟨tN,hN⟩:=T.longest
 refine ⟨_,pss_cons (ps_if (PW.pt (pw_or (pt_not (pt_val (cB call_isinst T.isi boot_isinstance (ac (pv 0) (ac (pe_bltn (v:=.ty "str") rfl T.str PyProof.Rows.boot_str rfl) pa_nil)))))
   (pw_or1 (pt_not (pt_chain op_le op_le pe_int (cB call_len_str T.len PySem.boot_len (ac (pv 0) pa_nil)) (pe_glob (v:=.int 8) rfl hN ⟨_,rfl⟩))))))
   (pss_one (ps_ret pe_bl)) pss_nil)
  (pss_one (ps_ret (cB (call_allB rfl) T.all boot_all (ac (pe_lc [] ["sign"] [none] rfl ⟨rfl,rfl,rfl,rfl⟩ (pi_str (pv 0)) (gown_name 0) rfl rfl rfl
   (fun pins fp s H C=>⟨pg_name (i:=0) nd1 rfl (Or.inl rfl) (.inr rfl),pif_nil,pe_cmpR op_in_str (pv 0) (pe_glob (v:=.str letters) rfl hL ⟨_,rfl⟩) (by with_unfolding_all rfl)⟩)) pa_nil)))),?_⟩
 rcases hx with ⟨z,rfl,hz1,hz2⟩ | ⟨hn,t,ty,e⟩
 ·refine ⟨_,rfl,_,_,_,_,rfl,.str z,T.kStr,_,rfl,?_⟩
  refine iteF ?_
  refine ⟨_,rfl,z,rfl,Nat.le_trans hz1 (by decide),_,_,rfl,rfl,_,rfl,?_⟩
  have no:nameB z = false->Q (.bl false) H:=fun e=>by
   have:=q H (Same.refl H)
   have e':nmV (.str z) = false:=e
   rw [e'] at this
   exact this
  refine ite2 (fun c=>?_) (fun c=>?_)
  ·have c':(1:Int)<=(z.length:Int):=of_decide_eq_true c
   refine ⟨_,_,rfl,rfl,_,rfl,?_⟩
   by_cases h8:(z.length:Int)<=8
   ·rw [decide_eq_true h8]
    refine iteF ?_
    refine ⟨_,rfl,z,rfl,fun D hD=>?_⟩
    refine ⟨fun i m ys H'=>i<=z.cps.size/\m = z.cps.size - i/\ys = (z.cps.toList.take i).map (fun c=>V.bl (low c))/\H' = upd H D (.lst ys),⟨_,Nat.zero_le _,rfl,rfl,rfl⟩,?_⟩
    rintro i m ys H' ⟨hi,rfl,rfl,rfl⟩
    by_cases he:i = z.cps.size
    ·subst he
     refine .inl ⟨Nat.le_refl _,?_⟩
     refine ⟨D,z.cps.toList.map low,rfl,SqL.of ?_,?_⟩
     ·rw [upd_same,List.take_of_length_le (by simp),List.map_map]
      rfl
     ·have e:(z.cps.toList.map low).all id = nmV (.str z):=by
       show _ = nameB z
       unfold nameB
       rw [decide_eq_true (show 1<=z.length by omega),decide_eq_true (show z.length<=8 by omega),List.all_map]
       rfl
      rw [e]
      exact q _ (same_new hD _)
    ·refine .inr ⟨by show i < z.cps.size; omega,?_⟩
     rintro x H' ⟨rfl,c,hc,rfl⟩
     refine ⟨fun _=>?_,fun e=>Bool.noConfusion e⟩
     refine ⟨_,rfl,_,_,rfl,rfl,upd_same,?_,z.cps.size - (i + 1),by omega,by omega,rfl,?_,?_⟩
     ·rw [List.length_map,List.length_take]
      have:z.cps.size<=1000:=hz1
      exact small1000 (by omega)
     ·have hc':z.cps.toList[i]? = some c:=by simpa using hc
      have hlow:=letters_in c (hz2 c (List.mem_of_getElem? hc'))
      rw [hlow,List.take_add_one,hc',List.map_append]
      rfl
     ·rw [upd_upd]
   ·rw [decide_eq_false h8]
    refine iteT ?_
    exact no (nameB_long (.inr (by omega)))
  ·have c':¬ (1:Int)<=(z.length:Int):=of_decide_eq_false (Bool.eq_false_iff.mpr c)
   refine ⟨_,rfl,?_⟩
   exact iteT (no (nameB_long (.inl (by omega))))
 ·refine ⟨_,rfl,_,_,_,_,rfl,ty,e,_,rfl,?_⟩
  refine iteT ?_
  refine iteT ?_
  have:=q H (Same.refl H)
  rw [hn] at this
  exact this
end
abbrev EB:List Value:=[.type "ValueError",.type "Exception",.type "BaseException",.type "object"]
theorem dT {A B:Prop} {c:Prop} [Decidable c] (h:c) (a:A):if decide c = true then A else B:=by rw [decide_eq_true h]; exact iteT a
theorem dF {A B:Prop} {c:Prop} [Decidable c] (h:¬ c) (b:B):if decide c = true then A else B:=by rw [decide_eq_false h]; exact iteF b
def kw:Nat->Str
 | 0=>"seat" | 1=>"both" | 2=>"tail" | 3=>"tag" | _=>"bag"
def rowV (k:Nat) (x:V) (b:Bool):List V:=match k with
 | 0=>[.str "seat",x,.bl b] | 1=>[.str "both",x,.bl b] | 2=>[.str "tail",x] | 3=>[.str "tag",x,.bl b] | _=>[.str "bag",x]
def fr (k:Nat) (b:Bool):Bool:=match k with
 | 0=>b | 1=>b | 2=>true | 3=>b | _=>true
theorem lt5 {k:Nat} (h:k < 5):k = 0\/k = 1\/k = 2\/k = 3\/k = 4:=by omega
def pf (wd:Str) (x:V) (b:Bool):List (Str × V):=putF "may_lack" (.bl b) (putF "name" x (putF "word" (.str wd) []))
theorem pf_word {wd:Str} {x:V} {b:Bool}:(pf wd x b).lookup ("word" : Str) = some (.str wd):=by
 unfold pf
 rw [lookup_putF,if_neg (by decide +kernel),lookup_putF,if_neg (by decide +kernel),lookup_putF,if_pos rfl]
theorem pf_name {wd:Str} {x:V} {b:Bool}:(pf wd x b).lookup ("name" : Str) = some x:=by
 unfold pf
 rw [lookup_putF,if_neg (by decide +kernel),lookup_putF,if_pos rfl]
theorem pf_lack {wd:Str} {x:V} {b:Bool}:(pf wd x b).lookup ("may_lack" : Str) = some (.bl b):=by
 unfold pf
 rw [lookup_putF,if_pos rfl]
theorem pf_no {wd:Str} {x:V} {b:Bool} {m:Str} (h1:¬ m = "may_lack") (h2:¬ m = "name") (h3:¬ m = "word"):(pf wd x b).lookup m = none:=by
 unfold pf
 rw [lookup_putF,if_neg h1,lookup_putF,if_neg h2,lookup_putF,if_neg h3]
 rfl
structure MA where
 (fF fP fB fT fO:Addr)
structure PC (K:PySem.W.Frag) (m:MA) (C:Addr):Prop where
 cl:Cls K C
 nW:NoAttr K C "word"
 nN:NoAttr K C "name"
 nM:NoAttr K C "may_lack"
 mF:Meth K C "free" m.fF
 mP:Meth K C "by_place" m.fP
 mB:Meth K C "by_name" m.fB
 mT:Meth K C "takes_one" m.fT
 mO:Meth K C "told" m.fO
def spP (K:PySem.W.Frag) (m:MA) (N:Addr):Sp:=fun vs H Q E=>∃ (p dx C:Addr) (wd:Str) (x:V) (b:Bool),vs = [.ref p,.str wd,x,.bl b]/\H p = some (.ins C dx [])/\PC K m C/\OkV K H x/\(nmV x = true->∀ H1,Same H H1->Q .non (upd H1 p (.ins C dx (pf wd x b))))/\(nmV x = false->∀ H1,Same H H1->E (.ref N) none H1)
def spS (K:PySem.W.Frag) (C N:Addr) (wd:Str):Sp:=fun vs H Q E=>∃ (p dx:Addr) (x:V) (b:Bool),vs = [.ref p,x,.bl b]/\H p = some (.ins C dx [])/\OkV K H x/\(nmV x = true->∀ H1,Same H H1->Q .non (upd H1 p (.ins C dx (pf wd x b))))/\(nmV x = false->∀ H1,Same H H1->E (.ref N) none H1)
def spT (K:PySem.W.Frag) (C N:Addr) (wd:Str):Sp:=fun vs H Q E=>∃ (p dx:Addr) (x:V),vs = [.ref p,x]/\H p = some (.ins C dx [])/\OkV K H x/\(nmV x = true->∀ H1,Same H H1->Q .non (upd H1 p (.ins C dx (pf wd x true))))/\(nmV x = false->∀ H1,Same H H1->E (.ref N) none H1)
def bpL:List V:=[.str "seat",.str "both"]
def bnL:List V:=[.str "both",.str "tag"]
def otL:List V:=[.str "seat",.str "both",.str "tag"]
def spFree (K:PySem.W.Frag) (m:MA):Sp:=fun vs H Q _=>∃ (p dx C:Addr) (wd:Str) (x:V) (b:Bool),vs = [.ref p]/\PC K m C/\H p = some (.ins C dx (pf wd x b))/\Q (.bl b) H
def spIn (K:PySem.W.Frag) (m:MA) (l:List V):Sp:=fun vs H Q _=>∃ (p dx C:Addr) (wd:Str) (x:V) (b:Bool),vs = [.ref p]/\PC K m C/\H p = some (.ins C dx (pf wd x b))/\Q (.bl (inV (.str wd) l)) H
structure Wds (K:PySem.W.Frag) (mg:Str->Option Value) (tP tB tO:Addr):Prop where
 mP:mg "BY_PLACE" = some (.ref tP)
 mB:mg "BY_NAME" = some (.ref tB)
 mO:mg "OF_ONE_THING" = some (.ref tO)
 hP:∀ H,SqT K H tP bpL
 hB:∀ H,SqT K H tB bnL
 hO:∀ H,SqT K H tO otL
section
variable {P:Program} {w:World} {K:PySem.W.Frag} {mg:Str->Option Value} {base:Heap} {f C N tP tB tO:Addr} {fd:FuncData} {m:MA}
theorem scPInit:FnScope ["self","word","name","may_lack"] ["self","word","name","may_lack"] (defScope sPInit):=⟨rfl,rfl,rfl,by decide +kernel,rfl,by decide +kernel,by decide +kernel⟩
theorem ok_pinit {g:Addr} {gd:FuncData} (F:Fun K "__init__" "Parameter.__init__" sPInit f fd) (own:OwnCls "NoName" N EB "ValueError.__new__" mg base) (cI:Callee P w K mg base 1 "is_name" g gd ["thing"] (spIs K)) :
  FnOk P w K mg base (CXe P w) 2 f fd ["self","word","name","may_lack"] (spP K m N):=by
 refine F.okE scPInit (fun vs H Q E h=>?_) (fun cdv A outer s H vs Q E hr h=>?_)
 ·obtain ⟨p,dx,C,wd,x,b,rfl,_⟩:=h
  rfl
 obtain ⟨p,dx,C,wd,x,b,rfl,hp,c,hx,q1,q2⟩:=h
 refine ⟨_,pss_cons (ps_if (pt_not (pt_val (cF cI hr (ac (pv 2) pa_nil)))) (pss_one (ps_raise raises_cx own PySem.F.excBase_ValueError (by decide) PySem.F.excBase_ValueError rfl (ac pe_str pa_nil))) pss_nil)
  (pss_cons (ps_fld (pv 0) (pv 1) rfl) (pss_cons (ps_fld (pv 0) (pv 2) rfl) (pss_one (ps_fld (pv 0) (pv 3) rfl)))),?_⟩
 refine ⟨_,rfl,x,rfl,hx,fun H1 s1=>⟨_,rfl,?_⟩⟩
 cases e:nmV x with
 | false=>
  refine iteT ?_
  exact ⟨by show 1<=sizeLine; decide,q2 e _ s1⟩
 | true=>
  refine iteF ?_
  refine ⟨_,rfl,_,rfl,p,C,dx,[],rfl,s1 _ _ hp,c.cl,c.nW,(by show 0 < 1000; decide),?_⟩
  refine ⟨_,rfl,_,rfl,p,C,dx,_,rfl,upd_same,c.cl,c.nN,(by show 1 < 1000; decide),?_⟩
  refine ⟨_,rfl,_,rfl,p,C,dx,_,rfl,upd_same,c.cl,c.nM,(by show 2 < 1000; decide),?_⟩
  rw [upd_upd,upd_upd]
  exact q1 e _ s1
theorem scSeat:FnScope ["self","name","free"] ["self","name","free"] (defScope sSeat):=⟨rfl,rfl,rfl,by decide +kernel,rfl,by decide +kernel,by decide +kernel⟩
theorem ok_seat {g D:Addr} {gd:FuncData} {ds:List Value} (F:FunD K "__init__" "Seat.__init__" sSeat f fd ds) (c:PC K m C) (B:ClsFn K D "__init__" g) (mD:mg "Parameter" = some (.ref D)) (G:FnOk P w K mg base (CXe P w) 2 g gd ["self","word","name","may_lack"] (spP K m N)) (bg:Binds K gd ["self","word","name","may_lack"] []) :
  FnOk P w K mg base (CXe P w) 3 f fd ["self","name","free"] (spS K C N "seat"):=by
 refine F.okE scSeat (fun vs H Q E h=>?_) (fun cdv A outer s H vs Q E hr h=>?_)
 ·obtain ⟨p,dx,x,b,rfl,_⟩:=h
  rfl
 obtain ⟨p,dx,x,b,rfl,hp,hx,q1,q2⟩:=h
 refine ⟨_,pss_one (ps_expr (pe_cm B mD G hr bg (passE fun _ _ _ z=>z) (ac (pv 0) (ac pe_str (ac (pv 1) (ac (pv 2) pa_nil)))))),?_⟩
 exact ⟨_,rfl,_,rfl,_,rfl,p,dx,C,_,x,b,rfl,hp,c,hx,q1,q2⟩
theorem scBoth:FnScope ["self","name","free"] ["self","name","free"] (defScope sBoth):=⟨rfl,rfl,rfl,by decide +kernel,rfl,by decide +kernel,by decide +kernel⟩
theorem ok_both {g D:Addr} {gd:FuncData} {ds:List Value} (F:FunD K "__init__" "Both.__init__" sBoth f fd ds) (c:PC K m C) (B:ClsFn K D "__init__" g) (mD:mg "Parameter" = some (.ref D)) (G:FnOk P w K mg base (CXe P w) 2 g gd ["self","word","name","may_lack"] (spP K m N)) (bg:Binds K gd ["self","word","name","may_lack"] []) :
  FnOk P w K mg base (CXe P w) 3 f fd ["self","name","free"] (spS K C N "both"):=by
 refine F.okE scBoth (fun vs H Q E h=>?_) (fun cdv A outer s H vs Q E hr h=>?_)
 ·obtain ⟨p,dx,x,b,rfl,_⟩:=h
  rfl
 obtain ⟨p,dx,x,b,rfl,hp,hx,q1,q2⟩:=h
 refine ⟨_,pss_one (ps_expr (pe_cm B mD G hr bg (passE fun _ _ _ z=>z) (ac (pv 0) (ac pe_str (ac (pv 1) (ac (pv 2) pa_nil)))))),?_⟩
 exact ⟨_,rfl,_,rfl,_,rfl,p,dx,C,_,x,b,rfl,hp,c,hx,q1,q2⟩
theorem scTag:FnScope ["self","name","free"] ["self","name","free"] (defScope sTag):=⟨rfl,rfl,rfl,by decide +kernel,rfl,by decide +kernel,by decide +kernel⟩
theorem ok_tag {g D:Addr} {gd:FuncData} {ds:List Value} (F:FunD K "__init__" "Tag.__init__" sTag f fd ds) (c:PC K m C) (B:ClsFn K D "__init__" g) (mD:mg "Parameter" = some (.ref D)) (G:FnOk P w K mg base (CXe P w) 2 g gd ["self","word","name","may_lack"] (spP K m N)) (bg:Binds K gd ["self","word","name","may_lack"] []) :
  FnOk P w K mg base (CXe P w) 3 f fd ["self","name","free"] (spS K C N "tag"):=by
 refine F.okE scTag (fun vs H Q E h=>?_) (fun cdv A outer s H vs Q E hr h=>?_)
 ·obtain ⟨p,dx,x,b,rfl,_⟩:=h
  rfl
 obtain ⟨p,dx,x,b,rfl,hp,hx,q1,q2⟩:=h
 refine ⟨_,pss_one (ps_expr (pe_cm B mD G hr bg (passE fun _ _ _ z=>z) (ac (pv 0) (ac pe_str (ac (pv 1) (ac (pv 2) pa_nil)))))),?_⟩
 exact ⟨_,rfl,_,rfl,_,rfl,p,dx,C,_,x,b,rfl,hp,c,hx,q1,q2⟩
theorem scTail:FnScope ["self","name"] ["self","name"] (defScope sTail):=⟨rfl,rfl,rfl,by decide +kernel,rfl,by decide +kernel,by decide +kernel⟩
theorem ok_tail {g D:Addr} {gd:FuncData} (F:Fun K "__init__" "Tail.__init__" sTail f fd) (c:PC K m C) (B:ClsFn K D "__init__" g) (mD:mg "Parameter" = some (.ref D)) (G:FnOk P w K mg base (CXe P w) 2 g gd ["self","word","name","may_lack"] (spP K m N)) (bg:Binds K gd ["self","word","name","may_lack"] []) :
  FnOk P w K mg base (CXe P w) 3 f fd ["self","name"] (spT K C N "tail"):=by
 refine F.okE scTail (fun vs H Q E h=>?_) (fun cdv A outer s H vs Q E hr h=>?_)
 ·obtain ⟨p,dx,x,rfl,_⟩:=h
  rfl
 obtain ⟨p,dx,x,rfl,hp,hx,q1,q2⟩:=h
 refine ⟨_,pss_one (ps_expr (pe_cm B mD G hr bg (passE fun _ _ _ z=>z) (ac (pv 0) (ac pe_str (ac (pv 1) (ac pe_bl pa_nil)))))),?_⟩
 exact ⟨_,rfl,_,rfl,p,dx,C,_,x,true,rfl,hp,c,hx,q1,q2⟩
theorem scBag:FnScope ["self","name"] ["self","name"] (defScope sBag):=⟨rfl,rfl,rfl,by decide +kernel,rfl,by decide +kernel,by decide +kernel⟩
theorem ok_bag {g D:Addr} {gd:FuncData} (F:Fun K "__init__" "Bag.__init__" sBag f fd) (c:PC K m C) (B:ClsFn K D "__init__" g) (mD:mg "Parameter" = some (.ref D)) (G:FnOk P w K mg base (CXe P w) 2 g gd ["self","word","name","may_lack"] (spP K m N)) (bg:Binds K gd ["self","word","name","may_lack"] []) :
  FnOk P w K mg base (CXe P w) 3 f fd ["self","name"] (spT K C N "bag"):=by
 refine F.okE scBag (fun vs H Q E h=>?_) (fun cdv A outer s H vs Q E hr h=>?_)
 ·obtain ⟨p,dx,x,rfl,_⟩:=h
  rfl
 obtain ⟨p,dx,x,rfl,hp,hx,q1,q2⟩:=h
 refine ⟨_,pss_one (ps_expr (pe_cm B mD G hr bg (passE fun _ _ _ z=>z) (ac (pv 0) (ac pe_str (ac (pv 1) (ac pe_bl pa_nil)))))),?_⟩
 exact ⟨_,rfl,_,rfl,p,dx,C,_,x,true,rfl,hp,c,hx,q1,q2⟩
theorem scFree:FnScope ["self"] ["self"] (defScope sFree):=⟨rfl,rfl,rfl,by decide +kernel,rfl,by decide +kernel,by decide +kernel⟩
theorem ok_free (F:Fun K "free" "Parameter.free" sFree f fd):FnOk P w K mg base CX0 1 f fd ["self"] (spFree K m):=by
 refine F.ok scFree (fun vs H Q E h=>?_) (fun cdv A outer s H vs Q E hr h=>?_)
 ·obtain ⟨p,dx,C,wd,x,b,rfl,_⟩:=h
  rfl
 obtain ⟨p,dx,C,wd,x,b,rfl,c,hp,q⟩:=h
 refine ⟨_,pss_one (ps_ret (pe_fld (pv 0) rfl)),?_⟩
 exact ⟨_,rfl,p,C,dx,_,_,rfl,hp,c.cl,c.nM,pf_lack,q⟩
theorem scByPlace:FnScope ["self"] ["self"] (defScope sByPlace):=⟨rfl,rfl,rfl,by decide +kernel,rfl,by decide +kernel,by decide +kernel⟩
theorem ok_by_place (F:Fun K "by_place" "Parameter.by_place" sByPlace f fd) (Wd:Wds K mg tP tB tO):FnOk P w K mg base CX0 1 f fd ["self"] (spIn K m bpL):=by
 refine F.ok scByPlace (fun vs H Q E h=>?_) (fun cdv A outer s H vs Q E hr h=>?_)
 ·obtain ⟨p,dx,C,wd,x,b,rfl,_⟩:=h
  rfl
 obtain ⟨p,dx,C,wd,x,b,rfl,c,hp,q⟩:=h
 refine ⟨_,pss_one (ps_ret (pe_cmpR op_in_seq (pe_fld (pv 0) rfl) (pe_glob (v:=.ref tP) rfl Wd.mP rfl) (by with_unfolding_all rfl))),?_⟩
 exact ⟨_,rfl,p,C,dx,_,_,rfl,hp,c.cl,c.nW,pf_word,tP,bpL,rfl,.inr (Wd.hP H),rfl,(by decide),q⟩
theorem scByName:FnScope ["self"] ["self"] (defScope sByName):=⟨rfl,rfl,rfl,by decide +kernel,rfl,by decide +kernel,by decide +kernel⟩
theorem ok_by_name (F:Fun K "by_name" "Parameter.by_name" sByName f fd) (Wd:Wds K mg tP tB tO):FnOk P w K mg base CX0 1 f fd ["self"] (spIn K m bnL):=by
 refine F.ok scByName (fun vs H Q E h=>?_) (fun cdv A outer s H vs Q E hr h=>?_)
 ·obtain ⟨p,dx,C,wd,x,b,rfl,_⟩:=h
  rfl
 obtain ⟨p,dx,C,wd,x,b,rfl,c,hp,q⟩:=h
 refine ⟨_,pss_one (ps_ret (pe_cmpR op_in_seq (pe_fld (pv 0) rfl) (pe_glob (v:=.ref tB) rfl Wd.mB rfl) (by with_unfolding_all rfl))),?_⟩
 exact ⟨_,rfl,p,C,dx,_,_,rfl,hp,c.cl,c.nW,pf_word,tB,bnL,rfl,.inr (Wd.hB H),rfl,(by decide),q⟩
end
structure C5 where
 (c0 c1 c2 c3 c4:Addr)
def C5.at (c:C5):Nat->Addr
 | 0=>c.c0 | 1=>c.c1 | 2=>c.c2 | 3=>c.c3 | _=>c.c4
def g21 {α : Type}:List α->List α->List α
 | [u,v],[w]=>[u,v,w]
 | _,_=>[]
theorem g21_rel {vs:List V} {us:List Value} {zs:List V} {ws:List Value} (r:Vals vs us) (q:Vals zs ws):Vals (g21 vs zs) (g21 us ws):=by
 cases r with
 | nil=>exact .nil
 | cons a r=>cases r with
  | nil=>exact .nil
  | cons a2 r=>cases r with
   | cons _ _=>exact .nil
   | nil=>cases q with
    | nil=>exact .nil
    | cons b q=>cases q with
     | nil=>exact .cons a (.cons a2 (.cons b .nil))
     | cons _ _=>exact .nil
structure Ctors (P:Program) (w:World) (K:PySem.W.Frag) (mg:Str->Option Value) (base:Heap) (c:C5) (N:Addr) (i0 i1 i2 i3 i4:Addr) (d0 d1 d2 d3 d4:FuncData):Prop where
 k0:Ctor P w K mg base (CXe P w) 3 "Seat" c.c0 i0 d0 ["self","name","free"] [] (spS K c.c0 N "seat")
 e0:Ctor P w K mg base (CXe P w) 3 "Seat" c.c0 i0 d0 ["self","name","free"] [.bool false] (spS K c.c0 N "seat")
 b0:KBinds K d0 ["self","name","free"] ["free"] g21 g21
 k1:Ctor P w K mg base (CXe P w) 3 "Both" c.c1 i1 d1 ["self","name","free"] [] (spS K c.c1 N "both")
 e1:Ctor P w K mg base (CXe P w) 3 "Both" c.c1 i1 d1 ["self","name","free"] [.bool false] (spS K c.c1 N "both")
 b1:KBinds K d1 ["self","name","free"] ["free"] g21 g21
 k2:Ctor P w K mg base (CXe P w) 3 "Tail" c.c2 i2 d2 ["self","name"] [] (spT K c.c2 N "tail")
 k3:Ctor P w K mg base (CXe P w) 3 "Tag" c.c3 i3 d3 ["self","name","free"] [] (spS K c.c3 N "tag")
 e3:Ctor P w K mg base (CXe P w) 3 "Tag" c.c3 i3 d3 ["self","name","free"] [.bool false] (spS K c.c3 N "tag")
 b3:KBinds K d3 ["self","name","free"] ["free"] g21 g21
 k4:Ctor P w K mg base (CXe P w) 3 "Bag" c.c4 i4 d4 ["self","name"] [] (spT K c.c4 N "bag")
def Res (c:C5) (N:Addr) (H:Hp) (k:Nat) (x:V) (b:Bool) (Q:VK) (E:XK):Prop:=
 (nmV x = true->∀ (o dx:Addr) (H':Hp),Same H H'->H' o = some (.ins (c.at k) dx (pf (kw k) x (fr k b)))->Q (.ref o) H')/\(nmV x = false->∀ H',Same H H'->E (.ref N) none H')
def spPof (K:PySem.W.Frag) (c:C5) (N:Addr):Sp:=fun vs H Q E=>∃ (p:Addr) (k:Nat) (x:V) (b:Bool),vs = [.ref p]/\k < 5/\H p = some (.tup (rowV k x b))/\OkV K H x/\Res c N H k x b Q E
theorem ne10:¬ (V.str "both" = V.str "seat"):=by decide +kernel
theorem ne20:¬ (V.str "tail" = V.str "seat"):=by decide +kernel
theorem ne21:¬ (V.str "tail" = V.str "both"):=by decide +kernel
theorem ne30:¬ (V.str "tag" = V.str "seat"):=by decide +kernel
theorem ne31:¬ (V.str "tag" = V.str "both"):=by decide +kernel
theorem ne32:¬ (V.str "tag" = V.str "tail"):=by decide +kernel
theorem ne40:¬ (V.str "bag" = V.str "seat"):=by decide +kernel
theorem ne41:¬ (V.str "bag" = V.str "both"):=by decide +kernel
theorem ne42:¬ (V.str "bag" = V.str "tail"):=by decide +kernel
theorem ne43:¬ (V.str "bag" = V.str "tag"):=by decide +kernel
section
variable {P:Program} {w:World} {K:PySem.W.Frag} {mg:Str->Option Value} {base:Heap} {f N i0 i1 i2 i3 i4:Addr} {fd d0 d1 d2 d3 d4:FuncData} {c:C5}
theorem lk_1 {x:V} {k:Nat} {b:Bool}:atI (rowV k x b) 1 = some x:=by unfold rowV; split <;> rfl
theorem lk_0 {x:V} {k:Nat} {b:Bool} (h:k < 5):atI (rowV k x b) 0 = some (.str (kw k)):=by rcases lt5 h with rfl | rfl | rfl | rfl | rfl <;> rfl
theorem scPof:FnScope ["told","word"] ["told"] (defScope sPof):=⟨rfl,rfl,rfl,by decide +kernel,rfl,by decide +kernel,by decide +kernel⟩
theorem ok_pof (F:Fun K "parameter_of" "parameter_of" sPof f fd) (U:Ctors P w K mg base c N i0 i1 i2 i3 i4 d0 d1 d2 d3 d4):FnOk P w K mg base (CXe P w) 5 f fd ["told"] (spPof K c N):=by
 refine F.okE scPof (fun vs H Q E h=>?_) (fun cdv A outer s H vs Q E hr h=>?_)
 ·obtain ⟨p,k,x,b,rfl,_⟩:=h
  rfl
 obtain ⟨p,k,x,b,rfl,hk,hp,hx,r1,r2⟩:=h
 refine ⟨_,pss_cons (ps_set (i:=1) scPof.nd rfl (Or.inl rfl) (pe_ix ix_tup (pv 0) pe_int (fun _ _=>rfl)))
  (pss_cons (ps_if (pt_cmpR op_eq (pv 1) pe_str (nomark _)) (pss_one (ps_ret (cMk U.k0 .nil (passE fun _ _ _ z=>z) hr (ac (pe_ix ix_tup (pv 0) pe_int (fun _ _=>rfl)) (ac (pe_ix ix_tup (pv 0) pe_int (fun _ _=>rfl)) pa_nil))))) pss_nil)
  (pss_cons (ps_if (pt_cmpR op_eq (pv 1) pe_str (nomark _)) (pss_one (ps_ret (cMk U.k1 .nil (passE fun _ _ _ z=>z) hr (ac (pe_ix ix_tup (pv 0) pe_int (fun _ _=>rfl)) (ac (pe_ix ix_tup (pv 0) pe_int (fun _ _=>rfl)) pa_nil))))) pss_nil)
  (pss_cons (ps_if (pt_cmpR op_eq (pv 1) pe_str (nomark _)) (pss_one (ps_ret (cMk U.k2 .nil (passE fun _ _ _ z=>z) hr (ac (pe_ix ix_tup (pv 0) pe_int (fun _ _=>rfl)) pa_nil)))) pss_nil)
  (pss_cons (ps_if (pt_cmpR op_eq (pv 1) pe_str (nomark _)) (pss_one (ps_ret (cMk U.k3 .nil (passE fun _ _ _ z=>z) hr (ac (pe_ix ix_tup (pv 0) pe_int (fun _ _=>rfl)) (ac (pe_ix ix_tup (pv 0) pe_int (fun _ _=>rfl)) pa_nil))))) pss_nil)
  (pss_one (ps_ret (cMk U.k4 .nil (passE fun _ _ _ z=>z) hr (ac (pe_ix ix_tup (pv 0) pe_int (fun _ _=>rfl)) pa_nil)))))))),?_⟩
 refine ⟨_,rfl,p,_,_,.str (kw k),rfl,rfl,SqT.of hp,lk_0 hk,?_⟩
 rcases lt5 hk with rfl | rfl | rfl | rfl | rfl
 ·have hS:SqT K H p _:=SqT.of hp
  refine ⟨_,rfl,rfl,_,rfl,?_⟩
  refine dT rfl ?_
  exact ⟨_,rfl,p,_,_,x,rfl,rfl,hS,rfl,_,rfl,p,_,_,.bl b,rfl,rfl,hS,rfl,fun o dx ho hdx ne=>⟨o,dx,x,b,rfl,upd_same,hx.same (same_make0 ho hdx),fun e H1 s1=>⟨rfl,r1 e o dx _ (same_after ho hdx s1) upd_same⟩,fun e H1 s1=>r2 e _ ((same_make0 ho hdx).trans s1)⟩⟩
 ·have hS:SqT K H p _:=SqT.of hp
  refine ⟨_,rfl,rfl,_,rfl,?_⟩
  refine dF ne10 ?_
  refine ⟨_,rfl,rfl,_,rfl,?_⟩
  refine dT rfl ?_
  exact ⟨_,rfl,p,_,_,x,rfl,rfl,hS,rfl,_,rfl,p,_,_,.bl b,rfl,rfl,hS,rfl,fun o dx ho hdx ne=>⟨o,dx,x,b,rfl,upd_same,hx.same (same_make0 ho hdx),fun e H1 s1=>⟨rfl,r1 e o dx _ (same_after ho hdx s1) upd_same⟩,fun e H1 s1=>r2 e _ ((same_make0 ho hdx).trans s1)⟩⟩
 ·have hS:SqT K H p _:=SqT.of hp
  refine ⟨_,rfl,rfl,_,rfl,?_⟩
  refine dF ne20 ?_
  refine ⟨_,rfl,rfl,_,rfl,?_⟩
  refine dF ne21 ?_
  refine ⟨_,rfl,rfl,_,rfl,?_⟩
  refine dT rfl ?_
  exact ⟨_,rfl,p,_,_,x,rfl,rfl,hS,rfl,fun o dx ho hdx ne=>⟨o,dx,x,rfl,upd_same,hx.same (same_make0 ho hdx),fun e H1 s1=>⟨rfl,r1 e o dx _ (same_after ho hdx s1) upd_same⟩,fun e H1 s1=>r2 e _ ((same_make0 ho hdx).trans s1)⟩⟩
 ·have hS:SqT K H p _:=SqT.of hp
  refine ⟨_,rfl,rfl,_,rfl,?_⟩
  refine dF ne30 ?_
  refine ⟨_,rfl,rfl,_,rfl,?_⟩
  refine dF ne31 ?_
  refine ⟨_,rfl,rfl,_,rfl,?_⟩
  refine dF ne32 ?_
  refine ⟨_,rfl,rfl,_,rfl,?_⟩
  refine dT rfl ?_
  exact ⟨_,rfl,p,_,_,x,rfl,rfl,hS,rfl,_,rfl,p,_,_,.bl b,rfl,rfl,hS,rfl,fun o dx ho hdx ne=>⟨o,dx,x,b,rfl,upd_same,hx.same (same_make0 ho hdx),fun e H1 s1=>⟨rfl,r1 e o dx _ (same_after ho hdx s1) upd_same⟩,fun e H1 s1=>r2 e _ ((same_make0 ho hdx).trans s1)⟩⟩
 ·have hS:SqT K H p _:=SqT.of hp
  refine ⟨_,rfl,rfl,_,rfl,?_⟩
  refine dF ne40 ?_
  refine ⟨_,rfl,rfl,_,rfl,?_⟩
  refine dF ne41 ?_
  refine ⟨_,rfl,rfl,_,rfl,?_⟩
  refine dF ne42 ?_
  refine ⟨_,rfl,rfl,_,rfl,?_⟩
  refine dF ne43 ?_
  exact ⟨_,rfl,p,_,_,x,rfl,rfl,hS,rfl,fun o dx ho hdx ne=>⟨o,dx,x,rfl,upd_same,hx.same (same_make0 ho hdx),fun e H1 s1=>⟨rfl,r1 e o dx _ (same_after ho hdx s1) upd_same⟩,fun e H1 s1=>r2 e _ ((same_make0 ho hdx).trans s1)⟩⟩
end
end K54
namespace L2
open PySem PySem.Spec PyProof.Rows
def dcN (n i:Nat) (D:Addr) (Pv:Nat->List (Key × V)->Hp->Prop) (ys:List (Key × V)) (y:V):VK:=fun v H5=>∃ k,y = kV k/\H5 D = some (.dK ys)/\ys.length < sizeLine/\∃ m',m' < n - i/\m' = n - (i + 1)/\i + 1<=n/\Pv (i + 1) (putK ys k v) (upd H5 D (.dK (putK ys k v)))
def dcS (n i:Nat) (Pv:Nat->List (Key × V)->Hp->Prop) (ys:List (Key × V)) (H4:Hp):Prop:=∃ m',m' < n - i/\m' = n - (i + 1)/\i + 1<=n/\Pv (i + 1) ys H4
theorem dcN.mk {n i:Nat} {D:Addr} {Pv:Nat->List (Key × V)->Hp->Prop} {ys:List (Key × V)} {y v:V} {H5:Hp} (k:Key) (hi:i < n) (ek:y = kV k) (hn:n<=sizeLine) (hD:H5 D = some (.dK ys)) (hy:ys.length<=i) (p:Pv (i + 1) (putK ys k v) (upd H5 D (.dK (putK ys k v)))):dcN n i D Pv ys y v H5:=
 ⟨k,ek,hD,by omega,n - (i + 1),by omega,rfl,hi,p⟩
theorem dcS.mk {n i:Nat} {Pv:Nat->List (Key × V)->Hp->Prop} {ys:List (Key × V)} {H4:Hp} (hi:i < n) (p:Pv (i + 1) ys H4):dcS n i Pv ys H4:=⟨n - (i + 1),by omega,rfl,hi,p⟩
theorem dc_enum {K:PySem.W.Frag} {a:Addr} {xs:List V} {caps:List (Option Nat)} {g:TG} {tt:TT} {tk tv:TE} {σ : St} {H1:Hp} {Q:VK} {D:Addr} (Pv:Nat->List (Key × V)->Hp->Prop) (h0:Pv 0 [] (upd H1 D (.dK [])))
  (hl:∀ i ys H,Pv i ys H->SqL K H a xs)
  (hs:∀ i x p ys H,i < xs.length->xs[i]? = some x->Pv i ys H->H p = none->g (.ref p) (capS caps σ) (upd H p (.tup [.int i,x])) fun σ2 H2=>tt σ2 H2 fun ok H3=>(ok = true->tk σ2 H3 fun y H4=>tv σ2 H4 (dcN xs.length i D Pv ys y))/\(ok = false->dcS xs.length i Pv ys H3))
  (hd:∀ ys H,Pv xs.length ys H->Q (.ref D) H):DCr (Ite K a) caps g tt tk tv σ H1 Q D:=by
 refine ⟨fun i m ys H=>m = xs.length - i/\i<=xs.length/\Pv i ys H,⟨xs.length,by simp,Nat.zero_le _,h0⟩,?_⟩
 rintro i m ys H ⟨rfl,hi,p⟩
 have q:=hl i ys H p
 by_cases hlt:i < xs.length
 ·refine .inr ⟨⟨xs,xs[i],q,by simp [hlt]⟩,fun x H' y=>?_⟩
  obtain ⟨pp,y,rfl,hp,y2,rfl⟩:=y
  exact hs i y pp ys H hlt (y2 xs q) p hp
 ·have e:i = xs.length:=by omega
  subst e
  exact .inl ⟨⟨xs,q,Nat.le_refl _⟩,hd ys H p⟩
end L2
namespace K54
open PySem L2 PyProof.Rows
structure Rw where
 (k:Nat) (z:Str) (b:Bool)
def Rw.ok (r:Rw):Prop:=r.k < 5/\nameB r.z = true
abbrev rv (r:Rw):List V:=rowV r.k (.str r.z) r.b
abbrev pr (r:Rw):List (Str × V):=pf (kw r.k) (.str r.z) (fr r.k r.b)
def PAt (c:C5) (H:Hp) (p:Addr) (r:Rw):Prop:=∃ dx,H p = some (.ins (c.at r.k) dx (pr r))
def byPl (k:Nat):Bool:=k == 0 || k == 1
def byNm (k:Nat):Bool:=k == 1 || k == 3
theorem in_pl:∀ k:Nat,k < 5->inV (.str (kw k)) bpL = byPl k:=by decide +kernel
theorem in_nm:∀ k:Nat,k < 5->inV (.str (kw k)) bnL = byNm k:=by decide +kernel
def grp:Nat->Nat
 | 0=>0 | 1=>0 | 2=>1 | 3=>2 | _=>3
def badAt (l g:Nat):Bool:=decide (g < l) || (g == l && (g == 1 || g == 3))
def ordOk:Nat->List Rw->Bool
 | _,[]=>true
 | l,r :: rs=>!badAt l (grp r.k) && ordOk (grp r.k) rs
def nms (rows:List Rw):List Str:=(rows.filter fun r=>byNm r.k).map (·.z)
structure Valid (rows:List Rw) (bars:List Str):Prop where
 ok:∀ r ∈ rows,r.ok
 l24:rows.length<=24
 l60:bars.length<=60
 ord:ordOk 0 rows = true
 bn:∀ z ∈ bars,nameB z = true
 nd:(nms rows ++ bars).Nodup
def firstK (kk:Nat):Nat->List Rw->Option Nat
 | _,[]=>none
 | i,r :: rs=>if r.k = kk then some i else firstK kk (i + 1) rs
def numV:Option Nat->V
 | none=>.non
 | some i=>.int i
def doorsF:Nat->List (Key × V)->List Rw->List (Key × V)
 | _,acc,[]=>acc
 | i,acc,r :: rs=>doorsF (i + 1) (if byNm r.k = true then putK acc (.inr r.z) (.int i) else acc) rs
def plN (rows:List Rw):Nat:=(rows.filter fun r=>byPl r.k).length
def attrs:List Str:=["row","bar_names","place_count","tail_number","bag_number","doors"]
structure FF (fs:List (Str × V)) (lr lb ld:Addr) (rows:List Rw):Prop where
 row:fs.lookup ("row" : Str) = some (.ref lr)
 bn:fs.lookup ("bar_names" : Str) = some (.ref lb)
 pc:fs.lookup ("place_count" : Str) = some (.int (plN rows))
 tn:fs.lookup ("tail_number" : Str) = some (numV (firstK 2 0 rows))
 bg:fs.lookup ("bag_number" : Str) = some (numV (firstK 4 0 rows))
 dr:fs.lookup ("doors" : Str) = some (.ref ld)
 no:∀ m,m ∉ attrs->fs.lookup m = none
def FormAt (c:C5) (CF:Addr) (H:Hp) (f:Addr) (rows:List Rw) (bars:List Str):Prop:=
 ∃ dx fs lr lb ld ps,H f = some (.ins CF dx fs)/\FF fs lr lb ld rows/\H lr = some (.lst (ps.map V.ref))/\Paired (PAt c H) ps rows/\H lb = some (.lst (bars.map V.str))/\H ld = some (.dK (doorsF 0 [] rows))
section
variable {c:C5} {CF f p:Addr} {H H':Hp} {rows:List Rw} {bars:List Str} {r:Rw} {ps:List Addr}
theorem PAt.same (h:PAt c H p r) (s:Same H H'):PAt c H' p r:=h.imp fun _=>s _ _
theorem pats_same (s:Same H H') (h:Paired (PAt c H) ps rows):Paired (PAt c H') ps rows:=Paired.imp' (fun _ _ z=>z.same s) h
theorem FormAt.same (h:FormAt c CF H f rows bars) (s:Same H H'):FormAt c CF H' f rows bars:=by
 obtain ⟨dx,fs,lr,lb,ld,ps,h1,h2,h3,h4,h5,h6⟩:=h
 exact ⟨dx,fs,lr,lb,ld,ps,s _ _ h1,h2,s _ _ h3,pats_same s h4,s _ _ h5,s _ _ h6⟩
def FormN (c:C5) (CF:Addr) (H H':Hp) (f:Addr) (rows:List Rw) (bars:List Str):Prop:=
 ∃ dx fs lr lb ld ps,H' f = some (.ins CF dx fs)/\FF fs lr lb ld rows/\H' lr = some (.lst (ps.map V.ref))/\Paired (PAt c H') ps rows/\H' lb = some (.lst (bars.map V.str))/\H' ld = some (.dK (doorsF 0 [] rows))/\H lr = none/\H lb = none
theorem FormN.at (h:FormN c CF H H' f rows bars):FormAt c CF H' f rows bars:=by
 obtain ⟨dx,fs,lr,lb,ld,ps,h1,h2,h3,h4,h5,h6,_,_⟩:=h
 exact ⟨dx,fs,lr,lb,ld,ps,h1,h2,h3,h4,h5,h6⟩
theorem FormN.of {H0:Hp} (h:FormN c CF H H' f rows bars) (s:Same H0 H):FormN c CF H0 H' f rows bars:=by
 obtain ⟨dx,fs,lr,lb,ld,ps,h1,h2,h3,h4,h5,h6,h7,h8⟩:=h
 exact ⟨dx,fs,lr,lb,ld,ps,h1,h2,h3,h4,h5,h6,s.free h7,s.free h8⟩
theorem paired_at {α β : Type} {R : α->β->Prop} {xs:List α} {ys:List β} (h:Paired R xs ys):∀ {i:Nat} {x : α},xs[i]? = some x->∃ y,ys[i]? = some y/\R x y:=by
 induction h with
 | nil=>intro i x e; simp at e
 | cons r t ih=>
  intro i x e
  cases i with
  | zero=>exact ⟨_,rfl,by simp at e; exact e ▸ r⟩
  | succ i=>simpa using ih (by simpa using e)
end
def grpV (x:Str):Option V:=([(("seat" : Str),V.int 0),("both",.int 0),("tail",.int 1),("tag",.int 2),("bag",.int 3)]:List (Str × V)).lookup x
theorem grpV_kw:∀ k:Nat,k < 5->grpV (kw k) = some (.int (grp k)):=by decide +kernel
theorem grp_lt (k:Nat):grp k < 4:=by unfold grp; split <;> decide
structure TxtF (w:World) (K:PySem.W.Frag) (mg:Str->Option Value) (G sg:Addr):Prop where
 len:mg "len" = none
 en:mg "enumerate" = none
 lst:mg "list" = none
 set:mg "set" = none
 mp:∃ t,mg "MOST_PARAMETERS" = some (.int 24 t)
 mb:∃ t,mg "MOST_BARS" = some (.int 60 t)
 mgr:mg "GROUPS" = some (.ref G)
 gt:KTab w K G grpV
 ms:mg "SINGLE_GROUPS" = some (.ref sg)
 hs:∀ H,SqT K H sg [.int 1,.int 3]
def Cs5 (c:C5):Addr->Prop:=fun C=>∃ k,k < 5/\C = c.at k
def spMany (K:PySem.W.Frag):Sp:=fun vs H Q _=>∃ (a b:Addr) (xs ys:List V),vs = [.ref a,.ref b]/\SqL K H a xs/\SqL K H b ys/\xs.length<=24/\ys.length<=60/\Q .non H
def spOrd (c:C5):Sp:=fun vs H Q _=>∃ (a:Addr) (ps:List Addr) (rows:List Rw),vs = [.ref a]/\H a = some (.lst (ps.map V.ref))/\Paired (PAt c H) ps rows/\(∀ r ∈ rows,r.ok)/\ordOk 0 rows = true/\∀ H',Same H H'->Q .non H'
def spRB:Sp:=fun vs H Q _=>∃ (b:Addr) (bars:List Str),vs = [.ref b]/\H b = some (.lst (bars.map V.str))/\(∀ z ∈ bars,nameB z = true)/\∀ H',Same H H'->Q .non H'
def spTw (c:C5):Sp:=fun vs H Q _=>∃ (a b:Addr) (ps:List Addr) (rows:List Rw) (bars:List Str),vs = [.ref a,.ref b]/\H a = some (.lst (ps.map V.ref))/\Paired (PAt c H) ps rows/\(∀ r ∈ rows,r.ok)/\rows.length<=500/\H b = some (.lst (bars.map V.str))/\bars.length<=500/\(nms rows ++ bars).Nodup/\∀ H',Same H H'->Q .non H'
def spNW (c:C5):Sp:=fun vs H Q _=>∃ (a:Addr) (ps:List Addr) (rows:List Rw) (kk:Nat),vs = [.ref a,.str (kw kk)]/\kk < 5/\H a = some (.lst (ps.map V.ref))/\Paired (PAt c H) ps rows/\(∀ r ∈ rows,r.ok)/\∀ H',Same H H'->Q (numV (firstK kk 0 rows)) H'
theorem kw_inj:∀ i:Nat,i < 5->∀ k:Nat,k < 5->decide (V.str (kw k) = V.str (kw i)) = (k == i):=by decide +kernel
theorem drop_at {α : Type} {xs:List α} {i:Nat} {x : α} (h:xs[i]? = some x):xs.drop i = x :: xs.drop (i + 1):=by
 have hi:i < xs.length:=(List.getElem?_eq_some_iff.mp h).1
 rw [List.drop_eq_getElem_cons hi]
 rw [List.getElem?_eq_getElem hi] at h
 rw [Option.some.inj h]
theorem refs_at {ps:List Addr} {i:Nat} {x:V} (h:(ps.map V.ref)[i]? = some x):∃ p,ps[i]? = some p/\x = .ref p:=by
 rw [List.getElem?_map] at h
 cases e:ps[i]? with
 | none=>rw [e] at h; cases h
 | some p=>rw [e] at h; exact ⟨p,rfl,(Option.some.inj h).symm⟩
theorem strs_at {zs:List Str} {i:Nat} {x:V} (h:(zs.map V.str)[i]? = some x):∃ z,zs[i]? = some z/\x = .str z:=by
 rw [List.getElem?_map] at h
 cases e:zs[i]? with
 | none=>rw [e] at h; cases h
 | some p=>rw [e] at h; exact ⟨p,rfl,(Option.some.inj h).symm⟩
section
variable {P:Program} {w:World} {K:PySem.W.Frag} {mg:Str->Option Value} {base:Heap} {f G sg:Addr} {fd:FuncData} {c:C5} {m:MA}
def Pcs (K:PySem.W.Frag) (m:MA) (c:C5):Prop:=∀ k,k < 5->PC K m (c.at k)
theorem scRMany:FnScope ["parameters","bars"] ["parameters","bars"] (defScope sRMany):=⟨rfl,rfl,rfl,by decide +kernel,rfl,by decide +kernel,by decide +kernel⟩
theorem ok_many (F:Fun K "refuse_too_many" "refuse_too_many" sRMany f fd) (T:TxtF w K mg G sg):FnOk P w K mg base CX0 1 f fd ["parameters","bars"] (spMany K):=by
 refine F.ok scRMany (fun vs H Q E h=>?_) (fun cdv A outer s H vs Q E hr h=>?_)
 ·obtain ⟨a,b,xs,ys,rfl,_⟩:=h
  rfl
 obtain ⟨a,b,xs,ys,rfl,ha,hb,l1,l2,q⟩:=h
 obtain ⟨t1,m1⟩:=T.mp
 obtain ⟨t2,m2⟩:=T.mb
 refine ⟨_,pss_cons (ps_if (pt_cmpR op_gt (cB call_len_seq T.len PySem.boot_len (ac (pv 0) pa_nil)) (pe_glob (v:=.int 24) rfl m1 ⟨_,rfl⟩) (nomark _)) (pss_one ps_dead) pss_nil)
  (pss_one (ps_if (pt_cmpR op_gt (cB call_len_seq T.len PySem.boot_len (ac (pv 1) pa_nil)) (pe_glob (v:=.int 60) rfl m2 ⟨_,rfl⟩) (nomark _)) (pss_one ps_dead) pss_nil)),?_⟩
 refine ⟨_,rfl,a,_,rfl,.inl ha,_,_,rfl,rfl,_,rfl,?_⟩
 refine dF (by show ¬ (24:Int) < (xs.length:Int); omega) ?_
 refine ⟨_,rfl,b,_,rfl,.inl hb,_,_,rfl,rfl,_,rfl,?_⟩
 exact dF (by show ¬ (60:Int) < (ys.length:Int); omega) q
theorem scROrder:FnScope ["parameters","last","at","parameter","group"] ["parameters"] (defScope sROrder):=⟨rfl,rfl,rfl,by decide +kernel,rfl,by decide +kernel,by decide +kernel⟩
theorem ok_order (F:Fun K "refuse_bad_order" "refuse_bad_order" sROrder f fd) (T:TxtF w K mg G sg) (PP:Pcs K m c):FnOk P w K mg base CX0 1 f fd ["parameters"] (spOrd c):=by
 refine F.ok scROrder (fun vs H Q E h=>?_) (fun cdv A outer s H vs Q E hr h=>?_)
 ·obtain ⟨a,ps,rows,rfl,_⟩:=h
  rfl
 obtain ⟨a,ps,rows,rfl,ha,hp,hok,ho,q⟩:=h
 refine ⟨_,pss_cons (ps_set (i:=1) scROrder.nd rfl (Or.inl rfl) pe_int)
  (pss_one (ps_for PassesOwn.never rfl (pi_enum rfl T.en (ac (pv 0) pa_nil)) (pg_tup rfl (pgs_cons (pg_name (i:=2) scROrder.nd rfl (Or.inl rfl)) (pgs_cons (pg_name (i:=3) scROrder.nd rfl (Or.inl rfl)) pgs_nil)))
   (pss_cons (ps_set (i:=4) scROrder.nd rfl (Or.inl rfl) (pe_kget T.gt T.mgr (pe_fld (pv 3) rfl)))
   (pss_cons (ps_if (PW.pt (pw_or (pt_cmpR op_lt (pv 4) (pv 1) (nomark _)) (pw_or1 (PW.pt (pw_and (pt_cmpR op_eq (pv 4) (pv 1) (nomark _)) (pw_and1 (pt_cmpR op_in_seq (pv 4) (pe_glob (v:=.ref sg) rfl T.ms rfl) (by with_unfolding_all rfl)))))))) (pss_one ps_dead) pss_nil)
   (pss_one (ps_set (i:=1) scROrder.nd rfl (Or.inl rfl) (pv 4))))))),?_⟩
 show tSeq _ _ _ _ _
 refine ⟨_,rfl,a,rfl,⟨_,SqL.of ha⟩,for_enum (K:=K) (a:=a) (xs:=ps.map V.ref) (fun i σ H'=>∃ (l:Nat) (v2 v3 v4:Option V),σ = [some (.ref a),some (.int (l:Nat)),v2,v3,v4]/\Same H H'/\ordOk l (rows.drop i) = true)
  ⟨0,_,_,_,rfl,Same.refl _,ho⟩ (fun i σ H' _ ⟨_,_,_,_,_,sH,_⟩=>SqL.of (sH _ _ ha)) ?_ ?_⟩
 ·rintro i x p σ H' hx ⟨l,v2,v3,v4,rfl,sH,hl⟩ hpn
  obtain ⟨pa,hpa,rfl⟩:=refs_at hx
  obtain ⟨r,hr',dx,hdx⟩:=paired_at hp hpa
  have rok:=hok r (List.mem_of_getElem? hr')
  have C:=PP r.k rok.1
  rw [drop_at hr'] at hl
  have hl':(!badAt l (grp r.k) && ordOk (grp r.k) (rows.drop (i + 1))) = true:=hl
  rw [Bool.and_eq_true,Bool.not_eq_true'] at hl'
  obtain ⟨hb,hl2⟩:=hl'
  have hb':(decide (grp r.k < l) || (grp r.k == l && (grp r.k == 1 || grp r.k == 3))) = false:=hb
  rw [Bool.or_eq_false_iff] at hb'
  have sp:=same_new hpn (.tup [.int (i:Nat),.ref pa])
  refine ⟨p,_,rfl,SqT.of upd_same,rfl,_,_,rfl,_,_,rfl,rfl,?_⟩
  refine ⟨_,rfl,pa,_,dx,_,_,rfl,sp _ _ (sH _ _ hdx),C.cl,C.nW,pf_word,kw r.k,.int (grp r.k),rfl,grpV_kw r.k rok.1,?_⟩
  refine ⟨_,rfl,_,rfl,_,_,rfl,rfl,_,rfl,?_⟩
  refine dF (fun z=>by have:=of_decide_eq_false hb'.1; omega) ?_
  have fin:∃ (l':Nat) (v2 v3 v4:Option V),([some (.ref a),some (.int (grp r.k:Nat)),some (.int (i:Nat)),some (.ref pa),some (.int (grp r.k:Nat))]:L2.St) = [some (.ref a),some (.int (l':Nat)),v2,v3,v4]/\Same H (upd H' p (.tup [.int (i:Nat),.ref pa]))/\ordOk l' (rows.drop (i + 1)) = true:=
   ⟨grp r.k,_,_,_,rfl,sH.trans sp,hl2⟩
  refine ⟨_,rfl,_,rfl,rfl,_,rfl,?_⟩
  by_cases e:grp r.k = l
  ·refine dT (by rw [e]) ?_
   refine ⟨_,rfl,sg,_,rfl,.inr (T.hs _),rfl,(by decide),_,rfl,?_⟩
   have h13:(grp r.k == 1 || grp r.k == 3) = false:=by
    have:=hb'.2
    rw [e] at this |-
    simpa using this
   have hin:inV (.int (grp r.k:Nat)) [.int 1,.int 3] = false:=by
    have g4:=grp_lt r.k
    have:∀ g:Nat,g < 4->(g == 1 || g == 3) = false->inV (.int (g:Nat)) [.int 1,.int 3] = false:=by decide +kernel
    exact this _ g4 h13
   rw [show (if false = true then !inV (V.int ((grp r.k:Nat):Int)) [V.int 1,V.int 3] else inV (V.int ((grp r.k:Nat):Int)) [V.int 1,V.int 3]) = false from hin]
   refine iteF ?_
   exact ⟨_,rfl,fin⟩
  ·refine dF (fun z=>e (by have:=V.int.inj z; omega)) ?_
   exact ⟨_,rfl,fin⟩
 ·rintro σ H' ⟨l,v2,v3,v4,rfl,sH,_⟩
  exact q _ sH
end
end K54
namespace L2
open PySem PySem.Spec PyProof.Rows
theorem pe_fldK {X:Cx} {K:PySem.W.Frag} {e:Expr} {f:Str} {pos:Pos} {ta:TE} (hK:X.K = K) (he:PE X e ta) (hb:attributeBase e f X.env (eval e X.env) = eval e X.env):PE X (.Attribute e f pos) (tFld K ta f):=hK ▸ pe_fld he hb
end L2
namespace K54
open PySem L2 PyProof.Rows
theorem le1000 {n:Nat} (h:n<=1000):n<=sizeLine:=Nat.le_of_lt (small1000 h)
theorem nm_take {rows:List Rw} {i:Nat} {r:Rw} (h:rows[i]? = some r):nms (rows.take (i + 1)) = nms (rows.take i) ++ (if byNm r.k = true then [r.z] else []):=by
 have hi:i < rows.length:=(List.getElem?_eq_some_iff.mp h).1
 have e:rows[i] = r:=by rw [List.getElem?_eq_getElem hi] at h; exact Option.some.inj h
 unfold nms
 rw [List.take_succ_eq_append_getElem hi,List.filter_append,List.map_append,e]
 cases hb:byNm r.k <;> simp [hb]
section
variable {P:Program} {w:World} {K:PySem.W.Frag} {mg:Str->Option Value} {base:Heap} {f G sg:Addr} {fd:FuncData} {c:C5} {m:MA}
theorem scNumW:FnScope ["parameters","word","at","parameter"] ["parameters","word"] (defScope sNumW):=⟨rfl,rfl,rfl,by decide +kernel,rfl,by decide +kernel,by decide +kernel⟩
theorem ok_numw (F:Fun K "number_of_word" "number_of_word" sNumW f fd) (T:TxtF w K mg G sg) (PP:Pcs K m c):FnOk P w K mg base CX0 1 f fd ["parameters","word"] (spNW c):=by
 refine F.ok scNumW (fun vs H Q E h=>?_) (fun cdv A outer s H vs Q E hr h=>?_)
 ·obtain ⟨a,ps,rows,kk,rfl,_⟩:=h
  rfl
 obtain ⟨a,ps,rows,kk,rfl,hkk,ha,hp,hok,q⟩:=h
 refine ⟨_,pss_cons (ps_for PassesOwn.never rfl (pi_enum rfl T.en (ac (pv 0) pa_nil)) (pg_tup rfl (pgs_cons (pg_name (i:=2) scNumW.nd rfl (Or.inl rfl)) (pgs_cons (pg_name (i:=3) scNumW.nd rfl (Or.inl rfl)) pgs_nil)))
   (pss_one (ps_if (pt_cmpR op_eq (pe_fld (pv 3) rfl) (pv 1) (nomark _)) (pss_one (ps_ret (pv 2))) pss_nil))) (pss_one (ps_ret pe_non)),?_⟩
 refine ⟨_,rfl,a,rfl,⟨_,SqL.of ha⟩,for_enum (K:=K) (a:=a) (xs:=ps.map V.ref) (fun i σ H'=>∃ (v2 v3:Option V),σ = [some (.ref a),some (.str (kw kk)),v2,v3]/\Same H H'/\firstK kk i (rows.drop i) = firstK kk 0 rows)
  ⟨_,_,rfl,Same.refl _,rfl⟩ (fun i σ H' _ ⟨_,_,_,sH,_⟩=>SqL.of (sH _ _ ha)) ?_ ?_⟩
 ·rintro i x p σ H' hx ⟨v2,v3,rfl,sH,hl⟩ hpn
  obtain ⟨pa,hpa,rfl⟩:=refs_at hx
  obtain ⟨r,hr',dx,hdx⟩:=paired_at hp hpa
  have rok:=hok r (List.mem_of_getElem? hr')
  have C:=PP r.k rok.1
  rw [drop_at hr'] at hl
  have hl':(if r.k = kk then some i else firstK kk (i + 1) (rows.drop (i + 1))) = firstK kk 0 rows:=hl
  have sp:=same_new hpn (.tup [.int (i:Nat),.ref pa])
  refine ⟨p,_,rfl,SqT.of upd_same,rfl,_,_,rfl,_,_,rfl,rfl,?_⟩
  refine ⟨_,rfl,pa,_,dx,_,_,rfl,sp _ _ (sH _ _ hdx),C.cl,C.nW,pf_word,_,rfl,rfl,_,rfl,?_⟩
  by_cases e:r.k = kk
  ·refine dT (by rw [e]) ?_
   rw [if_pos e] at hl'
   refine ⟨_,rfl,?_⟩
   have:=q _ (sH.trans sp)
   rw [<- hl'] at this
   exact this
  ·refine dF (fun z=>?_) ?_
   ·have h1:=kw_inj kk hkk r.k rok.1
    rw [decide_eq_true z] at h1
    exact e (by simpa using h1.symm)
   ·rw [if_neg e] at hl'
    exact ⟨_,_,rfl,sH.trans sp,hl'⟩
 ·rintro σ H' ⟨v2,v3,rfl,sH,hl⟩
  have e:firstK kk 0 rows = none:=by
   rw [<- hl,List.length_map,hp.length,List.drop_length]
   rfl
  have:=q _ sH
  rw [e] at this
  exact this
theorem scRBars:FnScope ["bars","bar"] ["bars"] (defScope sRBars):=⟨rfl,rfl,rfl,by decide +kernel,rfl,by decide +kernel,by decide +kernel⟩
theorem ok_rbars {g:Addr} {gd:FuncData} (F:Fun K "refuse_bars_without_name" "refuse_bars_without_name" sRBars f fd) (cI:Callee P w K mg base 1 "is_name" g gd ["thing"] (spIs K)):FnOk P w K mg base CX0 2 f fd ["bars"] spRB:=by
 refine F.ok scRBars (fun vs H Q E h=>?_) (fun cdv A outer s H vs Q E hr h=>?_)
 ·obtain ⟨b,bars,rfl,_⟩:=h
  rfl
 obtain ⟨b,bars,rfl,hb,hn,q⟩:=h
 refine ⟨_,pss_one (ps_for PassesOwn.never rfl (pi_list (pv 0)) (pg_name (i:=1) scRBars.nd rfl (Or.inl rfl)) (pss_one (ps_if (pt_not (pt_val (cF cI hr (ac (pv 1) pa_nil)))) (pss_one ps_dead) pss_nil))),?_⟩
 refine ⟨_,rfl,b,rfl,⟨_,SqL.of hb⟩,for_list (K:=K) (a:=b) (xs:=bars.map V.str) (fun i σ H'=>∃ v1,σ = [some (.ref b),v1]/\Same H H') ⟨_,rfl,Same.refl _⟩ (fun i σ H' _ ⟨_,_,sH⟩=>SqL.of (sH _ _ hb)) ?_ ?_⟩
 ·rintro i x σ H' hx ⟨v1,rfl,sH⟩
  obtain ⟨z,hz,rfl⟩:=strs_at hx
  have nz:=hn z (List.mem_of_getElem? hz)
  refine ⟨_,rfl,_,rfl,.inl ⟨z,rfl,nameB_ok nz⟩,fun H2 s2=>⟨_,rfl,?_⟩⟩
  rw [show nmV (.str z) = true from nz]
  refine iteF ?_
  exact ⟨_,rfl,sH.trans s2⟩
 ·rintro σ H' ⟨v1,rfl,sH⟩
  exact q _ sH
theorem ndPm:([Str.ofString "parameter"]:List Str).Nodup:=by decide +kernel
theorem scRTwice:FnScope ["parameters","bars","seen","name"] ["parameters","bars"] (defScope sRTwice):=⟨rfl,rfl,rfl,by decide +kernel,rfl,by decide +kernel,by decide +kernel⟩
theorem ok_twice {gd:FuncData} (F:Fun K "refuse_twice" "refuse_twice" sRTwice f fd) (T:TxtF w K mg G sg) (PP:Pcs K m c) (GB:FnOk P w K mg base CX0 1 m.fB gd ["self"] (spIn K m bnL)) (bB:Binds K gd ["self"] []):FnOk P w K mg base CX0 2 f fd ["parameters","bars"] (spTw c):=by
 refine F.ok scRTwice (fun vs H Q E h=>?_) (fun cdv A outer s H vs Q E hr h=>?_)
 ·obtain ⟨a,b,ps,rows,bars,rfl,_⟩:=h
  rfl
 obtain ⟨a,b,ps,rows,bars,rfl,ha,hp,hok,l1,hb,l2,nd,q⟩:=h
 have hC:∀ C,Cs5 c C->Cls K C/\Meth K C "by_name" m.fB:=fun C ⟨k,hk,e⟩=>by rw [e]; exact ⟨(PP k hk).cl,(PP k hk).mB⟩
 refine ⟨_,pss_cons (ps_set (i:=2) scRTwice.nd rfl (Or.inl rfl) (pe_callTy0 call_set0 rfl T.set (by decide +kernel:bootBuiltins "set" = some (.type "set"))))
  (pss_one (ps_for PassesOwn.never rfl (pi_list (pe_op op_cat (pe_lc [] ["parameter"] [none] rfl ⟨rfl,rfl,rfl,rfl⟩ (pi_list (pv 0)) (gown_name 0) rfl rfl rfl
    (fun pins fp s H C=>⟨pg_name (i:=0) ndPm rfl (Or.inl rfl) (.inr rfl),pif_one (pt_val (pe_methP (pv 0) hC GB hr bB pass0)),pe_fldK (K:=K) rfl (pv 0) rfl⟩)) (cTy call_list_of T.lst PyProof.Rows.boot_list (ac (pv 1) pa_nil)))) (pg_name (i:=3) scRTwice.nd rfl (Or.inl rfl))
   (pss_cons (ps_if (pt_cmpR op_in_setT (pv 3) (pv 2) (by with_unfolding_all rfl)) (pss_one ps_dead) pss_nil)
   (pss_one (ps_expr (pe_sadd (pv 2) (pv 3) ⟨rfl,rfl,rfl,rfl⟩)))))),?_⟩
 refine ⟨rfl,fun se hse=>?_⟩
 have s1:Same H (upd H se (setO P w se (fun _=>false) 0)):=same_new hse _
 have g1:upd H se (setO P w se (fun _=>false) 0) se = some (setO P w se (fun _=>false) 0):=upd_same
 show tSeq _ _ _ _ (upd H se (setO P w se (fun _=>false) 0))
 generalize upd H se (setO P w se (fun _=>false) 0) = H1 at s1 g1 |-
 have ha1:=s1 _ _ ha
 have hp1:=pats_same s1 hp
 refine ⟨_,rfl,a,rfl,⟨_,SqL.of ha1⟩,fun D hD=>?_⟩
 refine lc_list (K:=K) (xs:=ps.map V.ref) (fun i ys H'=>Same H1 H'/\H' D = some (.lst ys)/\ys = (nms (rows.take i)).map V.str) ⟨same_new hD _,upd_same,rfl⟩ (fun i ys H' h=>SqL.of (h.1 _ _ ha1)) ?_ ?_
 ·rintro i x ys H' hlt hx ⟨sH,hDy,ey⟩
  obtain ⟨pa,hpa,rfl⟩:=refs_at hx
  obtain ⟨r,hr',dx,hdx⟩:=paired_at hp1 hpa
  have rok:=hok r (List.mem_of_getElem? hr')
  have C:=PP r.k rok.1
  have nl:ys.length<=i:=by
   rw [ey,List.length_map]
   unfold nms
   rw [List.length_map]
   refine Nat.le_trans (List.length_filter_le _ _) ?_
   rw [List.length_take]
   omega
  have hd2:=sH _ _ hdx
  refine ⟨_,rfl,pa,_,dx,_,rfl,⟨r.k,rok.1,rfl⟩,hd2,pf_no (by decide +kernel) (by decide +kernel) (by decide +kernel),pa,dx,_,_,_,_,rfl,C,hd2,_,rfl,?_⟩
  rw [in_nm r.k rok.1]
  have tk:=nm_take hr'
  refine ⟨fun e=>?_,fun e=>?_⟩
  ·rw [e,if_pos rfl] at tk
   refine ⟨_,rfl,pa,_,dx,_,_,rfl,hd2,C.cl,C.nN,pf_name,?_⟩
   refine lcN.mk hlt (le1000 (by rw [List.length_map,hp.length]; omega)) hDy nl ⟨fun b u e=>?_,upd_same,?_⟩
   ·rw [upd_ne (ne_of_none e hD)]
    exact sH b u e
   ·rw [ey,tk,List.map_append]
    rfl
  ·rw [e,if_neg Bool.false_ne_true,List.append_nil] at tk
   exact lcS.mk hlt ⟨sH,hDy,by rw [ey,tk]⟩
 rintro ys H2 ⟨s2,hDy,ey⟩
 have ey:ys = (nms rows).map V.str:=by
  rw [ey,List.length_map,hp.length,List.take_length]
 subst ey
 have hb2:=s2 _ _ (s1 _ _ hb)
 refine ⟨_,rfl,b,_,rfl,.inl (SqL.of hb2),fun l hl=>?_⟩
 have s3:=same_new hl (.lst (bars.map V.str))
 have g3:upd H2 l (.lst (bars.map V.str)) l = some (.lst (bars.map V.str)):=upd_same
 generalize upd H2 l (.lst (bars.map V.str)) = H3 at s3 g3 |-
 have ln:(nms rows).length<=500:=by
  unfold nms
  rw [List.length_map]
  exact Nat.le_trans (List.length_filter_le _ _) l1
 refine ⟨D,l,_,_,rfl,rfl,s3 _ _ hDy,g3,le1000 (by rw [List.length_map,List.length_map]; omega),fun l4 hl4=>?_⟩
 rw [<- List.map_append]
 have s4:=same_new hl4 (.lst ((nms rows ++ bars).map V.str))
 have g4:upd H3 l4 (.lst ((nms rows ++ bars).map V.str)) l4 = some (.lst ((nms rows ++ bars).map V.str)):=upd_same
 have nse:l4 ≠ se:=fun z=>by
  rw [z] at hl4
  rw [s3 _ _ (s2 _ _ g1)] at hl4
  cases hl4
 generalize upd H3 l4 (.lst ((nms rows ++ bars).map V.str)) = H4 at s4 g4 |-
 have sA:Same H1 H4:=s2.trans (s3.trans s4)
 have gse:=sA _ _ g1
 refine ⟨l4,rfl,⟨_,SqL.of g4⟩,for_list (K:=K) (a:=l4) (xs:=(nms rows ++ bars).map V.str) (fun i σ H'=>∃ (S:Str->Bool) (n:Nat) (v3:Option V),σ = [some (.ref a),some (.ref b),some (.ref se),v3]/\H' se = some (setO P w se S n)/\(∀ z,S z = decide (z ∈ (nms rows ++ bars).take i))/\n<=i/\(∀ b' u,H4 b' = some u->b' ≠ se->H' b' = some u))
  ⟨_,0,_,rfl,gse,fun z=>by simp,Nat.le_refl _,fun b' u e _=>e⟩ (fun i σ H' _ ⟨_,_,_,_,_,_,_,k⟩=>SqL.of (k _ _ g4 nse)) ?_ ?_⟩
 ·rintro i x σ H' hx ⟨S,n,v3,rfl,hS,hSz,hn,k⟩
  obtain ⟨z,hz,rfl⟩:=strs_at hx
  have hi:i < (nms rows ++ bars).length:=(List.getElem?_eq_some_iff.mp hz).1
  have ez:(nms rows ++ bars)[i] = z:=by rw [List.getElem?_eq_getElem hi] at hz; exact Option.some.inj hz
  have nz:S z = false:=by
   rw [hSz,decide_eq_false_iff_not]
   intro hm
   obtain ⟨j,hj,ej⟩:=List.mem_take_iff_getElem.mp hm
   have:=List.pairwise_iff_getElem.mp nd j i (by omega) hi (by omega)
   exact this (ej.trans ez.symm)
  refine ⟨_,rfl,_,rfl,se,S,n,z,rfl,rfl,hS,_,rfl,?_⟩
  rw [nz]
  refine iteF ?_
  refine ⟨_,rfl,se,S,n,rfl,hS,_,rfl,S,n,z,rfl,hS,?_,?_⟩
  ·rw [List.length_append] at hi
   show n + 1 < 4096
   omega
  ·refine ⟨_,_,_,rfl,upd_same,fun y=>?_,?_,fun b' u e ne=>?_⟩
   ·rw [hSz y,List.take_succ_eq_append_getElem hi,ez]
    simp [List.mem_append]
   ·rw [nz]
    show n + 1<=i + 1
    omega
   ·rw [upd_ne ne]
    exact k b' u e ne
 ·rintro σ H' ⟨S,n,v3,rfl,hS,hSz,hn,k⟩
  refine q _ fun b' u e=>k b' u (sA _ _ (s1 _ _ e)) fun z=>?_
  rw [z,hse] at e
  cases e
end
def SX (f:Addr) (H H':Hp):Prop:=∀ b u,H b = some u->b ≠ f->H' b = some u
theorem SX.same {f:Addr} {H H1 H2:Hp} (x:SX f H H1) (s:Same H1 H2):SX f H H2:=fun b u e n=>s b u (x b u e n)
theorem SX.upd {f:Addr} {H H1:Hp} {o:HO} (x:SX f H H1):SX f H (upd H1 f o):=fun b u e n=>by rw [upd_ne n]; exact x b u e n
theorem SX.refl {f:Addr} {H:Hp}:SX f H H:=fun _ _ e _=>e
theorem putF_le (f:Str) (v:V):∀ fs:List (Str × V),(putF f v fs).length<=fs.length + 1
 | []=>Nat.le_refl _
 | (g,x) :: r=>by
  show (if g = f then (g,v) :: r else (g,x) :: putF f v r).length<=_
  split
  ·simp
  ·have:=putF_le f v r
   simp only [List.length_cons]
   omega
def Pre (fs:List (Str × V)):Prop:=fs.length<=50/\∀ m,m ∉ attrs->fs.lookup m = none
structure FC (K:PySem.W.Frag) (CF:Addr):Prop where
 cl:Cls K CF
 n1:NoAttr K CF "row"
 n2:NoAttr K CF "bar_names"
 n3:NoAttr K CF "place_count"
 n4:NoAttr K CF "tail_number"
 n5:NoAttr K CF "bag_number"
 n6:NoAttr K CF "doors"
def spKeep (c:C5) (CF:Addr):Sp:=fun vs H Q _=>∃ (f a b dx:Addr) (fs:List (Str × V)) (ps:List Addr) (rows:List Rw) (bars:List Str),vs = [.ref f,.ref a,.ref b]/\H f = some (.ins CF dx fs)/\Pre fs/\H a = some (.lst (ps.map V.ref))/\Paired (PAt c H) ps rows/\(∀ r ∈ rows,r.ok)/\rows.length<=500/\H b = some (.lst (bars.map V.str))/\
 ∀ H',SX f H H'->FormN c CF H H' f rows bars->(∃ dx' fs',H' f = some (.ins CF dx' fs')/\fs'.length<=fs.length + 6)->Q .non H'
theorem pl_take {rows:List Rw} {i:Nat} {r:Rw} (h:rows[i]? = some r):plN (rows.take (i + 1)) = plN (rows.take i) + (if byPl r.k = true then 1 else 0):=by
 have hi:i < rows.length:=(List.getElem?_eq_some_iff.mp h).1
 have e:rows[i] = r:=by rw [List.getElem?_eq_getElem hi] at h; exact Option.some.inj h
 unfold plN
 rw [List.take_succ_eq_append_getElem hi,List.filter_append,List.length_append,e]
 cases hb:byPl r.k <;> simp [hb]
theorem doors_len:∀ (rows:List Rw) (i:Nat) (acc:List (Key × V)),(doorsF i acc rows).length<=acc.length + rows.length
 | [],_,_=>Nat.le_refl _
 | r :: rs,i,acc=>by
  have h:=doors_len rs (i + 1) (if byNm r.k = true then putK acc (.inr r.z) (.int i) else acc)
  have h2:(if byNm r.k = true then putK acc (.inr r.z) (.int i) else acc).length<=acc.length + 1:=by
   split
   ·exact length_putK acc _ _
   ·omega
  show (doorsF (i + 1) _ rs).length<=acc.length + (rs.length + 1)
  omega
theorem doorsF_take {r:Rw}:∀ (rows:List Rw) (j i:Nat) (acc:List (Key × V)),rows[i]? = some r->doorsF j acc (rows.take (i + 1)) = (if byNm r.k = true then putK (doorsF j acc (rows.take i)) (.inr r.z) (.int (j + i:Nat)) else doorsF j acc (rows.take i))
 | [],_,_,_,h=>by simp at h
 | r0 :: rs,j,0,acc,h=>by
  have e:r0 = r:=by simpa using h
  subst e
  show (if byNm r0.k = true then putK acc (.inr r0.z) (.int j) else acc) = _
  rfl
 | r0 :: rs,j,i + 1,acc,h=>by
  have:=doorsF_take rs (j + 1) i (if byNm r0.k = true then putK acc (.inr r0.z) (.int j) else acc) (by simpa using h)
  show doorsF (j + 1) _ (rs.take (i + 1)) = _
  rw [this,show j + 1 + i = j + (i + 1) by omega]
  rfl
section
variable {P:Program} {w:World} {K:PySem.W.Frag} {mg:Str->Option Value} {base:Heap} {f G sg CF:Addr} {fd:FuncData} {c:C5} {m:MA}
theorem PAt.ne {H:Hp} {p f CF dx:Addr} {r:Rw} {fs:List (Str × V)} (h:PAt c H p r) (e:H f = some (.ins CF dx fs)) (n:fs.lookup ("word" : Str) = none):p ≠ f:=fun z=>by
 obtain ⟨d,h⟩:=h
 rw [z,e] at h
 injection h with h
 injection h with h1 h2 h3
 rw [h3,pf_word] at n
 cases n
theorem pats_sx {H H':Hp} {f CF dx:Addr} {fs:List (Str × V)} (e:H f = some (.ins CF dx fs)) (n:fs.lookup ("word" : Str) = none) (x:SX f H H') {ps:List Addr} {rows:List Rw} (h:Paired (PAt c H) ps rows):Paired (PAt c H') ps rows:=
 Paired.imp' (fun _ _ z=>by
  have ne:=z.ne e n
  obtain ⟨d,q⟩:=z
  exact ⟨d,x _ _ q ne⟩) h
theorem ndAP:([Str.ofString "at",Str.ofString "parameter"]:List Str).Nodup:=by decide +kernel
theorem scKeep:FnScope ["self","parameters","bars"] ["self","parameters","bars"] (defScope sKeep):=⟨rfl,rfl,rfl,by decide +kernel,rfl,by decide +kernel,by decide +kernel⟩
theorem ok_keep {g:Addr} {gd gp gb:FuncData} (F:Fun K "keep" "Form.keep" sKeep f fd) (T:TxtF w K mg G sg) (PP:Pcs K m c) (FK:FC K CF) (cW:Callee P w K mg base 1 "number_of_word" g gd ["parameters","word"] (spNW c))
  (GP:FnOk P w K mg base CX0 1 m.fP gp ["self"] (spIn K m bpL)) (bP:Binds K gp ["self"] []) (GB:FnOk P w K mg base CX0 1 m.fB gb ["self"] (spIn K m bnL)) (bB:Binds K gb ["self"] []):FnOk P w K mg base CX0 2 f fd ["self","parameters","bars"] (spKeep c CF):=by
 refine F.ok scKeep (fun vs H Q E h=>?_) (fun cdv A outer s H vs Q E hr h=>?_)
 ·obtain ⟨f,a,b,dx,fs,ps,rows,bars,rfl,_⟩:=h
  rfl
 obtain ⟨f,a,b,dx,fs,ps,rows,bars,rfl,hf,⟨pl,pn⟩,ha,hp,hok,l5,hb,q⟩:=h
 have hP:∀ C,Cs5 c C->Cls K C/\Meth K C "by_place" m.fP:=fun C ⟨k,hk,e⟩=>by rw [e]; exact ⟨(PP k hk).cl,(PP k hk).mP⟩
 have hB:∀ C,Cs5 c C->Cls K C/\Meth K C "by_name" m.fB:=fun C ⟨k,hk,e⟩=>by rw [e]; exact ⟨(PP k hk).cl,(PP k hk).mB⟩
 have nw:fs.lookup ("word" : Str) = none:=pn _ (by decide +kernel)
 refine ⟨_,pss_cons (ps_fld (pv 0) (cTy call_list_of T.lst PyProof.Rows.boot_list (ac (pv 1) pa_nil)) rfl)
  (pss_cons (ps_fld (pv 0) (cTy call_list_of T.lst PyProof.Rows.boot_list (ac (pv 2) pa_nil)) rfl)
  (pss_cons (ps_fld (pv 0) (cB call_len_seq T.len PySem.boot_len (ac (pe_lc [] ["parameter"] [none] rfl ⟨rfl,rfl,rfl,rfl⟩ (pi_list (pe_fld (pv 0) rfl)) (gown_name 0) rfl rfl rfl
    (fun pins fp s H C=>⟨pg_name (i:=0) ndPm rfl (Or.inl rfl) (.inr rfl),pif_one (pt_val (pe_methP (pv 0) hP GP hr bP pass0)),pv 0⟩)) pa_nil)) rfl)
  (pss_cons (ps_fld (pv 0) (cF cW hr (ac (pe_fld (pv 0) rfl) (ac pe_str pa_nil))) rfl)
  (pss_cons (ps_fld (pv 0) (cF cW hr (ac (pe_fld (pv 0) rfl) (ac pe_str pa_nil))) rfl)
  (pss_one (ps_fld (pv 0) (pe_dc [] ["at","parameter"] [none,none] rfl ⟨rfl,rfl,rfl,rfl⟩ (pi_enum rfl T.en (ac (pe_fld (pv 0) rfl) pa_nil)) (gown_tup2 (K:=K) (n:=2) 0 1) rfl rfl rfl
    (fun pins fp s H C=>⟨pg_tup rfl (pgs_cons (pg_name (i:=0) ndAP rfl (Or.inl rfl) (.inr rfl)) (pgs_cons (pg_name (i:=1) ndAP rfl (Or.inl rfl) (.inr rfl)) pgs_nil)),pif_one (pt_val (pe_methP (pv 1) hB GB hr bB pass0)),pe_fldK (K:=K) rfl (pv 1) rfl,pv 0⟩)) rfl)))))),?_⟩
 refine ⟨_,rfl,a,_,rfl,.inl (SqL.of ha),fun l1 hl1=>?_⟩
 have s1:=same_new hl1 (.lst (ps.map V.ref))
 refine ⟨_,rfl,f,CF,dx,fs,rfl,s1 _ _ hf,FK.cl,FK.n1,(by omega),?_⟩
 have x1:SX f H (upd (upd H l1 (.lst (ps.map V.ref))) f (.ins CF dx (putF "row" (.ref l1) fs))):=(SX.refl.same s1).upd
 have f1:upd (upd H l1 (.lst (ps.map V.ref))) f (.ins CF dx (putF "row" (.ref l1) fs)) f = some (.ins CF dx (putF "row" (.ref l1) fs)):=upd_same
 have e1:upd (upd H l1 (.lst (ps.map V.ref))) f (.ins CF dx (putF "row" (.ref l1) fs)) l1 = some (.lst (ps.map V.ref)):=by
  rw [upd_ne (fun z=>by rw [z,hf] at hl1; cases hl1),upd_same]
 have p1:=putF_le "row" (.ref l1) fs
 have r1:(putF "row" (.ref l1) fs).lookup ("row" : Str) = some (.ref l1):=by rw [lookup_putF,if_pos rfl]
 show tSeq _ _ _ _ (upd (upd H l1 (.lst (ps.map V.ref))) f (.ins CF dx (putF "row" (.ref l1) fs)))
 generalize upd (upd H l1 (.lst (ps.map V.ref))) f (.ins CF dx (putF "row" (.ref l1) fs)) = H1 at x1 f1 e1 |-
 have nbf:b ≠ f:=ne_of hb hf (by intro z; cases z)
 refine ⟨_,rfl,b,_,rfl,.inl (SqL.of (x1 _ _ hb nbf)),fun l2 hl2=>?_⟩
 have s2:=same_new hl2 (.lst (bars.map V.str))
 have hlb:H l2 = none:=by
  cases e:H l2 with
  | none=>rfl
  | some u=>exact absurd (x1 _ _ e (fun z=>by rw [z,f1] at hl2; cases hl2)) (by rw [hl2]; intro z; cases z)
 refine ⟨_,rfl,f,CF,dx,_,rfl,s2 _ _ f1,FK.cl,FK.n2,(by omega),?_⟩
 have x2:SX f H (upd (upd H1 l2 (.lst (bars.map V.str))) f (.ins CF dx (putF "bar_names" (.ref l2) (putF "row" (.ref l1) fs)))):=(x1.same s2).upd
 have f2:upd (upd H1 l2 (.lst (bars.map V.str))) f (.ins CF dx (putF "bar_names" (.ref l2) (putF "row" (.ref l1) fs))) f = some (.ins CF dx (putF "bar_names" (.ref l2) (putF "row" (.ref l1) fs))):=upd_same
 have g2:upd (upd H1 l2 (.lst (bars.map V.str))) f (.ins CF dx (putF "bar_names" (.ref l2) (putF "row" (.ref l1) fs))) l2 = some (.lst (bars.map V.str)):=by
  rw [upd_ne (fun z=>by rw [z,f1] at hl2; cases hl2),upd_same]
 have e2:upd (upd H1 l2 (.lst (bars.map V.str))) f (.ins CF dx (putF "bar_names" (.ref l2) (putF "row" (.ref l1) fs))) l1 = some (.lst (ps.map V.ref)):=by
  rw [upd_ne (ne_of e1 f1 (by intro z; cases z)),s2 _ _ e1]
 have p2:=putF_le "bar_names" (.ref l2) (putF "row" (.ref l1) fs)
 have r2:(putF "bar_names" (.ref l2) (putF "row" (.ref l1) fs)).lookup ("row" : Str) = some (.ref l1):=by rw [lookup_putF,if_neg (by decide +kernel)]; exact r1
 show tSeq _ _ _ _ (upd (upd H1 l2 (.lst (bars.map V.str))) f (.ins CF dx (putF "bar_names" (.ref l2) (putF "row" (.ref l1) fs))))
 generalize hfs2:putF "bar_names" (.ref l2) (putF "row" (.ref l1) fs) = fs2 at f2 e2 g2 p2 r2 x2 |-
 generalize upd (upd H1 l2 (.lst (bars.map V.str))) f (.ins CF dx fs2) = H2 at x2 f2 e2 g2 |-
 have hp2:=pats_sx hf nw x2 hp
 refine ⟨_,rfl,f,CF,dx,_,_,rfl,f2,FK.cl,FK.n1,r2,l1,rfl,⟨_,SqL.of e2⟩,fun D hD=>?_⟩
 refine lc_list (K:=K) (xs:=ps.map V.ref) (fun i ys H'=>Same H2 H'/\H' D = some (.lst ys)/\ys.length = plN (rows.take i)) ⟨same_new hD _,upd_same,rfl⟩ (fun i ys H' h=>SqL.of (h.1 _ _ e2)) ?_ ?_
 ·rintro i x ys H' hlt hx ⟨sH,hDy,ey⟩
  obtain ⟨pa,hpa,rfl⟩:=refs_at hx
  obtain ⟨r,hr',dx',hdx⟩:=paired_at hp2 hpa
  have rok:=hok r (List.mem_of_getElem? hr')
  have C:=PP r.k rok.1
  have nl:ys.length<=i:=by
   rw [ey]
   unfold plN
   refine Nat.le_trans (List.length_filter_le _ _) ?_
   rw [List.length_take]
   omega
  have hd2:=sH _ _ hdx
  refine ⟨_,rfl,pa,_,dx',_,rfl,⟨r.k,rok.1,rfl⟩,hd2,pf_no (by decide +kernel) (by decide +kernel) (by decide +kernel),pa,dx',_,_,_,_,rfl,C,hd2,_,rfl,?_⟩
  rw [in_pl r.k rok.1]
  have tk:=pl_take hr'
  refine ⟨fun e=>?_,fun e=>?_⟩
  ·rw [e,if_pos rfl] at tk
   refine ⟨_,rfl,lcN.mk hlt (le1000 (by rw [List.length_map,hp.length]; omega)) hDy nl ⟨fun b u e=>?_,upd_same,?_⟩⟩
   ·rw [upd_ne (ne_of_none e hD)]
    exact sH b u e
   ·rw [List.length_append,ey,tk]
    rfl
  ·rw [e,if_neg Bool.false_ne_true] at tk
   exact lcS.mk hlt ⟨sH,hDy,by rw [ey,tk]; rfl⟩
 rintro ys H3 ⟨s3,hDy,ey⟩
 rw [List.length_map,hp.length,List.take_length] at ey
 refine ⟨D,_,rfl,.inl (SqL.of hDy),?_⟩
 rw [ey]
 have x3:=x2.same s3
 refine ⟨_,rfl,f,CF,dx,_,rfl,s3 _ _ f2,FK.cl,FK.n3,(by omega),?_⟩
 have f3:upd H3 f (.ins CF dx (putF "place_count" (.int (plN rows:Nat)) fs2)) f = some (.ins CF dx (putF "place_count" (.int (plN rows:Nat)) fs2)):=upd_same
 have x4:SX f H (upd H3 f (.ins CF dx (putF "place_count" (.int (plN rows:Nat)) fs2))):=x3.upd
 have e4:upd H3 f (.ins CF dx (putF "place_count" (.int (plN rows:Nat)) fs2)) l1 = some (.lst (ps.map V.ref)):=by rw [upd_ne (ne_of e2 f2 (by intro z; cases z))]; exact s3 _ _ e2
 have g4:upd H3 f (.ins CF dx (putF "place_count" (.int (plN rows:Nat)) fs2)) l2 = some (.lst (bars.map V.str)):=by rw [upd_ne (ne_of g2 f2 (by intro z; cases z))]; exact s3 _ _ g2
 have p3:=putF_le "place_count" (.int (plN rows:Nat)) fs2
 have r3:(putF "place_count" (.int (plN rows:Nat)) fs2).lookup ("row" : Str) = some (.ref l1):=by rw [lookup_putF,if_neg (by decide +kernel)]; exact r2
 show tSeq _ _ _ _ (upd H3 f (.ins CF dx (putF "place_count" (.int (plN rows:Nat)) fs2)))
 generalize hfs3:putF "place_count" (.int (plN rows:Nat)) fs2 = fs3 at f3 x4 e4 g4 p3 r3 |-
 generalize upd H3 f (.ins CF dx fs3) = H4 at x4 f3 e4 g4 |-
 refine ⟨_,rfl,f,CF,dx,_,_,rfl,f3,FK.cl,FK.n1,r3,l1,ps,rows,2,rfl,by decide,e4,pats_sx hf nw x4 hp,hok,fun H5 s5=>?_⟩
 refine ⟨_,rfl,f,CF,dx,_,rfl,s5 _ _ f3,FK.cl,FK.n4,(by omega),?_⟩
 have f5:upd H5 f (.ins CF dx (putF "tail_number" (numV (firstK 2 0 rows)) fs3)) f = some (.ins CF dx (putF "tail_number" (numV (firstK 2 0 rows)) fs3)):=upd_same
 have x5:SX f H (upd H5 f (.ins CF dx (putF "tail_number" (numV (firstK 2 0 rows)) fs3))):=(x4.same s5).upd
 have e5:upd H5 f (.ins CF dx (putF "tail_number" (numV (firstK 2 0 rows)) fs3)) l1 = some (.lst (ps.map V.ref)):=by rw [upd_ne (ne_of e4 f3 (by intro z; cases z))]; exact s5 _ _ e4
 have g5:upd H5 f (.ins CF dx (putF "tail_number" (numV (firstK 2 0 rows)) fs3)) l2 = some (.lst (bars.map V.str)):=by rw [upd_ne (ne_of g4 f3 (by intro z; cases z))]; exact s5 _ _ g4
 have p4:=putF_le "tail_number" (numV (firstK 2 0 rows)) fs3
 have r4:(putF "tail_number" (numV (firstK 2 0 rows)) fs3).lookup ("row" : Str) = some (.ref l1):=by rw [lookup_putF,if_neg (by decide +kernel)]; exact r3
 show tSeq _ _ _ _ (upd H5 f (.ins CF dx (putF "tail_number" (numV (firstK 2 0 rows)) fs3)))
 generalize hfs4:putF "tail_number" (numV (firstK 2 0 rows)) fs3 = fs4 at f5 x5 e5 g5 p4 r4 |-
 generalize upd H5 f (.ins CF dx fs4) = H6 at x5 f5 e5 g5 |-
 refine ⟨_,rfl,f,CF,dx,_,_,rfl,f5,FK.cl,FK.n1,r4,l1,ps,rows,4,rfl,by decide,e5,pats_sx hf nw x5 hp,hok,fun H7 s7=>?_⟩
 refine ⟨_,rfl,f,CF,dx,_,rfl,s7 _ _ f5,FK.cl,FK.n5,(by omega),?_⟩
 have f7:upd H7 f (.ins CF dx (putF "bag_number" (numV (firstK 4 0 rows)) fs4)) f = some (.ins CF dx (putF "bag_number" (numV (firstK 4 0 rows)) fs4)):=upd_same
 have x7:SX f H (upd H7 f (.ins CF dx (putF "bag_number" (numV (firstK 4 0 rows)) fs4))):=(x5.same s7).upd
 have e7:upd H7 f (.ins CF dx (putF "bag_number" (numV (firstK 4 0 rows)) fs4)) l1 = some (.lst (ps.map V.ref)):=by rw [upd_ne (ne_of e5 f5 (by intro z; cases z))]; exact s7 _ _ e5
 have g7:upd H7 f (.ins CF dx (putF "bag_number" (numV (firstK 4 0 rows)) fs4)) l2 = some (.lst (bars.map V.str)):=by rw [upd_ne (ne_of g5 f5 (by intro z; cases z))]; exact s7 _ _ g5
 have p5:=putF_le "bag_number" (numV (firstK 4 0 rows)) fs4
 have r5:(putF "bag_number" (numV (firstK 4 0 rows)) fs4).lookup ("row" : Str) = some (.ref l1):=by rw [lookup_putF,if_neg (by decide +kernel)]; exact r4
 generalize hfs5:putF "bag_number" (numV (firstK 4 0 rows)) fs4 = fs5 at f7 x7 e7 g7 p5 r5 |-
 generalize upd H7 f (.ins CF dx fs5) = H8 at x7 f7 e7 g7 |-
 have hp8:=pats_sx hf nw x7 hp
 refine ⟨_,rfl,f,CF,dx,_,_,rfl,f7,FK.cl,FK.n1,r5,l1,rfl,⟨_,SqL.of e7⟩,fun D2 hD2=>?_⟩
 refine dc_enum (K:=K) (xs:=ps.map V.ref) (fun i ys H'=>Same H8 H'/\H' D2 = some (.dK ys)/\ys = doorsF 0 [] (rows.take i)) ⟨same_new hD2 _,upd_same,rfl⟩ (fun i ys H' h=>SqL.of (h.1 _ _ e7)) ?_ ?_
 ·rintro i x p ys H' hlt hx ⟨sH,hDy,ey⟩ hpn
  obtain ⟨pa,hpa,rfl⟩:=refs_at hx
  obtain ⟨r,hr',dx',hdx⟩:=paired_at hp8 hpa
  have rok:=hok r (List.mem_of_getElem? hr')
  have C:=PP r.k rok.1
  have sp:=same_new hpn (.tup [.int (i:Nat),.ref pa])
  have hd2:=sp _ _ (sH _ _ hdx)
  have hDp:upd H' p (.tup [.int (i:Nat),.ref pa]) D2 = some (.dK ys):=by rw [upd_ne (ne_of_none hDy hpn)]; exact hDy
  have nl:ys.length<=i:=by
   rw [ey]
   refine Nat.le_trans (doors_len _ _ _) ?_
   rw [List.length_take]
   show 0 + _<=i
   omega
  refine ⟨p,_,rfl,SqT.of upd_same,rfl,_,_,rfl,_,_,rfl,rfl,?_⟩
  refine ⟨_,rfl,pa,_,dx',_,rfl,⟨r.k,rok.1,rfl⟩,hd2,pf_no (by decide +kernel) (by decide +kernel) (by decide +kernel),pa,dx',_,_,_,_,rfl,C,hd2,_,rfl,?_⟩
  rw [in_nm r.k rok.1]
  have tk:=doorsF_take rows 0 i [] hr'
  refine ⟨fun e=>?_,fun e=>?_⟩
  ·rw [e,if_pos rfl] at tk
   refine ⟨_,rfl,pa,_,dx',_,_,rfl,hd2,C.cl,C.nN,pf_name,_,rfl,dcN.mk (.inr r.z) hlt rfl (le1000 (by rw [List.length_map,hp.length]; omega)) hDp nl ⟨fun b u e=>?_,upd_same,?_⟩⟩
   ·rw [upd_ne (ne_of_none e hD2)]
    exact sp _ _ (sH b u e)
   ·rw [tk,<- ey,Nat.zero_add]
  ·rw [e,if_neg Bool.false_ne_true] at tk
   exact dcS.mk hlt ⟨sH.trans sp,hDp,by rw [ey,tk]⟩
 rintro ys H9 ⟨s9,hDy,ey⟩
 rw [List.length_map,hp.length,List.take_length] at ey
 refine ⟨_,rfl,f,CF,dx,_,rfl,s9 _ _ f7,FK.cl,FK.n6,(by omega),?_⟩
 have nf:∀ {x:Addr} {o:HO},H9 x = some o->(∀ C d g,o ≠ .ins C d g)->upd H9 f (.ins CF dx (putF "doors" (.ref D2) fs5)) x = some o:=fun {x o} e n=>by
  rw [upd_ne (ne_of e (s9 _ _ f7) (by intro z; exact n _ _ _ z))]
  exact e
 refine q _ (x7.same s9).upd ⟨dx,_,l1,l2,D2,ps,upd_same,?_,nf (s9 _ _ e7) (by intro _ _ _ z; cases z),pats_sx hf nw (x7.same s9).upd hp,nf (s9 _ _ g7) (by intro _ _ _ z; cases z),nf (by rw [hDy,ey]) (by intro _ _ _ z; cases z),hl1,hlb⟩ ⟨dx,_,upd_same,Nat.le_trans (putF_le _ _ _) (by omega)⟩
 rw [<- hfs5,<- hfs4,<- hfs3,<- hfs2]
 refine ⟨?_,?_,?_,?_,?_,?_,fun mm hm=>?_⟩
 ·rw [lookup_putF,if_neg (by decide +kernel),lookup_putF,if_neg (by decide +kernel),lookup_putF,if_neg (by decide +kernel),lookup_putF,if_neg (by decide +kernel),lookup_putF,if_neg (by decide +kernel),lookup_putF,if_pos rfl]
 ·rw [lookup_putF,if_neg (by decide +kernel),lookup_putF,if_neg (by decide +kernel),lookup_putF,if_neg (by decide +kernel),lookup_putF,if_neg (by decide +kernel),lookup_putF,if_pos rfl]
 ·rw [lookup_putF,if_neg (by decide +kernel),lookup_putF,if_neg (by decide +kernel),lookup_putF,if_neg (by decide +kernel),lookup_putF,if_pos rfl]
 ·rw [lookup_putF,if_neg (by decide +kernel),lookup_putF,if_neg (by decide +kernel),lookup_putF,if_pos rfl]
 ·rw [lookup_putF,if_neg (by decide +kernel),lookup_putF,if_pos rfl]
 ·rw [lookup_putF,if_pos rfl]
 ·have h':∀ a ∈ attrs,¬ mm = a:=fun a ha e=>hm (e ▸ ha)
  rw [lookup_putF,if_neg (h' _ (by decide +kernel)),lookup_putF,if_neg (h' _ (by decide +kernel)),lookup_putF,if_neg (h' _ (by decide +kernel)),lookup_putF,if_neg (h' _ (by decide +kernel)),lookup_putF,if_neg (h' _ (by decide +kernel)),lookup_putF,if_neg (h' _ (by decide +kernel))]
  exact pn mm hm
end
def spFI (c:C5) (CF:Addr):Sp:=fun vs H Q _=>∃ (f a dx:Addr) (bv:V) (ps:List Addr) (rows:List Rw) (bars:List Str),vs = [.ref f,.ref a,bv]/\H f = some (.ins CF dx [])/\H a = some (.lst (ps.map V.ref))/\Paired (PAt c H) ps rows/\((bv = .non/\bars = [])\/∃ b,bv = .ref b/\H b = some (.lst (bars.map V.str)))/\Valid rows bars/\
 ∀ H',SX f H H'->FormN c CF H H' f rows bars->(∃ dx' fs',H' f = some (.ins CF dx' fs')/\fs'.length<=6)->Q .non H'
def spPars (c:C5) (CF:Addr):Sp:=fun vs H Q _=>∃ (f:Addr) (rows:List Rw) (bars:List Str),vs = [.ref f]/\FormAt c CF H f rows bars/\∀ (l:Addr) (ps:List Addr) (H':Hp),Same H H'->H l = none->H' l = some (.lst (ps.map V.ref))->Paired (PAt c H') ps rows->Q (.ref l) H'
def spBars (c:C5) (CF:Addr):Sp:=fun vs H Q _=>∃ (f:Addr) (rows:List Rw) (bars:List Str),vs = [.ref f]/\FormAt c CF H f rows bars/\∀ (l:Addr) (H':Hp),Same H H'->H l = none->H' l = some (.lst (bars.map V.str))->Q (.ref l) H'
def spPlaces (c:C5) (CF:Addr):Sp:=fun vs H Q _=>∃ (f:Addr) (rows:List Rw) (bars:List Str),vs = [.ref f]/\FormAt c CF H f rows bars/\Q (.int (plN rows:Nat)) H
def spWord (c:C5) (CF:Addr) (kk:Nat):Sp:=fun vs H Q _=>∃ (f:Addr) (rows:List Rw) (bars:List Str),vs = [.ref f]/\FormAt c CF H f rows bars/\Q (numV (firstK kk 0 rows)) H
def spNum (c:C5) (CF:Addr):Sp:=fun vs H Q _=>∃ (f:Addr) (z:Str) (rows:List Rw) (bars:List Str),vs = [.ref f,.str z]/\FormAt c CF H f rows bars/\Q ((valV (doorsF 0 [] rows) (.inr z)).getD .non) H
def TAt (H:Hp) (u:Addr) (r:Rw):Prop:=H u = some (.tup (rv r))
theorem tats_same {H H':Hp} {us:List Addr} {rows:List Rw} (s:Same H H') (h:Paired (TAt H) us rows):Paired (TAt H') us rows:=Paired.imp' (fun _ _ z=>s _ _ z) h
section
variable {P:Program} {w:World} {K:PySem.W.Frag} {mg:Str->Option Value} {base:Heap} {f G sg CF:Addr} {fd:FuncData} {c:C5} {m:MA}
theorem scFInit:FnScope ["self","parameters","bars","names"] ["self","parameters","bars"] (defScope sFInit):=⟨rfl,rfl,rfl,by decide +kernel,rfl,by decide +kernel,by decide +kernel⟩
theorem ok_finit {ds:List Value} {g1 g2 g3 g4 g5:Addr} {e1 e2 e3 e4 e5:FuncData} (F:FunD K "__init__" "Form.__init__" sFInit f fd ds) (FK:FC K CF) (mK:Meth K CF "keep" g5)
  (cM:Callee P w K mg base 1 "refuse_too_many" g1 e1 ["parameters","bars"] (spMany K)) (cO:Callee P w K mg base 1 "refuse_bad_order" g2 e2 ["parameters"] (spOrd c)) (cB':Callee P w K mg base 2 "refuse_bars_without_name" g3 e3 ["bars"] spRB) (cT:Callee P w K mg base 2 "refuse_twice" g4 e4 ["parameters","bars"] (spTw c))
  (GK:FnOk P w K mg base CX0 2 g5 e5 ["self","parameters","bars"] (spKeep c CF)) (bK:Binds K e5 ["self","parameters","bars"] []):FnOk P w K mg base CX0 3 f fd ["self","parameters","bars"] (spFI c CF):=by
 refine F.ok scFInit (fun vs H Q E h=>?_) (fun cdv A outer s H vs Q E hr h=>?_)
 ·obtain ⟨f,a,dx,bv,ps,rows,bars,rfl,_⟩:=h
  rfl
 obtain ⟨f,a,dx,bv,ps,rows,bars,rfl,hf,ha,hp,hb,V',q⟩:=h
 have hr1:Room 1 _:=hr.mono (by decide)
 refine ⟨_,pss_cons (ps_set (i:=3) scFInit.nd rfl (Or.inl rfl) (pe_ifExp (pt_cmp (pc_isN (pv 2))) (pe_lst pa_nil) (pv 2)))
  (pss_cons (ps_expr (cF cM hr1 (ac (pv 1) (ac (pv 3) pa_nil))))
  (pss_cons (ps_expr (cF cO hr1 (ac (pv 1) pa_nil)))
  (pss_cons (ps_expr (cF cB' hr (ac (pv 3) pa_nil)))
  (pss_cons (ps_expr (cF cT hr (ac (pv 1) (ac (pv 3) pa_nil))))
  (pss_one (ps_expr (pe_meth (pv 0) FK.cl mK GK hr bK .nil pass0 (ac (pv 1) (ac (pv 3) pa_nil))))))))),?_⟩
 try dsimp only
 refine seq_via (fun σ' H'=>∃ b,σ' = [some (.ref f),some (.ref a),some bv,some (.ref b)]/\Same H H'/\H' b = some (.lst (bars.map V.str))) ?_ (fun key=>?_)
 rotate_left
 ·rcases hb with ⟨rfl,rfl⟩ | ⟨b,rfl,hb⟩
  ·refine ⟨_,rfl,_,rfl,?_⟩
   refine dT rfl ?_
   refine ⟨(by show 0<=sizeLine; decide),fun l hl=>?_⟩
   exact key _ _ ⟨l,rfl,same_new hl _,upd_same⟩
  ·refine ⟨_,rfl,_,rfl,?_⟩
   refine dF (by intro z; cases z) ?_
   exact ⟨_,rfl,key _ _ ⟨b,rfl,Same.refl _,hb⟩⟩
 rintro σ1 H1 ⟨b,rfl,s1,hb1⟩
 have ha1:=s1 _ _ ha
 refine ⟨_,rfl,_,rfl,a,b,_,_,rfl,SqL.of ha1,SqL.of hb1,(by rw [List.length_map,hp.length]; exact V'.l24),(by rw [List.length_map]; exact V'.l60),?_⟩
 refine ⟨_,rfl,a,ps,rows,rfl,ha1,pats_same s1 hp,V'.ok,V'.ord,fun H2 s2=>?_⟩
 refine ⟨_,rfl,b,bars,rfl,s2 _ _ hb1,V'.bn,fun H3 s3=>?_⟩
 have s13:=s1.trans (s2.trans s3)
 refine ⟨_,rfl,_,rfl,a,b,ps,rows,bars,rfl,s13 _ _ ha,pats_same s13 hp,V'.ok,Nat.le_trans V'.l24 (by decide),s3 _ _ (s2 _ _ hb1),Nat.le_trans V'.l60 (by decide),V'.nd,fun H4 s4=>?_⟩
 have s14:=s13.trans s4
 refine ⟨_,rfl,f,dx,_,rfl,s14 _ _ hf,rfl,_,rfl,_,rfl,f,a,b,dx,[],ps,rows,bars,rfl,s14 _ _ hf,⟨by decide,fun _ _=>rfl⟩,s14 _ _ ha,pats_same s14 hp,V'.ok,Nat.le_trans V'.l24 (by decide),s4 _ _ (s3 _ _ (s2 _ _ hb1)),fun H5 x5 F5 L5=>?_⟩
 exact q _ (fun b' u e n=>x5 b' u (s14 _ _ e) n) (F5.of s14) L5
theorem scFPars:FnScope ["self"] ["self"] (defScope sFPars):=⟨rfl,rfl,rfl,by decide +kernel,rfl,by decide +kernel,by decide +kernel⟩
theorem ok_fpars (F:Fun K "parameters" "Form.parameters" sFPars f fd) (T:TxtF w K mg G sg) (FK:FC K CF):FnOk P w K mg base CX0 1 f fd ["self"] (spPars c CF):=by
 refine F.ok scFPars (fun vs H Q E h=>?_) (fun cdv A outer s H vs Q E hr h=>?_)
 ·obtain ⟨f,rows,bars,rfl,_⟩:=h
  rfl
 obtain ⟨f,rows,bars,rfl,⟨dx,fs,lr,lb,ld,ps,h1,h2,h3,h4,h5,h6⟩,q⟩:=h
 refine ⟨_,pss_one (ps_ret (cTy call_list_of T.lst PyProof.Rows.boot_list (ac (pe_fld (pv 0) rfl) pa_nil))),?_⟩
 refine ⟨_,rfl,f,CF,dx,_,_,rfl,h1,FK.cl,FK.n1,h2.row,lr,_,rfl,.inl (SqL.of h3),fun l hl=>?_⟩
 have s1:=same_new hl (.lst (ps.map V.ref))
 exact q l ps _ s1 hl upd_same (pats_same s1 h4)
theorem scFBars:FnScope ["self"] ["self"] (defScope sFBars):=⟨rfl,rfl,rfl,by decide +kernel,rfl,by decide +kernel,by decide +kernel⟩
theorem ok_fbars (F:Fun K "bars" "Form.bars" sFBars f fd) (T:TxtF w K mg G sg) (FK:FC K CF):FnOk P w K mg base CX0 1 f fd ["self"] (spBars c CF):=by
 refine F.ok scFBars (fun vs H Q E h=>?_) (fun cdv A outer s H vs Q E hr h=>?_)
 ·obtain ⟨f,rows,bars,rfl,_⟩:=h
  rfl
 obtain ⟨f,rows,bars,rfl,⟨dx,fs,lr,lb,ld,ps,h1,h2,h3,h4,h5,h6⟩,q⟩:=h
 refine ⟨_,pss_one (ps_ret (cTy call_list_of T.lst PyProof.Rows.boot_list (ac (pe_fld (pv 0) rfl) pa_nil))),?_⟩
 refine ⟨_,rfl,f,CF,dx,_,_,rfl,h1,FK.cl,FK.n2,h2.bn,lb,_,rfl,.inl (SqL.of h5),fun l hl=>?_⟩
 exact q l _ (same_new hl _) hl upd_same
theorem scFPlaces:FnScope ["self"] ["self"] (defScope sFPlaces):=⟨rfl,rfl,rfl,by decide +kernel,rfl,by decide +kernel,by decide +kernel⟩
theorem ok_fplaces (F:Fun K "places" "Form.places" sFPlaces f fd) (FK:FC K CF):FnOk P w K mg base CX0 1 f fd ["self"] (spPlaces c CF):=by
 refine F.ok scFPlaces (fun vs H Q E h=>?_) (fun cdv A outer s H vs Q E hr h=>?_)
 ·obtain ⟨f,rows,bars,rfl,_⟩:=h
  rfl
 obtain ⟨f,rows,bars,rfl,⟨dx,fs,lr,lb,ld,ps,h1,h2,h3,h4,h5,h6⟩,q⟩:=h
 exact ⟨_,pss_one (ps_ret (pe_fld (pv 0) rfl)),_,rfl,f,CF,dx,_,_,rfl,h1,FK.cl,FK.n3,h2.pc,q⟩
theorem scFTail:FnScope ["self"] ["self"] (defScope sFTail):=⟨rfl,rfl,rfl,by decide +kernel,rfl,by decide +kernel,by decide +kernel⟩
theorem ok_ftail (F:Fun K "tail" "Form.tail" sFTail f fd) (FK:FC K CF):FnOk P w K mg base CX0 1 f fd ["self"] (spWord c CF 2):=by
 refine F.ok scFTail (fun vs H Q E h=>?_) (fun cdv A outer s H vs Q E hr h=>?_)
 ·obtain ⟨f,rows,bars,rfl,_⟩:=h
  rfl
 obtain ⟨f,rows,bars,rfl,⟨dx,fs,lr,lb,ld,ps,h1,h2,h3,h4,h5,h6⟩,q⟩:=h
 exact ⟨_,pss_one (ps_ret (pe_fld (pv 0) rfl)),_,rfl,f,CF,dx,_,_,rfl,h1,FK.cl,FK.n4,h2.tn,q⟩
theorem scFBag:FnScope ["self"] ["self"] (defScope sFBag):=⟨rfl,rfl,rfl,by decide +kernel,rfl,by decide +kernel,by decide +kernel⟩
theorem ok_fbag (F:Fun K "bag" "Form.bag" sFBag f fd) (FK:FC K CF):FnOk P w K mg base CX0 1 f fd ["self"] (spWord c CF 4):=by
 refine F.ok scFBag (fun vs H Q E h=>?_) (fun cdv A outer s H vs Q E hr h=>?_)
 ·obtain ⟨f,rows,bars,rfl,_⟩:=h
  rfl
 obtain ⟨f,rows,bars,rfl,⟨dx,fs,lr,lb,ld,ps,h1,h2,h3,h4,h5,h6⟩,q⟩:=h
 exact ⟨_,pss_one (ps_ret (pe_fld (pv 0) rfl)),_,rfl,f,CF,dx,_,_,rfl,h1,FK.cl,FK.n5,h2.bg,q⟩
theorem scFNum:FnScope ["self","name"] ["self","name"] (defScope sFNum):=⟨rfl,rfl,rfl,by decide +kernel,rfl,by decide +kernel,by decide +kernel⟩
theorem ok_fnum (F:Fun K "number_of" "Form.number_of" sFNum f fd) (FK:FC K CF):FnOk P w K mg base CX0 1 f fd ["self","name"] (spNum c CF):=by
 refine F.ok scFNum (fun vs H Q E h=>?_) (fun cdv A outer s H vs Q E hr h=>?_)
 ·obtain ⟨f,z,rows,bars,rfl,_⟩:=h
  rfl
 obtain ⟨f,z,rows,bars,rfl,⟨dx,fs,lr,lb,ld,ps,h1,h2,h3,h4,h5,h6⟩,q⟩:=h
 refine ⟨_,pss_one (ps_ret (pe_dget1 (hu_of hr) (pe_fld (pv 0) rfl) (pv 1) ⟨rfl,rfl,rfl,rfl⟩)),?_⟩
 refine ⟨_,rfl,f,CF,dx,_,_,rfl,h1,FK.cl,FK.n6,h2.dr,ld,rfl,?_,_,rfl,_,.inl ⟨_,.inr z,.inl h6,rfl,rfl⟩,q⟩
 exact .inl ⟨_,.inl h6⟩
end
end K54
namespace L2
open PySem PySem.Spec PyProof.Rows
section
variable {X:Cx} {pins:List (Addr × Obj)} {σ : St} {H:Hp} {s:Shared}
theorem Inv.freeze (I:Inv X pins σ H s) {l:Addr} {kvs:List (Key × V)} (hl:H l = some (.dK kvs)):∃ o,s.heap.get? l = some o/\Inv X pins σ (upd H l (.frz o (.dK kvs))) s:=by
 obtain ⟨hz,hy,vs,r,o,es,ep,ho,c⟩:=id (I.hok l _ hl)
 refine ⟨o,ho,⟨I.ok,I.os,I.bare,⟨I.base.keep,I.base.slot,fun b u e n x=>?_,I.base.there,fun b xs e=>?_,fun b u v e=>?_,fun b ps e=>?_⟩,I.loc,I.cell,?_,fun x c e=>?_,fun p hp'=>?_,fun b u e=>?_,I.len⟩⟩
 ·have e1:=I.base.free b u e n x
  rw [upd_ne (ne_of_none hl e1).symm]; exact e1
 ·have e1:=I.base.tups b xs e
  rw [upd_ne (ne_of e1 hl (by intro z; cases z))]; exact e1
 ·have e1:=I.base.frzs b u v e
  rw [upd_ne (ne_of e1 hl (by intro z; cases z))]; exact e1
 ·obtain ⟨more,e1⟩:=I.base.tbls b ps e
  exact ⟨more,by rw [upd_ne (ne_of e1 hl (by intro z; cases z))]; exact e1⟩
 ·rw [upd_ne (ne_of_none hl I.free).symm]; exact I.free
 ·rw [upd_ne (ne_of_none hl (I.freeC x c e)).symm]; exact I.freeC x c e
 ·obtain ⟨q1,q2,q3⟩:=I.pin p hp'
  exact ⟨q1,by rw [upd_ne (ne_of_none hl q2).symm]; exact q2,q3⟩
 ·have ho':∀ c,∀ b,H b = some (.own c)->upd H l (.frz o (.dK kvs)) b = some (.own c):=fun c b q=>by rw [upd_ne (ne_of q hl (by intro z; cases z))]; exact q
  have ht':∀ b xs,H b = some (.tup xs)->upd H l (.frz o (.dK kvs)) b = some (.tup xs):=fun b xs q=>by rw [upd_ne (ne_of q hl (by intro z; cases z))]; exact q
  by_cases hb:b = l
  ·subst hb; rw [upd_same] at e; cases e
   exact ⟨ho,(I.hok b _ hl).stay (fun _ _ _ q=>q) (ho' b) ht'⟩
  ·rw [upd_ne hb] at e
   exact (I.hok b u e).stay (fun _ _ _ q=>q) (ho' b) ht'
def tFrz (te:TE):TE:=fun σ H Q=>te σ H fun x H1=>∃ l kvs,x = .ref l/\H1 l = some (.dK kvs)/\∀ o,Q x (upd H1 l (.frz o (.dK kvs)))
theorem pe_frz {e:Expr} {te:TE} (h:PE X e te):PE X e (tFrz te):=by
 refine ⟨?_⟩
 intro pins s σ H Q I hw
 refine thn (h pins s σ H _ I hw) fun v s1 ⟨x,H1,I1,r1,l,kvs,ex,hl,q⟩=>?_
 obtain ⟨o,_,I2⟩:=I1.freeze hl
 exact ⟨x,_,I2,r1,q o⟩
end
theorem rel_key {k:Key} {u:Value} (h:keyIs k u = true):RelV (kV k) u:=by
 rcases keyIs_shape h with ⟨i,t,rfl,rfl⟩ | ⟨x,t,rfl,rfl⟩
 ·exact ⟨t,rfl⟩
 ·exact ⟨t,rfl⟩
def Itd (d:Addr) (o:Obj) (kvs:List (Key × V)):It:=
 ⟨fun i H=>H d = some (.frz o (.dK kvs))/\i < kvs.length,fun i H x H'=>∃ (p:Addr) (k:Key) (v:V),x = .ref p/\H p = none/\kvs[i]? = some (k,v)/\H' = upd H p (.tup [kV k,v]),fun i H=>H d = some (.frz o (.dK kvs))/\kvs.length<=i⟩
theorem frz_at {X:Cx} {pins:List (Addr × Obj)} {σ : St} {H:Hp} {s:Shared} {d:Addr} {o:Obj} {kvs:List (Key × V)} {es:Array DictEntry} {ep:Nat} (I:Inv X pins σ H s) (hd:H d = some (.frz o (.dK kvs))) (ho:o.data = .dict es ep) :
  (d == sysModules) = false/\∃ vs,KV kvs vs/\s.heap.DictAt (mixKind X.prog X.w) d vs ep:=by
 obtain ⟨e,hz,hy,vs,r,o',es',ep',ho',c1,c2,c3⟩:=id (I.hok d _ hd)
 rw [e] at ho'
 cases ho'
 rw [ho] at c2
 cases c2
 exact ⟨hy,vs,r,o,es,e,c1,ho,c3⟩
theorem entry_itemiter_iter:entryFor table "dict_itemiterator.__iter__" = some Builtin.«dict_keyiterator.__iter__»:=entryFor_alias (id':="dict_keyiterator.__iter__") (by kernel_rfl) (by first | rfl | decide +kernel | (unfold String.splitOn; simp +decide [String.splitOnAux])) (by decide +kernel) (by kernel_rfl)
theorem wpAny_pyIter_itemiter {P:Program} {w:World} {A:Around} {E:Value->Shared->Prop} {s:Shared} {it d:Addr} {i n ep:Nat} {ok ov:Value} {Q:Value->Shared->Prop} (he:IsItemIter s.heap it d i n ep ok ov) (h:Q (.ref it) s):wpAny (model P w) A (pyIter (.ref it)) Q E s:=by
 have hT:s.TypeIs (.ref it) "dict_itemiterator":=⟨_,he,rfl⟩
 refine wpAny_pyIter_slot hT F.slot_dict_itemiterator_iter (wpAny_call_entry F.slot_dict_itemiterator_iter hT entry_itemiter_iter ?_ (F.args_dict_itemiterator_iter_1 _))
 show wpAny _ _ (ret (.ref it)) _ _ s
 exact wpAny_pure ⟨_,rfl,"dict_itemiterator",_,hT,F.slot_dict_itemiterator_next.lookup,h⟩
theorem turn_items {P:Program} {w:World} {K:PySem.W.Frag} {elts:List Expr} {x1:Nat} {tpos:Pos} (d it:Addr) (o:Obj) (kvs:List (Key × V)) (es:Array DictEntry) (ep:Nat) (ho:o.data = .dict es ep) :
  Turn P w K (.Tuple elts x1 tpos) (Itd d o kvs) [it] it (fun i h=>∃ ok ov,IsItemIter h it d i kvs.length ep ok ov) where
 mem:=by simp
 obj:=fun i h st b hb=>by
  have e':b = it:=by simpa using hb
  subst e'
  obtain ⟨ok,ov,hi⟩:=st
  exact ⟨_,hi,fun v q=>by cases q⟩
 keep:=fun i h h' st k=>by
  obtain ⟨ok,ov,hi⟩:=st
  exact ⟨ok,ov,k it (by simp) _ hi⟩
 item:=by
  intro X hP hw hK hc i pins s σ H E I hf st hg
  subst hP hw hK
  obtain ⟨f0,f1,f2,f3,f4,f5⟩:=hf it (by simp)
  obtain ⟨ok,ov,hit⟩:=st
  obtain ⟨hd,hlt⟩:=hg
  obtain ⟨hy,vs,r,hm⟩:=frz_at I hd ho
  have hl:kvs.length = vs.length:=r.length
  obtain ⟨⟨k2,u⟩,hu,ek,ru⟩:=Paired.get r (List.getElem?_eq_getElem hlt)
  rw [hl] at hit
  obtain ⟨k,v,hkv⟩:∃ k v,kvs[i] = (k,v):=⟨_,_,rfl⟩
  have ek:k = k2:=by rw [hkv] at ek; exact ek
  have ru2:RelV v u:=by rw [hkv] at ru; exact ru
  subst ek
  refine wpAny_pyNext_items_item hit hm hu fun key h' hk2 he' htup hsz hkp=>?_
  have rk:RelV (kV k) key:=rel_key hk2
  have I0:Inv X pins σ H { s with heap:=h' }:=I.turned (t':=s.toks) (it:=it) hkp f0 f1 f3 f4 f5
  have hfr:H s.heap.objs.size = none:=I.hok.fresh (Nat.le_refl _)
  have I1:Inv X pins σ (upd H s.heap.objs.size (.tup [kV k,v])) { s with heap:=h' }:=by
   have hok:HOk X.prog X.w (upd H s.heap.objs.size (.tup [kV k,v])) h':=fun b o q=>by
    by_cases hb:b = s.heap.objs.size
    ·subst hb
     rw [upd_same] at q; cases q
     exact ⟨by show 2<=sizeLine; decide,[key,u],.cons rk (.cons ru2 .nil),⟨_,htup,rfl,_,rfl⟩⟩
    ·rw [upd_ne hb] at q
     exact (I0.hok b o q).stay (fun _ _ _ z=>z) (fun c z=>by rw [upd_ne (ne_of_none z hfr)]; exact z) fun c xs' z=>by rw [upd_ne (ne_of_none z hfr)]; exact z
   refine I0.step (s:={ s with heap:=h' }) (g':=s.gens) (d':=s.drawn) (h':=h') (t':=s.toks) (ch:=[s.heap.objs.size]) (fun b hb=>?_) (fun b o _ _ _ e1 _=>e1) (fun b o _ _ _ e1 _=>⟨o.slots,e1⟩) (fun b o hb e1 n=>by rw [upd_ne (fun z=>hb (by simp [z]))]; exact n)
    (fun b o _ e1=>⟨o,e1⟩) (fun b xs' e1=>by rw [upd_ne (ne_of_none e1 hfr)]; exact e1) (fun b o' u' e1=>by rw [upd_ne (ne_of_none e1 hfr)]; exact e1) (fun b ps e1=>⟨#[],by rw [upd_ne (ne_of_none e1 hfr),e1]; simp⟩) (fun m hm=>hm) hok I0.bare
   have e':b = s.heap.objs.size:=by simpa using hb
   subst e'
   refine ⟨.inr I.sz,fun z=>?_,fun y c h z=>?_,fun p hp' z=>?_⟩
   ·have:=I.lt; rw [<- z] at this; exact absurd this (Nat.lt_irrefl _)
   ·obtain ⟨v',hv⟩:=I.cell y c h
    have:=hv.lt; rw [z] at this; exact absurd this (Nat.lt_irrefl _)
   ·have:=I.pin_lt hp'; rw [z] at this; exact absurd this (Nat.lt_irrefl _)
  refine ⟨_,rfl,wpAny_letOwnedTupleGo_items he' fun h2 he2 hs2=>?_⟩
  have nis:s.heap.objs.size ≠ it:=fun z=>by
   have:=Heap.lt_size (show s.heap.get? it = some _ from hit)
   rw [<- z] at this; exact absurd this (Nat.lt_irrefl _)
  have I2:Inv X pins σ (upd H s.heap.objs.size (.tup [kV k,v])) { s with heap:=h2 }:=
   I1.turned (s:={ s with heap:=h' }) (t':=s.toks) (it:=it) (fun b o hb q=>(hs2.2 b hb).trans q) (by rw [upd_ne nis.symm]; exact f0) f1 f3 f4 f5
  refine ⟨.ref s.heap.objs.size,_,I2,rfl,⟨_,k,v,rfl,hfr,by rw [List.getElem?_eq_getElem hlt,hkv],rfl⟩,⟨_,_,by rw [hl]; exact he2⟩,fun b hb=>?_⟩
  have e':b = it:=by simpa using hb
  subst e'
  rw [upd_ne nis.symm]; exact f0
 done:=by
  intro X hP hw hK hc i pins s σ H E I hf st hg
  subst hP hw hK
  obtain ⟨ok,ov,hit⟩:=st
  obtain ⟨f0,f1,f2,f3,f4,f5⟩:=hf it (by simp)
  obtain ⟨hd,hle⟩:=hg
  obtain ⟨hy,vs,r,hm⟩:=frz_at I hd ho
  have hl:kvs.length = vs.length:=r.length
  rw [hl] at hit
  exact wpAny_pyNext_items_end (I.ok.hd hc) hit hm (List.getElem?_eq_none (by omega)) fun h' eb=>⟨rfl,I.turned (t':=s.toks) (fun b o hb e1=>eb b o hb e1) f0 f1 f3 f4 f5⟩
 self:=fun A i s Q E st h=>by
  obtain ⟨ok,ov,hit⟩:=st
  exact wpAny_pyIter_itemiter hit h
section
variable {X:Cx} {elts:List Expr} {x1:Nat} {tpos:Pos}
def iItems (te:TE):TI:=fun σ H R=>te σ H fun x H1=>∃ d o kvs,x = .ref d/\H1 d = some (.frz o (.dK kvs))/\R (Itd d o kvs) H1
theorem pi_items {l:Expr} {te:TE} {apos cpos:Pos} (hl:PE X l te) (hbase:attributeBase l "items" X.env (eval l X.env) = eval l X.env:=by rfl) (hline:(apos.endLine == cpos.line) = true:=by rfl) :
  PI X (.Tuple elts x1 tpos) (.Call (.Attribute l "items" apos) [] [] cpos) (iItems te):=by
 refine ⟨?_⟩
 intro pins s σ H R I h
 refine wpAny_Call_method0_late hbase hline (thn (hl pins s σ H _ I h) fun v s1 ⟨x,H1,I1,r1,d,o,kvs,ex,hd,q⟩=>?_)
 subst ex
 cases r1
 obtain ⟨e,hz,hy,vs,r,o',es,ep,ho',c1,c2,c3⟩:=id (I1.hok d _ hd)
 rw [e] at ho'
 cases ho'
 have hm:s1.heap.DictAt (mixKind X.prog X.w) d vs ep:=⟨o,es,e,c1,c2,c3⟩
 refine ⟨"dict","dict.items",F.plainAttrs_dict,F.slot_dict_items,F.type_dict_items,⟨o,e,c1.1⟩,fun a ea=>by cases ea; exact ⟨o,e,c1.2.1⟩,Calls.callWith_builtin rfl (PySem.evalArgs_none ?_)⟩
 refine call_meetsIn F.slot_dict_items ⟨o,e,c1.1⟩ F.entry_dict_items (F.args_dict_items_1 _) (meets_dict_items (mixKind X.prog X.w) d hy) ⟨⟨vs,hm.dictOf⟩,?_⟩
 show wpAny _ _ (pyIter (.ref s1.heap.objs.size)) _ _ _
 have hl:kvs.length = vs.length:=r.length
 refine wpAny_pyIter_items (knd:=mixKind X.prog X.w) (d:=d) (kvs:=vs) (ep:=ep) ⟨_,Heap.get?_push_size _ rfl,rfl,rfl⟩ (hm.push _) ?_
 have hk:∀ b ob,s1.heap.get? b = some ob->((s1.heap.push { cls:=.type "dict_items",data:=.fields #[.ref d] }).push { cls:=.type "dict_itemiterator",data:=.fields #[.none,.bool false,.ref d,.int 0 0,.int vs.length 0,.int ep 0,.none,.none] }).get? b = some ob:=fun b ob q=>Heap.get?_push_of_some _ (Heap.get?_push_of_some _ q)
 have I2:=I1.kept (t':=s1.toks) hk
 have hsz:(s1.heap.push { cls:=.type "dict_items",data:=.fields #[.ref d] }).objs.size = s1.heap.objs.size + 1:=Heap.size_push ..
 refine ⟨(s1.heap.push { cls:=.type "dict_items",data:=.fields #[.ref d] }).objs.size,[(s1.heap.push { cls:=.type "dict_items",data:=.fields #[.ref d] }).objs.size],_,Itd d o kvs,H1,rfl,I2,turn_items d _ o kvs es ep c2,⟨.none,.none,?_⟩,fun b hb=>?_,q⟩
 ·rw [hl]
  exact Heap.get?_push_size (s1.heap.push { cls:=.type "dict_items",data:=.fields #[.ref d] }) (o:={ cls:=.type "dict_itemiterator",data:=.fields #[.none,.bool false,.ref d,.int 0 0,.int vs.length 0,.int ep 0,.none,.none] }) rfl
 ·have e':b = (s1.heap.push { cls:=.type "dict_items",data:=.fields #[.ref d] }).objs.size:=by simpa using hb
  subst e'
  rw [hsz]
  exact I1.fpOk (Nat.le_succ _) (I1.hok.fresh (Nat.le_succ _))
theorem for_items {d:Addr} {o:Obj} {kvs:List (Key × V)} {g:TG} {tb:TS} {D:Ends} {σ : St} {H:Hp} (Pv:Nat->St->Hp->Prop) (h0:Pv 0 σ H) (hl:∀ i σ H,i<=kvs.length->Pv i σ H->H d = some (.frz o (.dK kvs)))
  (hs:∀ i k v p σ H,kvs[i]? = some (k,v)->Pv i σ H->H p = none->g (.ref p) σ (upd H p (.tup [kV k,v])) fun σ2 H2=>tb { D with nx:=Pv (i + 1),ct:=Pv (i + 1),bk:=D.nx } σ2 H2) (hd:∀ σ H,Pv kvs.length σ H->D.nx σ H) :
  ∃ W:Nat->Nat->St->Hp->Prop,(∃ m,W 0 m σ H)/\∀ i m σ H,W i m σ H->
   ((Itd d o kvs).stop i H/\D.nx σ H)\/((Itd d o kvs).go i H/\∃ N:St->Hp->Prop,(∀ σ' H',N σ' H'->∃ m',m' < m/\W (i + 1) m' σ' H')/\∀ x H',(Itd d o kvs).yld i H x H'->g x σ H' fun σ2 H2=>tb { D with nx:=N,ct:=N,bk:=D.nx } σ2 H2):=by
 refine ⟨fun i m σ H=>m = kvs.length - i/\i<=kvs.length/\Pv i σ H,⟨kvs.length,by simp,Nat.zero_le _,h0⟩,?_⟩
 rintro i m σ H ⟨rfl,hi,p⟩
 have q:=hl i σ H hi p
 by_cases hlt:i < kvs.length
 ·refine .inr ⟨⟨q,hlt⟩,Pv (i + 1),fun σ' H' p'=>⟨kvs.length - (i + 1),by omega,rfl,hlt,p'⟩,fun x H' y=>?_⟩
  obtain ⟨pp,k,v,rfl,hp,y2,rfl⟩:=y
  exact hs i k v pp σ H y2 p hp
 ·have e:i = kvs.length:=by omega
  subst e
  exact .inl ⟨⟨q,Nat.le_refl _⟩,hd σ H p⟩
end
theorem rc_T {X:Cx} {pins:List (Addr × Obj)} {σ : St} {H:Hp} {s:Shared} {A:Around} {a b:Addr} {xs ys:List V} (I:Inv X pins σ H s) (ha:SqT X.K H a xs) (hb:SqT X.K H b ys) (fx:xs.all flatV = true) (fy:ys.all flatV = true) (hu:A.units + 8 < cLine) :
  SeqAt.RcAt A s (.ref a) (.ref b) (eqT xs ys):=by
 obtain ⟨ia,va,pa,_⟩:=I.tuple ha
 obtain ⟨ib,vb,pb,_⟩:=I.tuple hb
 have la:ia.toArray.size = xs.length:=by rw [List.size_toArray]; exact va.length.symm
 have lb:ib.toArray.size = ys.length:=by rw [List.size_toArray]; exact vb.length.symm
 have:=SeqAt.RcAt.tuples (A:=A) (s:=s) (e:=fun j=>eqV (xs[j]?.getD .non) (ys[j]?.getD .non)) (show s.heap.IsTuple a ia.toArray from pa) (show s.heap.IsTuple b ib.toArray from pb) (by omega) (fun j h1 h2=>by
  have j1:j < ia.length:=by simpa using h1
  have j2:j < ib.length:=by simpa using h2
  have hxl:j < xs.length:=by rw [va.length]; exact j1
  have hyl:j < ys.length:=by rw [vb.length]; exact j2
  obtain ⟨u',e1,e2⟩:=va.get (i:=j) (List.getElem?_eq_getElem hxl)
  obtain ⟨v',e3,e4⟩:=vb.get (i:=j) (List.getElem?_eq_getElem hyl)
  rw [List.getElem?_eq_getElem j1] at e1
  rw [List.getElem?_eq_getElem j2] at e3
  cases e1; cases e3
  have q:=eqAt_V (A:=A.in1) (s:=s) e2 e4 (List.all_eq_true.mp fx _ (List.getElem_mem hxl)) (List.all_eq_true.mp fy _ (List.getElem_mem hyl))
  simpa [hxl,hyl] using q)
 rw [la,lb] at this
 exact this
def rEqTup (K:PySem.W.Frag):R2:=fun x y H Q=>∃ (a c:Addr) (xs ys:List V),x = .ref a/\y = .ref c/\SqT K H a xs/\SqT K H c ys/\xs.all flatV = true/\ys.all flatV = true/\Q (.bl (eqT xs ys)) H
theorem op_eqTup {X:Cx} (hu:X.A.units + 64 < cLine):OpR X (compareOp .Eq) (rEqTup X.K):=by
 intro pins s σ H x y v u Q I rx ry h
 obtain ⟨a,c,xs,ys,rfl,rfl,ha,hc,fx,fy,q⟩:=h
 cases rx; cases ry
 exact rc_T (A:=X.A) I ha hc fx fy (by omega) X.prog X.w X.xe _ ⟨.bl _,H,I,rfl,q⟩
end L2
namespace K54
open PySem L2 PyProof.Rows
inductive Item where
 | one (t:Int) | row (ts:List Int) | named (n:Str) (t:Int) | book (ps:List (Str × Int))
def pairD (p:Str × Int):Dt:=.tup [.str p.1,.int p.2]
def itemD:Item->Dt
 | .one t=>.tup [.str "one",.int t]
 | .row ts=>.tup [.str "row",.lst (ts.map .int)]
 | .named n t=>.tup [.str "named",.str n,.int t]
 | .book ps=>.tup [.str "book",.lst (ps.map pairD)]
def itT:Item->List Int
 | .one t=>[t]
 | .row ts=>ts
 | _=>[]
def itP:Item->List (Str × Int)
 | .named n t=>[(n,t)]
 | .book ps=>ps
 | _=>[]
def laidT (c:List Item):List Int:=(c.map itT).flatten
def laidP (c:List Item):List (Str × Int):=(c.map itP).flatten
abbrev T':Addr->Prop:=fun _=>True
def Two (K:PySem.W.Frag) (H H':Hp) (p:Addr) (ts:List Int) (ps:List (Str × Int)):Prop:=
 ∃ l1 l2 xs,H l1 = none/\H l2 = none/\l1 ≠ l2/\H p = none/\H' p = some (.tup [.ref l1,.ref l2])/\H' l1 = some (.lst (ts.map V.int))/\H' l2 = some (.lst xs)/\Paired (Says K T' H' 1) xs (ps.map pairD)
def spLaid (K:PySem.W.Frag):Sp:=fun vs H Q _=>∃ (a:Addr) (c:List Item) (xs:List V),vs = [.ref a]/\SqL K H a xs/\Paired (Says K T' H 3) xs (c.map itemD)/\(laidT c).length<=900/\(laidP c).length<=900/\
 ∀ (p:Addr) (H':Hp),Same H H'->Two K H H' p (laidT c) (laidP c)->Q (.ref p) H'
section
variable {P:Program} {w:World} {K:PySem.W.Frag} {mg:Str->Option Value} {base:Heap} {f:Addr} {fd:FuncData}
theorem cut_ints (ns:List Int) (lo hi:Option Int):∃ ms:List Int,cutV (ns.map V.int) lo hi = ms.map V.int/\ms.length<=ns.length/\∀ m ∈ ms,m ∈ ns:=by
 refine ⟨(ns.drop (HT.sIx ns.length 0 lo)).take (HT.sIx ns.length ns.length hi - HT.sIx ns.length 0 lo),?_,?_,fun m hm=>List.mem_of_mem_drop (List.mem_of_mem_take hm)⟩
 ·unfold cutV
  rw [List.length_map,List.map_take,List.map_drop]
 ·rw [List.length_take,List.length_drop]
  omega
end
section
variable {K:PySem.W.Frag} {ok:Addr->Prop} {H H':Hp} {n:Nat} {x:V}
theorem says_int {i:Int} (h:Says K ok H n x (.int i)):x = .int i:=by
 have fl:FlatD x (.int i)->x = .int i:=fun h=>by
  cases x <;> first | exact h.elim | (have e:=(show _ = _ from h); rw [e])
 cases n with
 | zero=>exact fl h
 | succ n=>
  rcases h with h | ⟨_,_,_,_,e,_⟩ | ⟨_,_,_,_,e,_⟩
  ·exact fl h
  ·cases e
  ·cases e
theorem says_str {z:Str} (h:Says K ok H n x (.str z)):x = .str z:=by
 have fl:FlatD x (.str z)->x = .str z:=fun h=>by
  cases x <;> first | exact h.elim | (have e:=(show _ = _ from h); rw [e])
 cases n with
 | zero=>exact fl h
 | succ n=>
  rcases h with h | ⟨_,_,_,_,e,_⟩ | ⟨_,_,_,_,e,_⟩
  ·exact fl h
  ·cases e
  ·cases e
theorem says_tup {ds:List Dt} (h:Says K ok H (n + 1) x (.tup ds)):∃ a xs,x = .ref a/\SqT K H a xs/\Paired (Says K ok H n) xs ds:=by
 rcases h with h | ⟨a,xs,ds',e1,e2,e3,r⟩ | ⟨_,_,_,_,e,_⟩
 ·cases x <;> exact h.elim
 ·cases e2; exact ⟨a,xs,e1,e3,r⟩
 ·cases e
theorem says_lst {ds:List Dt} (h:Says K ok H (n + 1) x (.lst ds)):∃ a xs,x = .ref a/\ok a/\H a = some (.lst xs)/\Paired (Says K ok H n) xs ds:=by
 rcases h with h | ⟨_,_,_,_,e,_⟩ | ⟨a,xs,ds',e1,e2,o,e3,r⟩
 ·cases x <;> exact h.elim
 ·cases e
 ·cases e2; exact ⟨a,xs,e1,o,e3,r⟩
theorem says_ints:∀ {ts:List Int} {xs:List V},Paired (Says K ok H n) xs (ts.map .int)->xs = ts.map V.int
 | [],_,r=>by cases r; rfl
 | t :: ts,_,r=>by
  cases r with
  | cons h r=>rw [says_int h,says_ints r]; rfl
theorem ints_says:∀ (ts:List Int),Paired (Says K ok H n) (ts.map V.int) (ts.map .int)
 | []=>.nil
 | t :: ts=>.cons .int (ints_says ts)
theorem paired_app {α β : Type} {F : α->β->Prop}:∀ {a c:List α} {b d:List β},Paired F a b->Paired F c d->Paired F (a ++ c) (b ++ d)
 | _,_,_,_,.nil,s=>s
 | _,_,_,_,.cons r t,s=>.cons r (paired_app t s)
theorem item_one {t:Int} (h:Says K ok H 3 x (itemD (.one t))):∃ a,x = .ref a/\SqT K H a [.str "one",.int t]:=by
 obtain ⟨a,xs,rfl,hS,r⟩:=says_tup h
 cases r with
 | cons h1 r=>cases r with
  | cons h2 r=>cases r; rw [says_str h1,says_int h2] at hS; exact ⟨a,rfl,hS⟩
theorem item_row {ts:List Int} (h:Says K ok H 3 x (itemD (.row ts))):∃ a b,x = .ref a/\SqT K H a [.str "row",.ref b]/\ok b/\H b = some (.lst (ts.map V.int)):=by
 obtain ⟨a,xs,rfl,hS,r⟩:=says_tup h
 cases r with
 | cons h1 r=>cases r with
  | cons h2 r=>
   cases r
   obtain ⟨b,ys,rfl,o,hb,q⟩:=says_lst h2
   rw [says_str h1] at hS
   rw [says_ints q] at hb
   exact ⟨a,b,rfl,hS,o,hb⟩
theorem item_named {z:Str} {t:Int} (h:Says K ok H 3 x (itemD (.named z t))):∃ a,x = .ref a/\SqT K H a [.str "named",.str z,.int t]:=by
 obtain ⟨a,xs,rfl,hS,r⟩:=says_tup h
 cases r with
 | cons h1 r=>cases r with
  | cons h2 r=>cases r with
   | cons h3 r=>cases r; rw [says_str h1,says_str h2,says_int h3] at hS; exact ⟨a,rfl,hS⟩
theorem item_book {ps:List (Str × Int)} (h:Says K ok H 3 x (itemD (.book ps))):∃ a b ys,x = .ref a/\SqT K H a [.str "book",.ref b]/\ok b/\H b = some (.lst ys)/\Paired (Says K ok H 1) ys (ps.map pairD):=by
 obtain ⟨a,xs,rfl,hS,r⟩:=says_tup h
 cases r with
 | cons h1 r=>cases r with
  | cons h2 r=>
   cases r
   obtain ⟨b,ys,rfl,o,hb,q⟩:=says_lst h2
   rw [says_str h1] at hS
   exact ⟨a,b,ys,rfl,hS,o,hb,q⟩
end
theorem laidT_snoc (c:List Item) (i:Nat) (it:Item) (h:c[i]? = some it):laidT (c.take (i + 1)) = laidT (c.take i) ++ itT it:=by
 unfold laidT
 rw [List.take_add_one,h,List.map_append,List.flatten_append]
 simp
theorem laidP_snoc (c:List Item) (i:Nat) (it:Item) (h:c[i]? = some it):laidP (c.take (i + 1)) = laidP (c.take i) ++ itP it:=by
 unfold laidP
 rw [List.take_add_one,h,List.map_append,List.flatten_append]
 simp
theorem laidT_le (c:List Item) (i:Nat):(laidT (c.take i)).length<=(laidT c).length:=by
 unfold laidT
 conv=>rhs; rw [<- List.take_append_drop i c]
 rw [List.map_append,List.flatten_append,List.length_append]
 omega
theorem laidP_le (c:List Item) (i:Nat):(laidP (c.take i)).length<=(laidP c).length:=by
 unfold laidP
 conv=>rhs; rw [<- List.take_append_drop i c]
 rw [List.map_append,List.flatten_append,List.length_append]
 omega
theorem ne1:¬ (V.str "row" = V.str "one"):=by decide +kernel
theorem ne2:¬ (V.str "named" = V.str "one"):=by decide +kernel
theorem ne3:¬ (V.str "book" = V.str "one"):=by decide +kernel
theorem ne4:¬ (V.str "named" = V.str "row"):=by decide +kernel
theorem ne5:¬ (V.str "book" = V.str "row"):=by decide +kernel
theorem ne6:¬ (V.str "book" = V.str "named"):=by decide +kernel
section
variable {P:Program} {w:World} {K:PySem.W.Frag} {mg:Str->Option Value} {base:Heap} {f:Addr} {fd:FuncData}
theorem scLaid:FnScope ["call","things","pairs","item","word"] ["call"] (defScope sLaid):=⟨rfl,rfl,rfl,by decide +kernel,rfl,by decide +kernel,by decide +kernel⟩
theorem same_upd {H H2:Hp} {l:Addr} (s:Same H H2) (h:H l = none) (o:HO):Same H (upd H2 l o):=fun b u q=>by rw [upd_ne (ne_of_none q h)]; exact s b u q
theorem ok_laid (F:Fun K "laid" "laid" sLaid f fd):FnOk P w K mg base CX0 1 f fd ["call"] (spLaid K):=by
 refine F.ok scLaid (fun vs H Q E h=>?_) (fun cdv A outer s H vs Q E hr h=>?_)
 ·obtain ⟨a,c,xs,rfl,_⟩:=h
  rfl
 obtain ⟨a,c,xs,rfl,hS,hc,hT,hP,q⟩:=h
 refine ⟨_,pss_cons (ps_set (i:=1) scLaid.nd rfl (Or.inl rfl) (pe_lst pa_nil)) (pss_cons (ps_set (i:=2) scLaid.nd rfl (Or.inl rfl) (pe_lst pa_nil))
  (pss_cons (ps_for PassesOwn.never rfl (pi_list (pv 0)) (pg_name (i:=3) scLaid.nd rfl (Or.inl rfl))
   (pss_cons (ps_set (i:=4) scLaid.nd rfl (Or.inl rfl) (pe_ix ix_tup (pv 3) pe_int (fun _ _=>rfl)))
   (pss_one (ps_if (pt_cmpR op_eq (pv 4) pe_str (nomark _)) (pss_one (ps_expr (pe_bm PySem.F.plainAttrs_list PySem.F.slot_list_append PySem.F.type_list_append mt_append (pv 1) (ac (pe_ix ix_tup (pv 3) pe_int (fun _ _=>rfl)) pa_nil))))
    (pss_one (ps_if (pt_cmpR op_eq (pv 4) pe_str (nomark _)) (pss_one (ps_expr (pe_bm PySem.F.plainAttrs_list PySem.F.slot_list_extend PySem.F.type_list_extend mt_extend (pv 1) (ac (pe_ix ix_tup (pv 3) pe_int (fun _ _=>rfl)) pa_nil))))
     (pss_one (ps_if (pt_cmpR op_eq (pv 4) pe_str (nomark _)) (pss_one (ps_expr (pe_bm PySem.F.plainAttrs_list PySem.F.slot_list_append PySem.F.type_list_append mt_append (pv 2) (ac (pe_tup (ac (pe_ix ix_tup (pv 3) pe_int (fun _ _=>rfl)) (ac (pe_ix ix_tup (pv 3) pe_int (fun _ _=>rfl)) pa_nil))) pa_nil))))
      (pss_one (ps_expr (pe_bm PySem.F.plainAttrs_list PySem.F.slot_list_extend PySem.F.type_list_extend mt_extend (pv 2) (ac (pe_ix ix_tup (pv 3) pe_int (fun _ _=>rfl)) pa_nil))))))))))))
  (pss_one (ps_ret (pe_tup (ac (pv 1) (ac (pv 2) pa_nil))))))),?_⟩
 refine ⟨(by show 0<=sizeLine; decide),fun l1 h1=>?_⟩
 refine ⟨(by show 0<=sizeLine; decide),fun l2 h2=>?_⟩
 have n12:l1 ≠ l2:=ne_of_none upd_same h2
 have f2:H l2 = none:=(same_new h1 _).free h2
 have s0:Same H (upd (upd H l1 (.lst [])) l2 (.lst [])):=(same_new h1 _).trans (same_new h2 _)
 refine ⟨_,rfl,a,rfl,⟨_,s0.seq hS⟩,for_list (K:=K) (a:=a) (xs:=xs) (fun i σ H2=>∃ v3 v4 ys,σ = [some (.ref a),some (.ref l1),some (.ref l2),v3,v4]/\Same H H2/\H2 l1 = some (.lst ((laidT (c.take i)).map V.int))/\H2 l2 = some (.lst ys)/\Paired (Says K T' H2 1) ys ((laidP (c.take i)).map pairD))
  ⟨_,_,[],rfl,s0,by rw [upd_ne n12,upd_same]; rfl,upd_same,.nil⟩ (fun i σ H2 _ ⟨_,_,_,_,s2,_⟩=>s2.seq hS) ?_ ?_⟩
 ·rintro i y σ H2 hi ⟨v3,v4,ys,rfl,s2,g1,g2,gp⟩
  obtain ⟨d,hd,hy⟩:=Paired.get hc hi
  obtain ⟨it,hit,rfl⟩:∃ it,c[i]? = some it/\itemD it = d:=by
   rw [List.getElem?_map] at hd
   cases e:c[i]? with
   | none=>rw [e] at hd; cases hd
   | some it=>rw [e] at hd; exact ⟨it,rfl,Option.some.inj hd⟩
  have hy2:=hy.same s2
  have eT:=laidT_snoc c i it hit
  have eP:=laidP_snoc c i it hit
  have lT:=laidT_le c i
  have lP:=laidP_le c i
  have lT1:=laidT_le c (i + 1)
  have lP1:=laidP_le c (i + 1)
  have lys:ys.length = (laidP (c.take i)).length:=by rw [gp.length,List.length_map]
  have sT:∀ {H3:Hp} {o:HO} {l:Addr},H3 l = none\/(∃ zs,H3 l = some (.lst zs))->∀ {b zs},SqT K H3 b zs->SqT K (upd H3 l o) b zs:=fun {H3 o l} hl {b zs} hz=>by
   rcases hz with (z | ⟨u,z⟩) | z
   ·refine .inl (.inl ?_)
    have:b ≠ l:=fun e=>by
     subst e
     rcases hl with e | ⟨_,e⟩
     ·rw [e] at z; cases z
     ·rw [e] at z; cases z
    rw [upd_ne this]; exact z
   ·refine .inl (.inr ⟨u,?_⟩)
    have:b ≠ l:=fun e=>by
     subst e
     rcases hl with e | ⟨_,e⟩
     ·rw [e] at z; cases z
     ·rw [e] at z; cases z
    rw [upd_ne this]; exact z
   ·exact .inr z
  have keepP:∀ {H3:Hp} {o:HO} {l:Addr} {zs:List V} {ps:List (Str × Int)},H3 l = none\/(∃ zs,H3 l = some (.lst zs))->Paired (Says K T' H3 1) zs (ps.map pairD)->Paired (Says K T' (upd H3 l o) 1) zs (ps.map pairD):=by
   intro H3 o l zs ps hl r
   induction ps generalizing zs with
   | nil=>cases r; exact .nil
   | cons p ps ih=>
    cases r with
    | cons h r=>
     refine .cons ?_ (ih r)
     obtain ⟨b,ws,rfl,hS',r'⟩:=says_tup h
     exact .tup (sT hl hS') (Paired.imp' (fun _ _ z=>z) r')
  cases it with
  | one t=>
   obtain ⟨b,rfl,hb⟩:=item_one hy2
   refine ⟨_,rfl,b,_,_,.str "one",rfl,rfl,hb,rfl,?_⟩
   refine ⟨_,rfl,rfl,_,rfl,?_⟩
   refine dT rfl ?_
   refine ⟨_,rfl,.inl ⟨rfl,_,SqL.of g1⟩,_,rfl,b,_,_,.int t,rfl,rfl,hb,rfl,l1,_,_,rfl,rfl,g1,?_,?_⟩
   ·rw [List.length_map]; exact small1000 (by omega)
   ·refine ⟨_,_,ys,rfl,same_upd s2 h1 _,?_,?_,?_⟩
    ·rw [upd_same,eT,List.map_append]; rfl
    ·rw [upd_ne n12.symm]; exact g2
    ·rw [eP]; show Paired _ _ ((laidP (c.take i) ++ []).map pairD); rw [List.append_nil]; exact keepP (.inr ⟨_,g1⟩) gp
  | row ts=>
   obtain ⟨b,bl,rfl,hb,_,hbl⟩:=item_row hy2
   refine ⟨_,rfl,b,_,_,.str "row",rfl,rfl,hb,rfl,?_⟩
   refine ⟨_,rfl,rfl,_,rfl,?_⟩
   refine dF ne1 ?_
   refine ⟨_,rfl,rfl,_,rfl,?_⟩
   refine dT rfl ?_
   refine ⟨_,rfl,.inl ⟨rfl,_,SqL.of g1⟩,_,rfl,b,_,_,.ref bl,rfl,rfl,hb,rfl,l1,bl,_,_,rfl,rfl,g1,hbl,?_,?_⟩
   ·have e1:(laidT (c.take (i + 1))).length = (laidT (c.take i)).length + ts.length:=by rw [eT,List.length_append]; rfl
    rw [List.length_map,List.length_map]; exact le1000 (by omega)
   ·refine ⟨_,_,ys,rfl,same_upd s2 h1 _,?_,?_,?_⟩
    ·rw [upd_same,eT,List.map_append]; rfl
    ·rw [upd_ne n12.symm]; exact g2
    ·rw [eP]; show Paired _ _ ((laidP (c.take i) ++ []).map pairD); rw [List.append_nil]; exact keepP (.inr ⟨_,g1⟩) gp
  | named z t=>
   obtain ⟨b,rfl,hb⟩:=item_named hy2
   refine ⟨_,rfl,b,_,_,.str "named",rfl,rfl,hb,rfl,?_⟩
   refine ⟨_,rfl,rfl,_,rfl,?_⟩
   refine dF ne2 ?_
   refine ⟨_,rfl,rfl,_,rfl,?_⟩
   refine dF ne4 ?_
   refine ⟨_,rfl,rfl,_,rfl,?_⟩
   refine dT rfl ?_
   refine ⟨_,rfl,.inl ⟨rfl,_,SqL.of g2⟩,_,rfl,b,_,_,.str z,rfl,rfl,hb,rfl,_,rfl,b,_,_,.int t,rfl,rfl,hb,rfl,(by show 2<=sizeLine; decide),fun p hp=>?_⟩
   have np2:l2 ≠ p:=ne_of_none g2 hp
   have np1:l1 ≠ p:=ne_of_none g1 hp
   have fp:H p = none:=s2.free hp
   refine ⟨l2,_,_,rfl,rfl,(by rw [upd_ne np2]; exact g2),?_,?_⟩
   ·rw [lys]; exact small1000 (by omega)
   ·refine ⟨_,_,ys ++ [.ref p],rfl,same_upd (same_upd s2 fp _) f2 _,?_,upd_same,?_⟩
    ·rw [upd_ne n12,upd_ne np1,g1,eT]; show _ = some (HO.lst ((laidT (c.take i) ++ []).map V.int)); rw [List.append_nil]
    ·rw [eP,List.map_append]
     refine paired_app (keepP (.inr ⟨_,by rw [upd_ne np2]; exact g2⟩) (keepP (.inl hp) gp)) (.cons (.tup (xs:=[.str z,.int t]) (SqT.of ?_) (.cons .str (.cons .int .nil))) .nil)
     rw [upd_ne np2.symm,upd_same]
  | book ps=>
   obtain ⟨b,bl,zs,rfl,hb,_,hbl,hz⟩:=item_book hy2
   refine ⟨_,rfl,b,_,_,.str "book",rfl,rfl,hb,rfl,?_⟩
   refine ⟨_,rfl,rfl,_,rfl,?_⟩
   refine dF ne3 ?_
   refine ⟨_,rfl,rfl,_,rfl,?_⟩
   refine dF ne5 ?_
   refine ⟨_,rfl,rfl,_,rfl,?_⟩
   refine dF ne6 ?_
   have lz:zs.length = ps.length:=by rw [hz.length,List.length_map]
   refine ⟨_,rfl,.inl ⟨rfl,_,SqL.of g2⟩,_,rfl,b,_,_,.ref bl,rfl,rfl,hb,rfl,l2,bl,_,_,rfl,rfl,g2,hbl,?_,?_⟩
   ·have e1:(laidP (c.take (i + 1))).length = (laidP (c.take i)).length + ps.length:=by rw [eP,List.length_append]; rfl
    rw [lys,lz]; exact le1000 (by omega)
   ·refine ⟨_,_,ys ++ zs,rfl,same_upd s2 f2 _,?_,upd_same,?_⟩
    ·rw [upd_ne n12,g1,eT]; show _ = some (HO.lst ((laidT (c.take i) ++ []).map V.int)); rw [List.append_nil]
    ·rw [eP,List.map_append]
     exact paired_app (keepP (.inr ⟨_,g2⟩) gp) (keepP (.inr ⟨_,g2⟩) hz)
 ·rintro σ H2 ⟨v3,v4,ys,rfl,s2,g1,g2,gp⟩
  refine ⟨_,rfl,_,rfl,(by show 2<=sizeLine; decide),fun p hp=>?_⟩
  have hl:xs.length = c.length:=by rw [hc.length,List.length_map]
  rw [hl,List.take_length] at g1 gp
  refine q p _ (s2.trans (same_new hp _)) ⟨l1,l2,ys,h1,f2,n12,s2.free hp,upd_same,?_,?_,Paired.imp' (fun _ _ z=>z.same (same_new hp _)) gp⟩
  ·rw [upd_ne (ne_of_none g1 hp)]; exact g1
  ·rw [upd_ne (ne_of_none g2 hp)]; exact g2
end
theorem pairs_same {K:PySem.W.Frag} {ok:Addr->Prop} {H H':Hp} {zs:List V} {ps:List (Str × Int)} (s:Same H H') (r:Paired (Says K ok H 1) zs (ps.map pairD)):Paired (Says K ok H' 1) zs (ps.map pairD):=Paired.imp' (fun _ _ z=>z.same s) r
def plain (ts:List Int) (ps:List (Str × Int)):List Item:=ts.map .one ++ ps.map fun p=>.named p.1 p.2
theorem pair_get {ps:List (Str × Int)} {i:Nat} {d:Dt} (h:(ps.map pairD)[i]? = some d):∃ p,ps[i]? = some p/\pairD p = d:=by
 rw [List.getElem?_map] at h
 cases e:ps[i]? with
 | none=>rw [e] at h; cases h
 | some it=>rw [e] at h; exact ⟨it,rfl,Option.some.inj h⟩
theorem pair_says {K:PySem.W.Frag} {ok:Addr->Prop} {H:Hp} {n:Nat} {x:V} {p:Str × Int} (h:Says K ok H (n + 1) x (pairD p)):∃ b,x = .ref b/\SqT K H b [.str p.1,.int p.2]:=by
 obtain ⟨a,xs,rfl,hS,r⟩:=says_tup h
 cases r with
 | cons h1 r=>cases r with
  | cons h2 r=>cases r; rw [says_str h1,says_int h2] at hS; exact ⟨a,rfl,hS⟩
section
variable {P:Program} {w:World} {K:PySem.W.Frag} {mg:Str->Option Value} {base:Heap} {f:Addr} {fd:FuncData}
end
theorem says_ok {K:PySem.W.Frag} {ok ok':Addr->Prop} {H:Hp} (hk:∀ b,ok b->H b ≠ none->ok' b) {n:Nat} {x:V} {d:Dt} (h:Says K ok H n x d):Says K ok' H n x d:=
 h.frame (fun a xs z=>z) fun a xs oa z=>⟨hk a oa (by rw [z]; intro q; cases q),z⟩
theorem iteB {A B:Prop} {b:Bool} (h:b = true) (a:A):if b = true then A else B:=by rw [h]; exact iteT a
theorem iteC {A B:Prop} {b:Bool} (h:b = false) (a:B):if b = true then A else B:=by rw [h]; exact iteF a
section
variable {P:Program} {w:World} {K:PySem.W.Frag} {mg:Str->Option Value} {base:Heap} {f:Addr} {fd:FuncData}
section
variable {H H':Hp} {p l1 l2 l:Addr} {ys:List V} {ts:List Int} {ps:List (Str × Int)} {o:HO}
end
end
def namesOf (c:List Item):List Str:=(laidP c).map (·.1)
def spShape (K:PySem.W.Frag):Sp:=fun vs H Q _=>∃ (a:Addr) (c:List Item) (xs:List V),vs = [.ref a]/\SqL K H a xs/\Paired (Says K T' H 3) xs (c.map itemD)/\(laidT c).length<=900/\(laidP c).length<=900/\
 ∀ (p l:Addr) (H':Hp),Same H H'->H l = none->H' p = some (.tup [.int ((laidT c).length:Nat),.ref l])->H' l = some (.lst ((namesOf c).map V.str))->Q (.ref p) H'
def fstF:Nat->List (Key × V)->List Str->List (Key × V)
 | _,acc,[]=>acc
 | i,acc,z :: zs=>fstF (i + 1) (if (valV acc (.inr z)).isSome = true then acc else putK acc (.inr z) (.int i)) zs
theorem fstF_snoc {z:Str}:∀ (zs:List Str) (j i:Nat) (acc:List (Key × V)),zs[i]? = some z->fstF j acc (zs.take (i + 1)) = (if (valV (fstF j acc (zs.take i)) (.inr z)).isSome = true then fstF j acc (zs.take i) else putK (fstF j acc (zs.take i)) (.inr z) (.int (j + i:Nat)))
 | [],_,_,_,h=>by simp at h
 | y :: ys,j,0,acc,h=>by
  have e:y = z:=by simpa using h
  subst e
  rfl
 | y :: ys,j,i + 1,acc,h=>by
  have:=fstF_snoc ys (j + 1) i (if (valV acc (.inr y)).isSome = true then acc else putK acc (.inr y) (.int j)) (by simpa using h)
  show fstF (j + 1) _ (ys.take (i + 1)) = _
  rw [this,show j + 1 + i = j + (i + 1) by omega]
  rfl
theorem fstF_len:∀ (zs:List Str) (i:Nat) (acc:List (Key × V)),(fstF i acc zs).length<=acc.length + zs.length
 | [],_,_=>Nat.le_refl _
 | z :: zs,i,acc=>by
  have h:=fstF_len zs (i + 1) (if (valV acc (.inr z)).isSome = true then acc else putK acc (.inr z) (.int i))
  have h2:(if (valV acc (.inr z)).isSome = true then acc else putK acc (.inr z) (.int i)).length<=acc.length + 1:=by
   split
   ·omega
   ·exact length_putK acc _ _
  show (fstF (i + 1) _ zs).length<=acc.length + (zs.length + 1)
  omega
def spFirsts:Sp:=fun vs H Q _=>∃ (a:Addr) (zs:List Str),vs = [.ref a]/\H a = some (.lst (zs.map V.str))/\zs.length<=900/\∀ (l:Addr) (o:Obj) (H':Hp),Same H H'->H l = none->H' l = some (.frz o (.dK (fstF 0 [] zs)))->Q (.ref l) H'
section
variable {P:Program} {w:World} {K:PySem.W.Frag} {mg:Str->Option Value} {base:Heap} {f CF:Addr} {fd:FuncData} {c:C5} {m:MA}
theorem ndNT:([Str.ofString "name",Str.ofString "thing"]:List Str).Nodup:=by decide +kernel
theorem scShape:FnScope ["call","things","pairs"] ["call"] (defScope sShape):=⟨rfl,rfl,rfl,by decide +kernel,rfl,by decide +kernel,by decide +kernel⟩
theorem ok_shape {g:Addr} {gd:FuncData} (F:Fun K "shape" "shape" sShape f fd) (hlen:mg "len" = none) (cL:Callee P w K mg base 1 "laid" g gd ["call"] (spLaid K)):FnOk P w K mg base CX0 2 f fd ["call"] (spShape K):=by
 refine F.ok scShape (fun vs H Q E h=>?_) (fun cdv A outer s H vs Q E hr h=>?_)
 ·obtain ⟨a,c,xs,rfl,_⟩:=h
  rfl
 obtain ⟨a,c,xs,rfl,hS,hc,lT,lP,q⟩:=h
 refine ⟨_,pss_cons (ps_asg (cF cL hr (ac (pv 0) pa_nil)) (pg_tup rfl (pgs_cons (pg_name (i:=1) scShape.nd rfl (Or.inl rfl)) (pgs_cons (pg_name (i:=2) scShape.nd rfl (Or.inl rfl)) pgs_nil))))
  (pss_one (ps_ret (pe_tup (ac (cB call_len_seq hlen PySem.boot_len (ac (pv 1) pa_nil)) (ac (pe_lc [] ["name","thing"] [none,none] rfl ⟨rfl,rfl,rfl,rfl⟩ (pi_list (pv 2)) (gown_tup2 (K:=K) (n:=2) 0 1) rfl rfl rfl
   (fun pins fp s H C=>⟨pg_tup rfl (pgs_cons (pg_name (i:=0) ndNT rfl (Or.inl rfl) (.inr rfl)) (pgs_cons (pg_name (i:=1) ndNT rfl (Or.inl rfl) (.inr rfl)) pgs_nil)),pif_nil,pv 0⟩)) pa_nil))))),?_⟩
 refine ⟨_,rfl,a,c,xs,rfl,hS,hc,lT,lP,fun p H1 s1 two=>?_⟩
 obtain ⟨l1,l2,ys,n1,n2,n12,np,ep,e1,e2,gp⟩:=two
 refine ⟨p,_,rfl,SqT.of ep,rfl,_,_,rfl,_,_,rfl,rfl,?_⟩
 refine ⟨_,rfl,l1,_,rfl,.inl (SqL.of e1),_,rfl,l2,rfl,⟨_,SqL.of e2⟩,fun D hD=>?_⟩
 have lys:ys.length = (laidP c).length:=by rw [gp.length,List.length_map]
 refine lc_list (K:=K) (xs:=ys) (fun i zs H'=>Same H1 H'/\H' D = some (.lst zs)/\zs = ((namesOf c).take i).map V.str) ⟨same_new hD _,upd_same,rfl⟩ (fun i zs H' h=>SqL.of (h.1 _ _ e2)) ?_ ?_
 ·rintro i x zs H' hlt hx ⟨sH,hDy,ez⟩
  obtain ⟨d,hd,hy⟩:=Paired.get gp hx
  obtain ⟨pr',hpr,rfl⟩:=pair_get hd
  obtain ⟨b,rfl,hb⟩:=pair_says (hy.same sH)
  refine ⟨b,_,rfl,hb,rfl,_,_,rfl,_,_,rfl,rfl,fun _=>⟨_,rfl,?_⟩,fun e=>Bool.noConfusion e⟩
  have hi:i < (namesOf c).length:=by unfold namesOf; rw [List.length_map]; omega
  have en:(namesOf c)[i] = pr'.1:=by
   have:(namesOf c)[i]? = some pr'.1:=by unfold namesOf; rw [List.getElem?_map,hpr]; rfl
   rw [List.getElem?_eq_getElem hi] at this
   exact Option.some.inj this
  refine lcN.mk hlt (le1000 (by omega)) hDy (by rw [ez,List.length_map,List.length_take]; omega) ⟨fun b' u e=>?_,upd_same,?_⟩
  ·rw [upd_ne (ne_of_none e hD)]
   exact sH b' u e
  ·rw [ez,List.take_succ_eq_append_getElem hi,en,List.map_append]
   rfl
 rintro zs H2 ⟨s2,hDy,ez⟩
 have hz:zs = (namesOf c).map V.str:=by
  rw [ez,List.take_of_length_le (by unfold namesOf; rw [List.length_map]; omega)]
 subst hz
 refine ⟨(by show 2<=sizeLine; decide),fun t ht=>?_⟩
 have s3:=same_new ht (.tup [.int ((laidT c).map V.int).length,.ref D])
 refine q t D _ (s1.trans (s2.trans s3)) (s1.free hD) (by rw [upd_same,List.length_map]) (s3 _ _ hDy)
theorem scFirsts:FnScope ["names","firsts","number","name"] ["names"] (defScope sFirsts):=⟨rfl,rfl,rfl,by decide +kernel,rfl,by decide +kernel,by decide +kernel⟩
theorem ok_firsts (F:Fun K "first_numbers" "first_numbers" sFirsts f fd) (hen:mg "enumerate" = none):FnOk P w K mg base CX0 1 f fd ["names"] spFirsts:=by
 refine F.ok scFirsts (fun vs H Q E h=>?_) (fun cdv A outer s H vs Q E hr h=>?_)
 ·obtain ⟨a,zs,rfl,_⟩:=h
  rfl
 obtain ⟨a,zs,rfl,ha,lz,q⟩:=h
 have hu1:=hu_of hr
 refine ⟨_,pss_cons (ps_set (i:=1) scFirsts.nd rfl (Or.inl rfl) pe_dnewK)
  (pss_cons (ps_for PassesOwn.never rfl (pi_enum rfl hen (ac (pv 0) pa_nil)) (pg_tup rfl (pgs_cons (pg_name (i:=2) scFirsts.nd rfl (Or.inl rfl)) (pgs_cons (pg_name (i:=3) scFirsts.nd rfl (Or.inl rfl)) pgs_nil)))
   (pss_one (ps_if (pt_cmp (pc_dnotin hu1 (pv 3) (pv 1))) (pss_one (ps_dput hu1 (pv 1) (pv 3) (pv 2) rfl)) pss_nil)))
  (pss_one (ps_ret (pe_frz (pv 1))))),?_⟩
 intro sd hsd
 have s1:=same_new hsd (.dK [])
 have e1:upd H sd (.dK []) sd = some (.dK []):=upd_same
 show tSeq _ _ _ _ (upd H sd (.dK []))
 generalize upd H sd (.dK []) = H1 at s1 e1 |-
 refine ⟨_,rfl,a,rfl,⟨_,SqL.of (s1 _ _ ha)⟩,for_enum (K:=K) (a:=a) (xs:=zs.map V.str) (fun i σ H'=>∃ (v2 v3:Option V),σ = [some (.ref a),some (.ref sd),v2,v3]/\Same H H'/\H' sd = some (.dK (fstF 0 [] (zs.take i))))
  ⟨_,_,rfl,s1,e1⟩ (fun i σ H' _ ⟨_,_,_,sH,_⟩=>SqL.of (sH _ _ ha)) ?_ ?_⟩
 ·rintro i x p σ H' hx ⟨v2,v3,rfl,sH,hd⟩ hpn
  obtain ⟨z,hz,rfl⟩:=strs_at hx
  have sp:=same_new hpn (.tup [.int (i:Nat),.str z])
  have hd2:=sp _ _ hd
  have tk:=fstF_snoc zs 0 i [] hz
  rw [Nat.zero_add] at tk
  have hi:i < zs.length:=(List.getElem?_eq_some_iff.mp hz).1
  refine ⟨p,_,rfl,SqT.of upd_same,rfl,_,_,rfl,_,_,rfl,rfl,?_⟩
  refine ⟨_,rfl,_,rfl,sd,_,rfl,.inl ⟨_,.inr z,.inl hd2,rfl,rfl⟩,_,rfl,?_⟩
  refine ite2 (fun ne=>?_) (fun ne=>?_)
  ·have ns:¬ (valV (fstF 0 [] (zs.take i)) (.inr z)).isSome = true:=by
    intro e
    rw [e] at ne
    cases ne
   rw [if_neg ns] at tk
   have ln:=fstF_len (zs.take i) 0 []
   refine ⟨_,rfl,_,rfl,_,rfl,sd,_,rfl,.inl ⟨_,.inr z,hd2,rfl,small1000 (by rw [List.length_take] at ln; simp at ln; omega),rfl⟩,?_⟩
   refine ⟨_,_,rfl,fun b' u e=>?_,by rw [upd_same,tk]⟩
   rw [upd_ne (ne_of_none e hsd)]
   exact sp _ _ (sH _ _ e)
  ·have ns:(valV (fstF 0 [] (zs.take i)) (.inr z)).isSome = true:=by
    cases e:(valV (fstF 0 [] (zs.take i)) (.inr z)).isSome with
    | true=>rfl
    | false=>exact absurd (by rw [e]; rfl) ne
   rw [if_pos ns] at tk
   exact ⟨_,_,rfl,sH.trans sp,by rw [tk]; exact hd2⟩
 ·rintro σ H' ⟨v2,v3,rfl,sH,hd⟩
  rw [List.length_map,List.take_length] at hd
  refine ⟨_,rfl,sd,_,rfl,hd,fun o=>?_⟩
  refine q sd o _ (fun b' u e=>?_) hsd upd_same
  rw [upd_ne (ne_of_none e hsd)]
  exact sH _ _ e
end
def MA1 (H:Hp) (u:Addr) (m:Str × Nat):Prop:=H u = some (.tup [.str m.1,.int (m.2:Nat)])
def MsAt (H:Hp) (us:List Addr) (ms:List (Str × Nat)):Prop:=Paired (MA1 H) us ms
theorem MsAt.same {H H':Hp} {us:List Addr} {ms:List (Str × Nat)} (h:MsAt H us ms) (s:Same H H'):MsAt H' us ms:=Paired.imp' (fun _ _ z=>s _ _ z) h
theorem MsAt.upd {H:Hp} {us:List Addr} {ms:List (Str × Nat)} {D:Addr} {ys:List V} {o:HO} (h:MsAt H us ms) (hD:H D = some (.lst ys)):MsAt (upd H D o) us ms:=Paired.imp' (fun u m z=>by
 show L2.upd H D o u = _
 rw [upd_ne (fun e=>by rw [e] at z; rw [MA1,hD] at z; cases z)]
 exact z) h
theorem MsAt.snoc {H:Hp} {us:List Addr} {ms:List (Str × Nat)} {u:Addr} {m:Str × Nat} (h:MsAt H us ms) (hu:MA1 H u m):MsAt H (us ++ [u]) (ms ++ [m]):=Paired.snoc h hu
def NewMs (H H':Hp) (l:Addr) (ms:List (Str × Nat)):Prop:=∃ us:List Addr,H l = none/\H' l = some (.lst (us.map V.ref))/\MsAt H' us ms
def overF (rows:List Rw) (many:Nat):List (Str × Nat):=if (firstK 2 0 rows).isSome = true then [] else (List.range (many - plN rows)).map fun i=>((("over" : Str),plN rows + i):Str × Nat)
def spOvers (c:C5) (CF:Addr):Sp:=fun vs H Q _=>∃ (f:Addr) (many:Nat) (rows:List Rw) (bars:List Str),vs = [.ref f,.int (many:Nat)]/\many<=900/\rows.length<=500/\FormAt c CF H f rows bars/\∀ (l:Addr) (H':Hp),Same H H'->NewMs H H' l (overF rows many)->Q (.ref l) H'
def oneE (r:Rw) (i many:Nat) (fk:List (Key × V)):List V:=
 if byPl r.k = true/\i < many then [.str "place",.int (i:Nat)] else if byNm r.k = true/\(valV fk (.inr r.z)).isSome = true then [.str "name",(valV fk (.inr r.z)).getD .non] else [.str "free"]
def FlatD1 (fk:List (Key × V)):Prop:=∀ k v,valV fk k = some v->flatV v = true
def spOneE (c:C5):Sp:=fun vs H Q _=>∃ (p d:Addr) (i many:Nat) (r:Rw) (fk:List (Key × V)),vs = [.ref p,.int (i:Nat),.int (many:Nat),.ref d]/\PAt c H p r/\r.ok/\Rd H d (.dK fk)/\∀ (u:Addr) (H':Hp),Same H H'->H' u = some (.tup (oneE r i many fk))->Q (.ref u) H'
def isLack (r:Rw) (i many:Nat) (fk:List (Key × V)):Bool:=!fr r.k r.b && L2.eqT (oneE r i many fk) [.str "free"]
def lackF (many:Nat) (fk:List (Key × V)):Nat->List Rw->List (Str × Nat)
 | _,[]=>[]
 | i,r :: rs=>(if isLack r i many fk = true then [(("lacking" : Str),i)] else []) ++ lackF many fk (i + 1) rs
theorem lackF_snoc {many:Nat} {fk:List (Key × V)} {r:Rw}:∀ (rows:List Rw) (j i:Nat),rows[i]? = some r->lackF many fk j (rows.take (i + 1)) = lackF many fk j (rows.take i) ++ (if isLack r (j + i) many fk = true then [(("lacking" : Str),j + i)] else [])
 | [],_,_,h=>by simp at h
 | y :: ys,j,0,h=>by
  have e:y = r:=by simpa using h
  subst e
  show (_ ++ []) = [] ++ _
  rw [List.append_nil,List.nil_append]
  rfl
 | y :: ys,j,i + 1,h=>by
  have:=lackF_snoc (many:=many) (fk:=fk) ys (j + 1) i (by simpa using h)
  show _ ++ lackF many fk (j + 1) (ys.take (i + 1)) = _
  rw [this,show j + 1 + i = j + (i + 1) by omega,<- List.append_assoc]
  rfl
theorem lackF_len (many:Nat) (fk:List (Key × V)):∀ (rows:List Rw) (i:Nat),(lackF many fk i rows).length<=rows.length
 | [],_=>Nat.le_refl _
 | r :: rs,i=>by
  have:=lackF_len many fk rs (i + 1)
  show (_ ++ lackF many fk (i + 1) rs).length<=rs.length + 1
  rw [List.length_append]
  split
  ·rw [List.length_singleton]; omega
  ·rw [List.length_nil]; omega
theorem oneE_flat {r:Rw} {i many:Nat} {fk:List (Key × V)} (h:FlatD1 fk):(oneE r i many fk).all flatV = true:=by
 unfold oneE
 split
 ·rfl
 ·split
  next h2=>
   obtain ⟨v,hv⟩:=Option.isSome_iff_exists.mp h2.2
   rw [hv]
   show (true && (flatV v && true)) = true
   rw [h _ _ hv]
   rfl
  ·rfl
def spLacks (c:C5) (CF:Addr):Sp:=fun vs H Q _=>∃ (f d:Addr) (many:Nat) (rows:List Rw) (bars:List Str) (fk:List (Key × V)),vs = [.ref f,.int (many:Nat),.ref d]/\rows.length<=500/\(∀ r ∈ rows,r.ok)/\FormAt c CF H f rows bars/\Rd H d (.dK fk)/\FlatD1 fk/\∀ (l:Addr) (H':Hp),Same H H'->NewMs H H' l (lackF many fk 0 rows)->Q (.ref l) H'
theorem Same.rd {H H':Hp} {a:Addr} {u:HO} (s:Same H H') (h:Rd H a u):Rd H' a u:=h.elim (fun e=>.inl (s _ _ e)) fun ⟨o,e⟩=>.inr ⟨o,s _ _ e⟩
section
variable {P:Program} {w:World} {K:PySem.W.Frag} {mg:Str->Option Value} {base:Heap} {f CF:Addr} {fd:FuncData} {c:C5} {m:MA}
theorem ndNum:([Str.ofString "number"]:List Str).Nodup:=by decide +kernel
theorem scOvers:FnScope ["form","many"] ["form","many"] (defScope sOvers):=⟨rfl,rfl,rfl,by decide +kernel,rfl,by decide +kernel,by decide +kernel⟩
theorem ok_overs {gT gP:Addr} {eT eP:FuncData} (F:Fun K "overs" "overs" sOvers f fd) (hran:mg "range" = none) (FK:FC K CF) (mT:Meth K CF "tail" gT) (GT:FnOk P w K mg base CX0 1 gT eT ["self"] (spWord c CF 2)) (bT:Binds K eT ["self"] []) (mP:Meth K CF "places" gP) (GP:FnOk P w K mg base CX0 1 gP eP ["self"] (spPlaces c CF)) (bP:Binds K eP ["self"] []) :
  FnOk P w K mg base CX0 2 f fd ["form","many"] (spOvers c CF):=by
 refine F.ok scOvers (fun vs H Q E h=>?_) (fun cdv A outer s H vs Q E hr h=>?_)
 ·obtain ⟨f,many,rows,bars,rfl,_⟩:=h
  rfl
 obtain ⟨f,many,rows,bars,rfl,lm,l5,hF,q⟩:=h
 refine ⟨_,pss_cons (ps_if (pt_cmp (pc_notN (pe_meth0 (pv 0) FK.cl mT GT hr bT .nil pass0))) (pss_one (ps_ret (pe_lst pa_nil))) pss_nil)
  (pss_one (ps_ret (pe_lc [] ["number"] [none] rfl ⟨rfl,rfl,rfl,rfl⟩ (pi_range2 rfl hran (ac (pe_meth0 (pv 0) FK.cl mP GP hr bP .nil pass0) (ac (pv 1) pa_nil))) (gown_name 0) rfl rfl rfl
   (fun pins fp s H C=>⟨pg_name (i:=0) ndNum rfl (Or.inl rfl) (.inr rfl),pif_nil,pe_tup (ac pe_str (ac (pv 0) pa_nil))⟩)))),?_⟩
 obtain ⟨dx,fs,lr,lb,ld,ps,h1,h2,h3,h4,h5,h6⟩:=id hF
 have nmT:fs.lookup ("tail" : Str) = none:=h2.no _ (by decide +kernel)
 have nmP:fs.lookup ("places" : Str) = none:=h2.no _ (by decide +kernel)
 refine ⟨_,rfl,f,dx,fs,rfl,h1,nmT,f,rows,bars,rfl,hF,?_⟩
 refine ⟨_,rfl,?_⟩
 cases e:firstK 2 0 rows with
 | some i=>
  have ef:overF rows many = []:=by unfold overF; rw [e]; rfl
  have ne:(!decide (numV (some i) = V.non)) = true:=rfl
  rw [if_pos ne]
  refine ⟨(by show 0<=sizeLine; decide),fun l hl=>?_⟩
  exact q l _ (same_new hl _) ⟨[],hl,upd_same,by rw [ef]; exact .nil⟩
 | none=>
  have ef:overF rows many = (List.range (many - plN rows)).map fun i=>((("over" : Str),plN rows + i):Str × Nat):=by unfold overF; rw [e]; rfl
  refine iteF ?_
  have lp:plN rows<=500:=Nat.le_trans (List.length_filter_le _ _) l5
  refine ⟨_,rfl,f,dx,fs,rfl,h1,nmP,f,rows,bars,rfl,hF,_,rfl,(plN rows:Nat),(many:Nat),rfl,⟨by omega,by omega,by omega,by omega⟩,fun D hD=>?_⟩
  have en:((many:Int) - (plN rows:Int)).toNat = many - plN rows:=by omega
  refine lc_range (n:=((many:Int) - (plN rows:Int)).toNat) (fun i ys H'=>∃ us,ys = us.map V.ref/\Same H H'/\H' D = some (.lst ys)/\MsAt H' us ((List.range i).map fun i=>((("over" : Str),plN rows + i):Str × Nat))) ⟨[],rfl,same_new hD _,upd_same,.nil⟩ ?_ ?_
  ·rintro i ys H' hi ⟨us,rfl,sH,hDy,hm⟩
   have lu:us.length = i:=by rw [hm.length,List.length_map,List.length_range]
   refine ⟨fun _=>?_,fun e=>Bool.noConfusion e⟩
   refine ⟨_,rfl,(by show 2<=sizeLine; decide),fun t ht=>?_⟩
   have s2:=same_new ht (.tup [.str "over",.int ((plN rows:Int) + (i:Int))])
   have hDy2:=s2 _ _ hDy
   refine lcN.mk hi (le1000 (by omega)) hDy2 (by rw [List.length_map,lu]; exact Nat.le_refl _) ⟨us ++ [t],by rw [List.map_append]; rfl,fun b' u' e'=>?_,upd_same,?_⟩
   ·rw [upd_ne (ne_of_none e' hD)]
    exact s2 _ _ (sH _ _ e')
   ·rw [List.range_succ,List.map_append]
    have hu:MA1 (upd H' t (.tup [.str "over",.int ((plN rows:Int) + (i:Int))])) t ("over",plN rows + i):=by
     show upd H' t _ t = _
     rw [upd_same]
     rfl
    exact ((hm.same s2).snoc hu).upd hDy2
  ·rintro ys H' ⟨us,rfl,sH,hDy,hm⟩
   rw [en,<- ef] at hm
   exact q D H' sH ⟨us,hD,hDy,hm⟩
theorem scOneE:FnScope ["parameter","number","many","firsts"] ["parameter","number","many","firsts"] (defScope sOneE):=⟨rfl,rfl,rfl,by decide +kernel,rfl,by decide +kernel,by decide +kernel⟩
theorem ok_oneE {gp gb:FuncData} (F:Fun K "one_entry" "one_entry" sOneE f fd) (PP:Pcs K m c) (GP:FnOk P w K mg base CX0 1 m.fP gp ["self"] (spIn K m bpL)) (bP:Binds K gp ["self"] []) (GB:FnOk P w K mg base CX0 1 m.fB gb ["self"] (spIn K m bnL)) (bB:Binds K gb ["self"] []) :
  FnOk P w K mg base CX0 2 f fd ["parameter","number","many","firsts"] (spOneE c):=by
 refine F.ok scOneE (fun vs H Q E h=>?_) (fun cdv A outer s H vs Q E hr h=>?_)
 ·obtain ⟨p,d,i,many,r,fk,rfl,_⟩:=h
  rfl
 obtain ⟨p,d,i,many,r,fk,rfl,⟨dx,hp⟩,rok,hd,q⟩:=h
 have hu1:=hu_of hr
 have C:=PP r.k rok.1
 refine ⟨_,pss_cons (ps_if (PW.pt (pw_and (pt_val (pe_meth0 (pv 0) C.cl C.mP GP hr bP .nil pass0)) (pw_and1 (pt_cmpR op_lt (pv 1) (pv 2) (nomark _))))) (pss_one (ps_ret (pe_tup (ac pe_str (ac (pv 1) pa_nil))))) pss_nil)
  (pss_cons (ps_if (PW.pt (pw_and (pt_val (pe_meth0 (pv 0) C.cl C.mB GB hr bB .nil pass0)) (pw_and1 (pt_cmp (pc_din hu1 (pe_fld (pv 0) rfl) (pv 3)))))) (pss_one (ps_ret (pe_tup (ac pe_str (ac (pe_dget hu1 (pv 3) (pe_fld (pv 0) rfl) (fun _ _=>rfl)) pa_nil))))) pss_nil)
  (pss_one (ps_ret (pe_tup (ac pe_str pa_nil))))),?_⟩
 have nP:(pr r).lookup ("by_place" : Str) = none:=pf_no (by decide +kernel) (by decide +kernel) (by decide +kernel)
 have nB:(pr r).lookup ("by_name" : Str) = none:=pf_no (by decide +kernel) (by decide +kernel) (by decide +kernel)
 try dsimp only
 refine seq_via (fun σ' H'=>σ' = [some (.ref p),some (.int (i:Nat)),some (.int (many:Nat)),some (.ref d)]/\H' = H/\¬ (byPl r.k = true/\i < many)) ?_ (fun key=>?_)
 rotate_left
 ·refine ⟨_,rfl,p,dx,_,rfl,hp,nP,p,dx,_,_,_,_,rfl,C,hp,_,rfl,?_⟩
  rw [in_pl r.k rok.1]
  cases eb:byPl r.k with
  | false=>
   refine iteF ?_
   refine iteF ?_
   exact key _ _ ⟨rfl,rfl,by rw [eb]; exact fun z=>Bool.noConfusion z.1⟩
  | true=>
   refine iteT ?_
   refine ⟨_,rfl,_,rfl,_,_,rfl,rfl,_,rfl,?_⟩
   refine ite2 (fun c1=>?_) (fun c1=>?_)
   ·have hlt:i < many:=by
     have:=of_decide_eq_true c1
     omega
    refine ⟨_,rfl,(by show 2<=sizeLine; decide),fun t ht=>?_⟩
    exact q t _ (same_new ht _) (by rw [upd_same]; unfold oneE; rw [if_pos ⟨eb,hlt⟩])
   ·have hlt:¬ i < many:=fun h=>c1 (decide_eq_true (by show (i:Int) < (many:Int); omega))
    exact key _ _ ⟨rfl,rfl,fun z=>hlt z.2⟩
 rintro σ1 H1 ⟨rfl,rfl,nn⟩
 have e1:oneE r i many fk = (if byNm r.k = true/\(valV fk (.inr r.z)).isSome = true then [.str "name",(valV fk (.inr r.z)).getD .non] else [.str "free"]):=by unfold oneE; rw [if_neg nn]
 try dsimp only
 refine seq_via (fun σ' H'=>σ' = [some (.ref p),some (.int (i:Nat)),some (.int (many:Nat)),some (.ref d)]/\H' = H1/\¬ (byNm r.k = true/\(valV fk (.inr r.z)).isSome = true)) ?_ (fun key=>?_)
 rotate_left
 ·refine ⟨_,rfl,p,dx,_,rfl,hp,nB,p,dx,_,_,_,_,rfl,C,hp,_,rfl,?_⟩
  rw [in_nm r.k rok.1]
  cases eb:byNm r.k with
  | false=>
   refine iteF ?_
   refine iteF ?_
   exact key _ _ ⟨rfl,rfl,by rw [eb]; exact fun z=>Bool.noConfusion z.1⟩
  | true=>
   refine iteT ?_
   refine ⟨_,rfl,p,_,dx,_,_,rfl,hp,C.cl,C.nN,pf_name,_,rfl,d,_,rfl,.inl ⟨fk,.inr r.z,hd,rfl,rfl⟩,_,rfl,?_⟩
   refine ite2 (fun c1=>?_) (fun c1=>?_)
   ·obtain ⟨v,hv⟩:=Option.isSome_iff_exists.mp c1
    refine ⟨_,rfl,_,rfl,p,_,dx,_,_,rfl,hp,C.cl,C.nN,pf_name,d,v,rfl,.inl ⟨fk,.inr r.z,hd,rfl,hv.symm⟩,(by show 2<=sizeLine; decide),fun t ht=>?_⟩
    exact q t _ (same_new ht _) (by rw [upd_same,e1,if_pos ⟨eb,c1⟩,hv]; rfl)
   ·exact key _ _ ⟨rfl,rfl,fun z=>c1 z.2⟩
 rintro σ2 H2 ⟨rfl,rfl,nn2⟩
 refine ⟨(by show 1<=sizeLine; decide),fun t ht=>?_⟩
 exact q t _ (same_new ht _) (by rw [upd_same,e1,if_neg nn2])
theorem scLacks:FnScope ["form","many","firsts","found","number","parameter"] ["form","many","firsts"] (defScope sLack):=⟨rfl,rfl,rfl,by decide +kernel,rfl,by decide +kernel,by decide +kernel⟩
theorem ok_lacks {g gP:Addr} {gd gf eP:FuncData} (F:Fun K "lackings" "lackings" sLack f fd) (hen:mg "enumerate" = none) (PP:Pcs K m c) (FK:FC K CF) (mP:Meth K CF "parameters" gP) (GP:FnOk P w K mg base CX0 1 gP eP ["self"] (spPars c CF)) (bP:Binds K eP ["self"] [])
  (GF:FnOk P w K mg base CX0 1 m.fF gf ["self"] (spFree K m)) (bF:Binds K gf ["self"] []) (cE1:Callee P w K mg base 2 "one_entry" g gd ["parameter","number","many","firsts"] (spOneE c)):FnOk P w K mg base CX0 3 f fd ["form","many","firsts"] (spLacks c CF):=by
 refine F.ok scLacks (fun vs H Q E h=>?_) (fun cdv A outer s H vs Q E hr h=>?_)
 ·obtain ⟨f,d,many,rows,bars,fk,rfl,_⟩:=h
  rfl
 obtain ⟨f,d,many,rows,bars,fk,rfl,l5,hok,hF,hd,hfl,q⟩:=h
 have hr1:Room 1 _:=hr.mono (by decide)
 have hU:=hr.units
 have hO:∀ C,Cs5 c C->Cls K C/\Meth K C "free" m.fF:=fun C ⟨k,hk,e⟩=>by rw [e]; exact ⟨(PP k hk).cl,(PP k hk).mF⟩
 refine ⟨_,pss_cons (ps_set (i:=3) scLacks.nd rfl (Or.inl rfl) (pe_lst pa_nil))
  (pss_cons (ps_for PassesOwn.never rfl (pi_enum rfl hen (ac (pe_meth0 (pv 0) FK.cl mP GP hr1 bP .nil pass0) pa_nil)) (pg_tup rfl (pgs_cons (pg_name (i:=4) scLacks.nd rfl (Or.inl rfl)) (pgs_cons (pg_name (i:=5) scLacks.nd rfl (Or.inl rfl)) pgs_nil)))
   (pss_one (ps_if (PW.pt (pw_and (pt_not (pt_val (pe_methP (pv 5) hO GF hr1 bF pass0))) (pw_and1 (pt_cmpR (op_eqTup hU) (cF cE1 hr (ac (pv 5) (ac (pv 4) (ac (pv 1) (ac (pv 2) pa_nil))))) (pe_tup (ac pe_str pa_nil)) (nomark _)))))
    (pss_one (ps_expr (pe_bm PySem.F.plainAttrs_list PySem.F.slot_list_append PySem.F.type_list_append mt_append (pv 3) (ac (pe_tup (ac pe_str (ac (pv 4) pa_nil))) pa_nil)))) pss_nil)))
  (pss_one (ps_ret (pv 3)))),?_⟩
 refine ⟨(by show 0<=sizeLine; decide),fun l hl=>?_⟩
 have s1:=same_new hl (.lst [])
 have e1:upd H l (.lst []) l = some (.lst []):=upd_same
 show tSeq _ _ _ _ (upd H l (.lst []))
 generalize upd H l (.lst []) = H1 at s1 e1 |-
 obtain ⟨dx,fs,lr,lb,ld,ps0,h1,h2,h3,h4,h5,h6⟩:=id hF
 have nmP:fs.lookup ("parameters" : Str) = none:=h2.no _ (by decide +kernel)
 refine ⟨_,rfl,f,dx,fs,rfl,s1 _ _ h1,nmP,f,rows,bars,rfl,hF.same s1,fun lp ps H2 s2 np ep hps=>?_⟩
 have e2:=s2 _ _ e1
 have nlp:lp ≠ l:=Ne.symm (ne_of_none e1 np)
 have nd:∀ {b:Addr} {u:HO},H b = some u->b ≠ l:=fun e=>ne_of_none e hl
 have s12:=s1.trans s2
 have sHl:∀ {H':Hp},(∀ b u,H2 b = some u->b ≠ l->H' b = some u)->Same H H':=fun k b u e=>k b u (s12 _ _ e) (nd e)
 refine ⟨lp,rfl,⟨_,SqL.of ep⟩,for_enum (K:=K) (a:=lp) (xs:=ps.map V.ref) (fun i σ H'=>∃ (us:List Addr) (v4 v5:Option V),σ = [some (.ref f),some (.int (many:Nat)),some (.ref d),some (.ref l),v4,v5]/\(∀ b u,H2 b = some u->b ≠ l->H' b = some u)/\H' l = some (.lst (us.map V.ref))/\MsAt H' us (lackF many fk 0 (rows.take i)))
  ⟨[],_,_,rfl,fun _ _ e _=>e,e2,.nil⟩ (fun i σ H' _ ⟨_,_,_,_,sH,_⟩=>SqL.of (sH _ _ ep nlp)) ?_ ?_⟩
 ·rintro i x p σ H' hx ⟨us,v4,v5,rfl,sH,hl',hm⟩ hpn
  obtain ⟨pa,hpa,rfl⟩:=refs_at hx
  obtain ⟨r,hr',dx',hdx⟩:=paired_at hps hpa
  have rok:=hok r (List.mem_of_getElem? hr')
  have C:=PP r.k rok.1
  have hi:i < rows.length:=(List.getElem?_eq_some_iff.mp hr').1
  have npa:pa ≠ l:=ne_of hdx e2 (by intro z; cases z)
  have tk:=lackF_snoc (many:=many) (fk:=fk) rows 0 i hr'
  rw [Nat.zero_add] at tk
  have sp:=same_new hpn (.tup [.int (i:Nat),.ref pa])
  have lu:us.length<=i:=by
   rw [hm.length]
   refine Nat.le_trans (lackF_len _ _ _ _) ?_
   rw [List.length_take]
   omega
  have sH1:∀ b u,H2 b = some u->b ≠ l->upd H' p (.tup [.int (i:Nat),.ref pa]) b = some u:=fun b u e n=>sp _ _ (sH b u e n)
  have hl1:=sp _ _ hl'
  have hm1:=hm.same sp
  refine ⟨p,_,rfl,SqT.of upd_same,rfl,_,_,rfl,_,_,rfl,rfl,?_⟩
  generalize upd H' p (.tup [.int (i:Nat),.ref pa]) = H3 at sH1 hl1 hm1 |-
  have hd3:=sH1 _ _ hdx npa
  refine ⟨_,rfl,pa,_,dx',_,rfl,⟨r.k,rok.1,rfl⟩,hd3,pf_no (by decide +kernel) (by decide +kernel) (by decide +kernel),pa,dx',_,_,_,_,rfl,C,hd3,_,rfl,?_⟩
  cases ef:fr r.k r.b with
  | true=>
   have il:isLack r i many fk = false:=by unfold isLack; rw [ef]; rfl
   rw [il,if_neg Bool.false_ne_true,List.append_nil] at tk
   refine iteF ?_
   refine iteF ?_
   exact ⟨us,_,_,rfl,sH1,hl1,by rw [tk]; exact hm1⟩
  | false=>
   refine iteT ?_
   refine ⟨_,rfl,_,rfl,_,rfl,_,rfl,pa,d,i,many,r,fk,rfl,⟨dx',hd3⟩,rok,Same.rd (sHl sH1) hd,fun u H4 s4 e4=>?_⟩
   refine ⟨(by show 1<=sizeLine; decide),fun t ht=>?_⟩
   have s5:=same_new ht (.tup [.str "free"])
   refine ⟨u,t,_,_,rfl,rfl,SqT.of (s5 _ _ e4),SqT.of upd_same,oneE_flat hfl,rfl,_,rfl,?_⟩
   have s45:=s4.trans s5
   have il:isLack r i many fk = L2.eqT (oneE r i many fk) [.str "free"]:=by unfold isLack; rw [ef]; rfl
   rw [<- il]
   generalize upd H4 t (.tup [.str "free"]) = H5 at s5 s45 |-
   have hl5:=s45 _ _ hl1
   have sH5:∀ b u,H2 b = some u->b ≠ l->H5 b = some u:=fun b u e n=>s45 _ _ (sH1 b u e n)
   refine ite2 (fun c1=>?_) (fun c1=>?_)
   ·rw [c1,if_pos rfl] at tk
    refine ⟨_,rfl,.inl ⟨rfl,_,SqL.of hl5⟩,_,rfl,(by show 2<=sizeLine; decide),fun t2 ht2=>?_⟩
    have s6:=same_new ht2 (.tup [.str "lacking",.int (i:Nat)])
    have hl6:=s6 _ _ hl5
    have hu2:MA1 (upd H5 t2 (.tup [.str "lacking",.int (i:Nat)])) t2 ("lacking",i):=by
     show upd H5 t2 _ t2 = _
     rw [upd_same]
    refine ⟨l,_,.ref t2,rfl,rfl,hl6,small1000 (by rw [List.length_map]; omega),?_⟩
    refine ⟨us ++ [t2],_,_,rfl,fun b u e n=>?_,by rw [upd_same,List.map_append]; rfl,?_⟩
    ·rw [upd_ne n]
     exact s6 _ _ (sH5 b u e n)
    ·rw [tk]
     exact (((hm1.same s45).same s6).snoc hu2).upd hl6
   ·have c2:isLack r i many fk = false:=by
     cases e:isLack r i many fk with
     | false=>rfl
     | true=>exact absurd e c1
    rw [c2,if_neg Bool.false_ne_true,List.append_nil] at tk
    exact ⟨us,_,_,rfl,sH5,hl5,by rw [tk]; exact hm1.same s45⟩
 ·rintro σ H' ⟨us,v4,v5,rfl,sH,hl',hm⟩
  rw [List.length_map,hps.length,List.take_length] at hm
  exact ⟨_,rfl,q l H' (sHl sH) ⟨us,hl,hl',hm⟩⟩
end
def fpF:Nat->List (Str × Nat)->List Str->List (Str × Nat)
 | _,acc,[]=>acc
 | i,acc,z :: zs=>fpF (i + 1) (if (acc.any fun p=>decide (p.1 = z)) = true then acc else acc ++ [(z,i)]) zs
def kvP (fp:List (Str × Nat)):List (Key × V):=fp.map fun p=>(.inr p.1,.int (p.2:Nat))
theorem kvP_any (fp:List (Str × Nat)) (z:Str):(valV (kvP fp) (.inr z)).isSome = fp.any fun p=>decide (p.1 = z):=by
 rw [<- valV_any]
 unfold kvP
 rw [List.any_map]
 congr 1
 funext p
 show decide ((Sum.inr p.1:Key) = Sum.inr z) = decide (p.1 = z)
 exact key_rr _ _
theorem fst_fp:∀ (zs:List Str) (i:Nat) (acc:List (Str × Nat)),fstF i (kvP acc) zs = kvP (fpF i acc zs)
 | [],_,_=>rfl
 | z :: zs,i,acc=>by
  show fstF (i + 1) (if (valV (kvP acc) (.inr z)).isSome = true then kvP acc else putK (kvP acc) (.inr z) (.int i)) zs = kvP (fpF (i + 1) (if (acc.any fun p=>decide (p.1 = z)) = true then acc else acc ++ [(z,i)]) zs)
  rw [kvP_any]
  cases e:acc.any fun p=>decide (p.1 = z) with
  | true=>exact fst_fp zs (i + 1) acc
  | false=>
   have e2:putK (kvP acc) (.inr z) (.int (i:Nat)) = kvP (acc ++ [(z,i)]):=by
    unfold putK
    rw [valV_any,kvP_any,e,if_neg Bool.false_ne_true]
    unfold kvP
    rw [List.map_append]
    rfl
   rw [if_neg Bool.false_ne_true,if_neg Bool.false_ne_true,e2]
   exact fst_fp zs (i + 1) _
theorem kvP_val {fp:List (Str × Nat)} {k:Key} {v:V} (h:valV (kvP fp) k = some v):∃ (z:Str) (j:Nat),k = .inr z/\v = .int (j:Nat)/\(z,j) ∈ fp:=by
 unfold valV at h
 cases e:(kvP fp).find? fun kv=>decide (kv.1 = k) with
 | none=>rw [e] at h; cases h
 | some kv=>
  rw [e] at h
  have hm:=List.mem_of_find?_eq_some e
  have hk:=List.find?_some e
  unfold kvP at hm
  obtain ⟨p,hp,rfl⟩:=List.mem_map.mp hm
  exact ⟨p.1,p.2,(of_decide_eq_true hk).symm,(Option.some.inj h).symm,hp⟩
theorem fp_flat (fp:List (Str × Nat)):FlatD1 (kvP fp):=fun k v h=>by
 obtain ⟨z,j,_,rfl,_⟩:=kvP_val h
 rfl
theorem fp_keep {z:Str}:∀ (zs:List Str) (i:Nat) (acc:List (Str × Nat)),(acc.any fun p=>decide (p.1 = z)) = true->((fpF i acc zs).any fun p=>decide (p.1 = z)) = true
 | [],_,_,h=>h
 | y :: ys,i,acc,h=>by
  show ((fpF (i + 1) _ ys).any _) = true
  refine fp_keep ys (i + 1) _ ?_
  split
  ·exact h
  ·rw [List.any_append,h]; rfl
theorem fp_mem {z:Str}:∀ (zs:List Str) (i:Nat) (acc:List (Str × Nat)),z ∈ zs->((fpF i acc zs).any fun p=>decide (p.1 = z)) = true
 | [],_,_,h=>by cases h
 | y :: ys,i,acc,h=>by
  show ((fpF (i + 1) _ ys).any _) = true
  rcases List.mem_cons.mp h with rfl | h
  ·refine fp_keep ys (i + 1) _ ?_
   split
   next e=>exact e
   ·rw [List.any_append]
    simp
  ·exact fp_mem ys (i + 1) _ h
def fpZ (zs:List Str):List (Str × Nat):=fpF 0 [] zs
theorem fst_Z (zs:List Str):fstF 0 [] zs = kvP (fpZ zs):=fst_fp zs 0 []
def dblF (fk:List (Key × V)):Nat->List Str->List (Str × Nat)
 | _,[]=>[]
 | i,z :: zs=>(if valV fk (.inr z) = some (.int (i:Nat)) then [] else [(("doubled" : Str),i)]) ++ dblF fk (i + 1) zs
theorem dblF_snoc {fk:List (Key × V)} {z:Str}:∀ (zs:List Str) (j i:Nat),zs[i]? = some z->dblF fk j (zs.take (i + 1)) = dblF fk j (zs.take i) ++ (if valV fk (.inr z) = some (.int (j + i:Nat)) then [] else [(("doubled" : Str),j + i)])
 | [],_,_,h=>by simp at h
 | y :: ys,j,0,h=>by
  have e:y = z:=by simpa using h
  subst e
  show (_ ++ []) = [] ++ _
  rw [List.append_nil,List.nil_append]
  rfl
 | y :: ys,j,i + 1,h=>by
  have:=dblF_snoc (fk:=fk) ys (j + 1) i (by simpa using h)
  show _ ++ dblF fk (j + 1) (ys.take (i + 1)) = _
  rw [this,show j + 1 + i = j + (i + 1) by omega,<- List.append_assoc]
  rfl
theorem dblF_len (fk:List (Key × V)):∀ (zs:List Str) (i:Nat),(dblF fk i zs).length<=zs.length
 | [],_=>Nat.le_refl _
 | r :: rs,i=>by
  have:=dblF_len fk rs (i + 1)
  show (_ ++ dblF fk (i + 1) rs).length<=rs.length + 1
  rw [List.length_append]
  split
  ·rw [List.length_nil]; omega
  ·rw [List.length_singleton]; omega
def unwW (rows:List Rw) (bars:List Str) (many:Nat) (z:Str):Option Str:=
 if z ∈ bars then some "barred" else match lastD' z rows with
  | none=>if (firstK 4 0 rows).isSome = true then none else some "strange"
  | some l=>if l < plN rows/\l < many then some "again" else none
where lastD' (z:Str) (rows:List Rw):Option Nat:=match valV (doorsF 0 [] rows) (.inr z) with
 | some (.int i)=>some i.toNat
 | _=>none
def unwF (rows:List Rw) (bars:List Str) (many:Nat) (fp:List (Str × Nat)):List (Str × Nat):=fp.filterMap fun p=>(unwW rows bars many p.1).map fun wd=>(wd,p.2)
def missF (rows:List Rw) (bars:List Str) (many:Nat) (zs:List Str):List (Str × Nat):=dblF (kvP (fpZ zs)) 0 zs ++ overF rows many ++ unwF rows bars many (fpZ zs) ++ lackF many (kvP (fpZ zs)) 0 rows
def spUnw (c:C5) (CF:Addr):Sp:=fun vs H Q _=>∃ (f d:Addr) (o:Obj) (many:Nat) (rows:List Rw) (bars:List Str) (fp:List (Str × Nat)),vs = [.ref f,.int (many:Nat),.ref d]/\rows.length<=500/\bars.length<=500/\fp.length<=900/\FormAt c CF H f rows bars/\H d = some (.frz o (.dK (kvP fp)))/\∀ (l:Addr) (H':Hp),Same H H'->NewMs H H' l (unwF rows bars many fp)->Q (.ref l) H'
def spMOf (c:C5) (CF:Addr):Sp:=fun vs H Q _=>∃ (f a:Addr) (many:Nat) (rows:List Rw) (bars zs:List Str),vs = [.ref f,.int (many:Nat),.ref a]/\rows.length<=500/\bars.length<=500/\many<=900/\zs.length<=900/\(∀ r ∈ rows,r.ok)/\FormAt c CF H f rows bars/\H a = some (.lst (zs.map V.str))/\∀ (l:Addr) (H':Hp),Same H H'->NewMs H H' l (missF rows bars many zs)->Q (.ref l) H'
theorem fpF_len:∀ (zs:List Str) (i:Nat) (acc:List (Str × Nat)),(fpF i acc zs).length<=acc.length + zs.length
 | [],_,_=>Nat.le_refl _
 | z :: zs,i,acc=>by
  have h:=fpF_len zs (i + 1) (if (acc.any fun p=>decide (p.1 = z)) = true then acc else acc ++ [(z,i)])
  have h2:(if (acc.any fun p=>decide (p.1 = z)) = true then acc else acc ++ [(z,i)]).length<=acc.length + 1:=by
   split
   ·omega
   ·rw [List.length_append]; exact Nat.le_refl _
  show (fpF (i + 1) _ zs).length<=acc.length + (zs.length + 1)
  omega
theorem MsAt.app {H:Hp} {us vs:List Addr} {ms ns:List (Str × Nat)} (h:MsAt H us ms) (h':MsAt H vs ns):MsAt H (us ++ vs) (ms ++ ns):=paired_app h h'
section
variable {P:Program} {w:World} {K:PySem.W.Frag} {mg:Str->Option Value} {base:Heap} {f CF:Addr} {fd:FuncData} {c:C5} {m:MA}
theorem ndDb:([Str.ofString "number",Str.ofString "name",Str.ofString "firsts"]:List Str).Nodup:=by decide +kernel
theorem scMOf:FnScope ["form","many","names","firsts","doubled"] ["form","many","names"] (defScope sMOf):=⟨rfl,rfl,rfl,by decide +kernel,rfl,by decide +kernel,by decide +kernel⟩
theorem ok_mof {g1 g2 g3 g4:Addr} {d1 d2 d3 d4:FuncData} (F:Fun K "misfits_of" "misfits_of" sMOf f fd) (hen:mg "enumerate" = none) (c1:Callee P w K mg base 1 "first_numbers" g1 d1 ["names"] spFirsts) (c2:Callee P w K mg base 2 "overs" g2 d2 ["form","many"] (spOvers c CF)) (c3:Callee P w K mg base 2 "unwelcomes" g3 d3 ["form","many","firsts"] (spUnw c CF)) (c4:Callee P w K mg base 3 "lackings" g4 d4 ["form","many","firsts"] (spLacks c CF)) :
  FnOk P w K mg base CX0 4 f fd ["form","many","names"] (spMOf c CF):=by
 refine F.ok scMOf (fun vs H Q E h=>?_) (fun cdv A outer s H vs Q E hr h=>?_)
 ·obtain ⟨f,a,many,rows,bars,zs,rfl,_⟩:=h
  rfl
 obtain ⟨f,a,many,rows,bars,zs,rfl,l5,lb5,lm,lz,hok,hF,ha,q⟩:=h
 have hr1:Room 1 _:=hr.mono (by decide)
 have hr2:Room 2 _:=hr.mono (by decide)
 have hu1:=hu_of hr
 refine ⟨_,pss_cons (ps_set (i:=3) scMOf.nd rfl (Or.inr rfl) (cF c1 hr1 (ac (pv 2) pa_nil)))
  (pss_cons (ps_lc (i:=4) ["firsts"] ["number","name","firsts"] [none,none,some 3] scMOf.nd rfl (Or.inl rfl) rfl ⟨rfl,rfl,rfl,rfl⟩ (pi_enum rfl hen (ac (pv 2) pa_nil)) (gown_tup2 (K:=K) (n:=2) 0 1) rfl rfl rfl
   (fun pins fp s H C=>⟨pg_tup rfl (pgs_cons (pg_name (i:=0) ndDb rfl (Or.inl rfl) (.inr rfl)) (pgs_cons (pg_name (i:=1) ndDb rfl (Or.inl rfl) (.inr rfl)) pgs_nil)),pif_one (pt_cmpR op_ne (pe_dget hu1 (pv 2) (pv 1) (fun _ _=>rfl)) (pv 0) (nomark _)),pe_tup (ac pe_str (ac (pv 0) pa_nil))⟩))
  (pss_one (ps_ret (pe_op op_cat (pe_op op_cat (pe_op op_cat (pv 4) (cF c2 hr2 (ac (pv 0) (ac (pv 1) pa_nil)))) (cF c3 hr2 (ac (pv 0) (ac (pv 1) (ac (pv 3) pa_nil))))) (cF c4 hr (ac (pv 0) (ac (pv 1) (ac (pv 3) pa_nil)))))))),?_⟩
 refine ⟨_,rfl,a,zs,rfl,ha,lz,fun d o H1 s1 hd0 hd1=>?_⟩
 rw [fst_Z] at hd1
 have lfp:(fpZ zs).length<=900:=by
  have:=fpF_len zs 0 []
  show (fpF 0 [] zs).length<=900
  simp at this
  omega
 generalize hfp:fpZ zs = fp at hd1 lfp
 refine ⟨_,rfl,a,rfl,⟨_,SqL.of (s1 _ _ ha)⟩,fun D hD=>?_⟩
 refine lc_enum (K:=K) (xs:=zs.map V.str) (fun i ys H'=>∃ us,ys = us.map V.ref/\Same H1 H'/\H' D = some (.lst ys)/\MsAt H' us (dblF (kvP fp) 0 (zs.take i))) ⟨[],rfl,same_new hD _,upd_same,.nil⟩ (fun i ys H' ⟨_,_,h,_⟩=>SqL.of (h _ _ (s1 _ _ ha))) ?_ ?_
 ·rintro i x p ys H' hlt hx ⟨us,rfl,sH,hDy,hm⟩ hpn
  obtain ⟨z,hz,rfl⟩:=strs_at hx
  have hi:i < zs.length:=(List.getElem?_eq_some_iff.mp hz).1
  have tk:=dblF_snoc (fk:=kvP fp) zs 0 i hz
  rw [Nat.zero_add] at tk
  have sp:=same_new hpn (.tup [.int (i:Nat),.str z])
  have lu:us.length<=i:=by
   rw [hm.length]
   refine Nat.le_trans (dblF_len _ _ _) ?_
   rw [List.length_take]
   omega
  have hsome:(valV (kvP fp) (.inr z)).isSome = true:=by
   rw [kvP_any,<- hfp]
   exact fp_mem zs 0 [] (List.mem_of_getElem? hz)
  obtain ⟨v,hv⟩:=Option.isSome_iff_exists.mp hsome
  obtain ⟨_,j,_,rfl,_⟩:=kvP_val hv
  have hd2:=sp _ _ (sH _ _ hd1)
  have hDy2:=sp _ _ hDy
  have hm2:=hm.same sp
  refine ⟨p,_,rfl,SqT.of upd_same,rfl,_,_,rfl,_,_,rfl,rfl,?_⟩
  have sA:=sH.trans sp
  generalize upd H' p (.tup [.int (i:Nat),.str z]) = H3 at sp hd2 hDy2 hm2 sA |-
  refine ⟨_,rfl,_,rfl,d,_,rfl,.inl ⟨_,.inr z,.inr ⟨o,hd2⟩,rfl,hv.symm⟩,_,rfl,rfl,_,rfl,?_⟩
  by_cases ej:j = i
  ·subst ej
   rw [if_pos hv,List.append_nil] at tk
   have ed:(!decide (V.int (j:Nat) = V.int (j:Nat))) = false:=by rw [decide_eq_true rfl]; rfl
   rw [ed]
   exact ⟨fun e=>Bool.noConfusion e,fun _=>lcS.mk hlt ⟨us,rfl,sA,hDy2,by rw [tk]; exact hm2⟩⟩
  ·have nv:¬ valV (kvP fp) (.inr z) = some (.int (i:Nat)):=fun e=>by
    rw [hv] at e
    have:=V.int.inj (Option.some.inj e)
    omega
   rw [if_neg nv] at tk
   have ed:(!decide (V.int (j:Nat) = V.int (i:Nat))) = true:=by
    rw [decide_eq_false (fun e=>by have:=V.int.inj e; omega)]
    rfl
   rw [ed]
   refine ⟨fun _=>?_,fun e=>Bool.noConfusion e⟩
   refine ⟨_,rfl,(by show 2<=sizeLine; decide),fun t ht=>?_⟩
   have s4:=same_new ht (.tup [.str "doubled",.int (i:Nat)])
   have hDy4:=s4 _ _ hDy2
   have hu:MA1 (upd H3 t (.tup [.str "doubled",.int (i:Nat)])) t ("doubled",i):=by
    show upd H3 t _ t = _
    rw [upd_same]
   refine lcN.mk hlt (le1000 (by rw [List.length_map]; omega)) hDy4 (by rw [List.length_map]; exact lu) ⟨us ++ [t],by rw [List.map_append]; rfl,fun b' u' e'=>?_,upd_same,?_⟩
   ·rw [upd_ne (ne_of_none e' hD)]
    exact s4 _ _ (sA _ _ e')
   ·rw [tk]
    exact ((hm2.same s4).snoc hu).upd hDy4
 rintro ys H2 ⟨us,rfl,s2,hDy,hm⟩
 rw [List.length_map,List.take_length] at hm
 have s12:=s1.trans s2
 have lov:(overF rows many).length<=900:=by
  unfold overF
  split
  ·exact Nat.zero_le _
  ·rw [List.length_map,List.length_range]; omega
 have lun:(unwF rows bars many fp).length<=900:=by
  unfold unwF
  exact Nat.le_trans (List.length_filterMap_le _ _) lfp
 have lla:=lackF_len many (kvP fp) rows 0
 have ldb:=dblF_len (kvP fp) zs 0
 have big : 4000<=sizeLine:=by decide
 refine ⟨_,rfl,_,rfl,_,rfl,f,many,rows,bars,rfl,lm,l5,hF.same s12,fun l3 H3 s3 ⟨us3,n3,e3,m3⟩=>?_⟩
 have lu0:=hm.length
 have lu3:=m3.length
 refine ⟨D,l3,_,_,rfl,rfl,s3 _ _ hDy,e3,(by simp only [List.length_map]; omega),fun p4 hp4=>?_⟩
 rw [<- List.map_append]
 have u4:=same_new hp4 (.lst ((us ++ us3).map V.ref))
 have e4:upd H3 p4 (.lst ((us ++ us3).map V.ref)) p4 = some (.lst ((us ++ us3).map V.ref)):=upd_same
 have m4:MsAt (upd H3 p4 (.lst ((us ++ us3).map V.ref))) (us ++ us3) _:=((hm.same s3).app m3).same u4
 generalize upd H3 p4 (.lst ((us ++ us3).map V.ref)) = H4 at u4 e4 m4 |-
 have s24:=s2.trans (s3.trans u4)
 have s14:=s1.trans s24
 refine ⟨_,rfl,_,rfl,_,rfl,f,d,o,many,rows,bars,fp,rfl,l5,lb5,lfp,hF.same s14,s24 _ _ hd1,fun l5' H5 s5 ⟨us5,n5,e5,m5⟩=>?_⟩
 have lu5:=m5.length
 refine ⟨p4,l5',_,_,rfl,rfl,s5 _ _ e4,e5,(by simp only [List.length_map,List.length_append]; omega),fun p6 hp6=>?_⟩
 rw [<- List.map_append]
 have u6:=same_new hp6 (.lst ((us ++ us3 ++ us5).map V.ref))
 have e6:upd H5 p6 (.lst ((us ++ us3 ++ us5).map V.ref)) p6 = some (.lst ((us ++ us3 ++ us5).map V.ref)):=upd_same
 have m6:MsAt (upd H5 p6 (.lst ((us ++ us3 ++ us5).map V.ref))) (us ++ us3 ++ us5) _:=((m4.same s5).app m5).same u6
 generalize upd H5 p6 (.lst ((us ++ us3 ++ us5).map V.ref)) = H6 at u6 e6 m6 |-
 have s26:=s24.trans (s5.trans u6)
 have s16:=s1.trans s26
 refine ⟨_,rfl,_,rfl,_,rfl,f,d,many,rows,bars,kvP fp,rfl,l5,hok,hF.same s16,.inr ⟨o,s26 _ _ hd1⟩,fp_flat fp,fun l7 H7 s7 ⟨us7,n7,e7,m7⟩=>?_⟩
 have lu7:=m7.length
 refine ⟨p6,l7,_,_,rfl,rfl,s7 _ _ e6,e7,(by simp only [List.length_map,List.length_append]; omega),fun p8 hp8=>?_⟩
 rw [<- List.map_append]
 have u8:=same_new hp8 (.lst ((us ++ us3 ++ us5 ++ us7).map V.ref))
 refine q p8 _ (s16.trans (s7.trans u8)) ⟨us ++ us3 ++ us5 ++ us7,(s16.trans s7).free hp8,upd_same,?_⟩
 unfold missF
 rw [hfp]
 exact ((m6.same s7).app m7).same u8
end
end K54
namespace L2
open PySem PySem.Spec PyProof.Rows
def seen (val:Nat->Str) (T:Str->Bool):Nat->Nat->Str->Bool
 | _,0,z=>T z
 | i,k + 1,z=>seen val (fun y=>T y || decide (y = val i)) (i + 1) k z
section
variable {P:Program} {w:World} {A:Around} {R:Result->Shared->Prop} {I:Addr} {fp wr:List Addr} {G:Array GenState->Array GenState->Prop} {n:Nat} {Pr:Nat->Value->Prop} {Sg:Nat->Shared->Prop}
theorem texts_loop (W:WalksS P w A.in1 I fp wr G n Pr Sg) (a:Addr) (ha:a ∉ fp) (val:Nat->Str) (hv:∀ i v,Pr i v->∃ t,v = .str (val i) t) (hb:n + 1 < scanBound) :
  ∀ (k i:Nat) (s:Shared) (T:Str->Bool) (c:Nat),n - i = k->i<=n->Sg i s->c<=i->s.heap.SetOf (strKind P w) a T c->
   (∀ s' c',Moved (a :: wr) G s s'->c'<=n->s'.heap.SetOf (strKind P w) a (seen val T i k) c'->R (.ok (.ret .none)) s')->
   codeAny (model P w) A (.builtin "set.update.loop" ⟨[.ref a,.ref I],[]⟩) R s
 | 0,i,s,T,c,hk,hi,hg,hc,hT,hR=>by
  have hw:a ∉ wr:=fun z=>ha (W.sub _ z)
  have ei:i = n:=by omega
  subst ei
  refine codeAny_builtin PyProof.Rows.F.entry_set_update_loop ?_; rw [Around.under_plainId PyProof.Rows.F.plain_set_update_loop _]
  show wpAny _ A.in1 (pyNext (.ref I) >>= _) _ _ _; refine wpAny_bind (W.done s _ _ hg fun s' hm=>?_)
  show wpAny _ A.in1 (ret Value.none) _ _ _; refine wpAny_pure (hR s' c (hm.mono fun b z=>List.mem_cons_of_mem _ z) hc ?_)
  obtain ⟨ob,es,ep,t,h1,h2⟩:=hT
  exact ⟨ob,es,ep,t,hm.heap a _ hw h1,h2⟩
 | k + 1,i,s,T,c,hk,hi,hg,hc,hT,hR=>by
  have hw:a ∉ wr:=fun z=>ha (W.sub _ z)
  have hlt:i < n:=by omega
  refine codeAny_builtin PyProof.Rows.F.entry_set_update_loop ?_; rw [Around.under_plainId PyProof.Rows.F.plain_set_update_loop _]
  show wpAny _ A.in1 (pyNext (.ref I) >>= _) _ _ _; refine wpAny_bind (W.item i s _ _ hlt hg fun v s' hP hg' hm=>?_)
  obtain ⟨t,rfl⟩:=hv i v hP
  have hT':s'.heap.SetOf (strKind P w) a T c:=by
   obtain ⟨ob,es,ep,tb,h1,h2⟩:=hT
   exact ⟨ob,es,ep,tb,hm.heap a _ hw h1,h2⟩
  show wpAny _ A.in1 (holding [Value.str (val i) t] (setAdd a (.str (val i) t)) >>= _) _ _ s'
  refine wpAny_bind (wpAny_holding ?_); unfold setAdd; refine wpAny_holding ?_
  refine wpAny_bind ((strKind P w).pyHash (k:=val i) (strKind_is _ _ _ _) ?_)
  refine wpAny_setAddHashed_of (knd:=strKind P w) (s:={ s' with toks:=s'.toks + 1 }) (strKind_is _ _ _ _) rfl hT' (by omega) fun h' hsb h3=>?_
  refine wpAny_pure ⟨plainId_quiet PyProof.Rows.F.plain_set_update_loop _,texts_loop W a ha val hv hb k (i + 1) _ _ _ (by omega) hlt (W.frame _ s' _ _ hg' (Nat.le_succ _) fun b hb' o e=>?_) (by split <;> omega) h3 fun s2 c2 hm2 hc2 h4=>?_⟩
  ·have:b ≠ a:=fun z=>ha (z ▸ hb')
   rw [hsb.2 b this]; exact e
  ·refine hR s2 c2 (Moved.trans W.gtrans ((hm.mono fun b z=>List.mem_cons_of_mem _ z).then_heap (Nat.le_succ _) fun b o hb' e=>?_) hm2) hc2 h4
   have:b ≠ a:=fun z=>hb' (z ▸ List.mem_cons_self)
   rw [hsb.2 b this]; exact e
end
abbrev setN (led:Bool):Obj:={ cls:=.type "set",dict:=none,data:=.set #[] 0 (.fresh 0 0 led) }
set_option maxHeartbeats 8000000 in
theorem call_texts {P:Program} {w:World} {A:Around} {E:Value->Shared->Prop} {s:Shared} {l:Addr} {items:Array Value} {zs:List Str} {Q:Value->Shared->Prop}
  (hh:A.handled = none) (hl:s.heap.IsList l items) (hv:∀ (i:Nat) (v:Value),items[i]? = some v->∃ t,v = .str (zs.getD i "") t) (hb:items.size + 1 < scanBound)
  (h:∀ (h':Heap) (tk c:Nat),h'.SetOf (strKind P w) s.heap.objs.size (seen (fun i=>zs.getD i "") (fun _=>false) 0 items.size) c->(∀ b o,b < s.heap.objs.size->s.heap.get? b = some o->h'.get? b = some o)->Q (.ref s.heap.objs.size) { s with heap:=h',toks:=tk }) :
  wpAny (model P w) A (call (.type "set") [.ref l]) Q E s:=by
 obtain ⟨mc,mt,mro⟩:=PySem.F.called_set.mro
 have q1:=PySem.F.called_set.made; have q2:=PySem.F.called_set.sub; have q3:=PySem.F.called_set.notType; have q4:=PySem.F.called_set.canCreate; have q5:=PySem.F.typeCall_set_1 (.ref l)
 refine wpAny_call (codeAny_of_tree ?_); show wpAny _ _ (callAny (.type "set") _) _ _ _
 refine wpAny_pure ⟨Code.quiet_builtin _ (by decide +kernel),codeAny_builtin PySem.F.entry_type_call ?_⟩; rw [Around.under_plain (weight_type_call_type "set" [.ref l] []) rfl]
 repeat (any_goals first | assumption | wp_step)
 refine codeAny_mono (code_set_new_1 (.ref l) (E:=E) (Q₁:=fun obj s₁=>∃ led:Bool,obj = .ref s.heap.objs.size/\s₁ = { s with heap:=s.heap.push (setN led) }) fun led=>⟨led,rfl,rfl⟩) fun r s₁ hr=>?_
 rcases r with e | (_ | _ | _ | obj)
 ·exact hr
 ·exact hr.elim
 ·exact hr.elim
 ·exact hr.elim
 ·obtain ⟨led,rfl,rfl⟩:=hr
  have hS:(s.heap.push (setN led)).get? s.heap.objs.size = some (setN led):=Heap.get?_push_size _ rfl
  have hT:Shared.TypeIs { s with heap:=s.heap.push (setN led) } (.ref s.heap.objs.size) "set":=⟨_,hS,rfl⟩
  have q6:=PySem.F.called_set.init.lookup; have q7:=PySem.F.called_set.init.bind (.ref s.heap.objs.size)
  repeat (any_goals first | assumption | wp_step)
  refine codeAny_mono (codeAny_call_builtin (R:=wants (fun r s₂=>r = .none/\∃ h' tk c,s₂ = { s with heap:=h',toks:=tk }/\h'.SetOf (strKind P w) s.heap.objs.size (seen (fun i=>zs.getD i "") (fun _=>false) 0 items.size) c/\∀ b o,b < s.heap.objs.size->s.heap.get? b = some o->h'.get? b = some o) E) PySem.F.called_set.init.plain PySem.F.entry_set_init (check_set_init_1 hT ?_)) fun r₂ s₂ hr₂=>?_
  ·obtain ⟨ol,hol,hcl,nl,hdl⟩:=id hl
   obtain ⟨ocls,odict,odata,oslots⟩:=ol
   simp only at hcl hdl
   subst hcl hdl
   have hol':(s.heap.push (setN led)).get? l = _:=Heap.get?_push_of_some (setN led) hol
   have t1:=PySem.F.sub_list_set; have t2:=PySem.F.sub_list_frozenset
   have t3:(Value.type "list" == Value.type "dict") = false:=by decide
   have hl1:(s.heap.push (setN led)).IsList l items:=⟨_,hol',rfl,nl,rfl⟩
   have hlS:l < s.heap.objs.size:=Heap.lt_size hol
   unfold Builtin.«set.__init__» noKeywords Builtin.Frozenset.updateFrom
   generalize hq:pyIter = pit
   wp_walk
   subst hq
   refine wpAny_pyIter_list hl1 (wpAny_bind (wpAny_runValue ?_))
   have hz:(s.heap.push (setN led)).objs.size = s.heap.objs.size + 1:=Heap.size_push ..
   have n1:l ≠ (s.heap.push (setN led)).objs.size:=by rw [hz]; exact Nat.ne_of_lt (Nat.lt_succ_of_lt hlS)
   have n2:∀ b:Addr,b < s.heap.objs.size->b ∉ [s.heap.objs.size,(s.heap.push (setN led)).objs.size]:=fun b hb' z=>by
    rw [hz] at z
    rcases List.mem_cons.mp z with e | e
    ·exact Nat.ne_of_lt hb' e
    ·exact Nat.ne_of_lt (Nat.lt_succ_of_lt hb') (List.mem_singleton.mp e)
   have n3:s.heap.objs.size ∉ [(s.heap.push (setN led)).objs.size,l]:=fun z=>by
    rw [hz] at z
    rcases List.mem_cons.mp z with e | e
    ·exact Nat.ne_of_lt (Nat.lt_succ_self _) e
    ·exact Nat.ne_of_gt hlS (List.mem_singleton.mp e)
   refine texts_loop ((Walks.list (by simp [hh]) _ l n1 items).toS) s.heap.objs.size n3 (fun i=>zs.getD i "") hv hb items.size 0 _ (fun _=>false) 0 (by omega) (Nat.zero_le _) ⟨⟨_,Heap.get?_push_size _ rfl,rfl,rfl⟩,hl1.push _⟩ (Nat.le_refl _) ?_ ?_
   ·exact (PyProof.Rows.setObjOf_fresh (knd:=strKind P w) led).setOf (Heap.get?_push_of_some _ hS) (by unfold scanBound; omega)
   ·rintro ⟨h',g',d',tk',os'⟩ c' hm hc' hS'
    have e1:g' = s.gens:=hm.gens
    have e2:d' = s.drawn:=hm.drawn
    have e3:os' = s.os:=hm.os
    subst e1 e2 e3
    show wpAny _ _ _ _ _ _
    refine wpAny_pure ?_; show wpAny _ _ (ret Value.none) _ _ _
    refine wpAny_pure ⟨rfl,h',tk',c',rfl,hS',fun b o hb' e=>hm.heap b o (n2 b hb') (Heap.get?_push_of_some _ (Heap.get?_push_of_some _ e))⟩
  ·rcases r₂ with e | (_ | _ | _ | ob2)
   ·exact hr₂
   ·exact hr₂.elim
   ·exact hr₂.elim
   ·exact hr₂.elim
   ·obtain ⟨rfl,h',tk,c',rfl,hS',hk'⟩:=hr₂
    repeat (any_goals first | assumption | wp_step)
    exact h _ _ _ hS' hk'
theorem seen_any (val:Nat->Str) (z:Str):∀ (k i:Nat) (T:Str->Bool),seen val T i k z = true ↔ (T z = true\/∃ j,j < k/\z = val (i + j))
 | 0,i,T=>⟨fun h=>.inl h,fun h=>h.elim id fun ⟨j,hj,_⟩=>absurd hj (Nat.not_lt_zero _)⟩
 | k + 1,i,T=>by
  show seen val (fun y=>T y || decide (y = val i)) (i + 1) k z = true ↔ _
  rw [seen_any val z k (i + 1)]
  simp only [Bool.or_eq_true,decide_eq_true_eq]
  constructor
  ·rintro ((h | h) | ⟨j,hj,e⟩)
   ·exact .inl h
   ·exact .inr ⟨0,by omega,h⟩
   ·exact .inr ⟨j + 1,by omega,by rw [show i + (j + 1) = i + 1 + j by omega]; exact e⟩
  ·rintro (h | ⟨j,hj,e⟩)
   ·exact .inl (.inl h)
   ·cases j with
    | zero=>exact .inl (.inr e)
    | succ j=>exact .inr ⟨j,by omega,by rw [show i + 1 + j = i + (j + 1) by omega]; exact e⟩
theorem seen_mem (zs:List Str) (z:Str):seen (fun i=>zs.getD i "") (fun _=>false) 0 zs.length z = decide (z ∈ zs):=by
 rw [Bool.eq_iff_iff,seen_any,decide_eq_true_eq]
 constructor
 ·rintro (h | ⟨j,hj,e⟩)
  ·cases h
  ·rw [e,Nat.zero_add]
   show zs.getD j "" ∈ zs
   rw [List.getD_eq_getElem?_getD,List.getElem?_eq_getElem hj]
   exact List.getElem_mem hj
 ·intro h
  obtain ⟨j,hj,e⟩:=List.mem_iff_getElem.mp h
  refine .inr ⟨j,hj,?_⟩
  rw [Nat.zero_add]
  show z = zs.getD j ""
  rw [List.getD_eq_getElem?_getD,List.getElem?_eq_getElem hj]
  exact e.symm
theorem Vals.strs_at:∀ {zs:List Str} {us:List Value},Vals (zs.map V.str) us->∀ (i:Nat) (v:Value),us[i]? = some v->∃ t,v = .str (zs.getD i "") t
 | [],_,.nil,i,v,h=>by simp at h
 | z :: zs,_,.cons r t,0,v,h=>by
  obtain ⟨tk,e⟩:=r
  have:v = .str z tk:=by rw [<- e]; simpa using h.symm
  exact ⟨tk,this⟩
 | z :: zs,_,.cons r t,i + 1,v,h=>Vals.strs_at t i v (by simpa using h)
theorem call_setT {X:Cx} (hc:X.calm = true):CallR X (.type "set") (fun xs H Q=>∃ (p:Addr) (zs:List Str),xs = [.ref p]/\SqL X.K H p (zs.map V.str)/\zs.length<=900/\∀ (l:Addr) (n:Nat),H l = none->Q (.ref l) (upd H l (setO X.prog X.w l (fun z=>decide (z ∈ zs)) n))):=by
 intro pins s σ H xs us Q I r h
 obtain ⟨p,zs,rfl,hS,lz,q⟩:=h
 obtain ⟨u,rfl,ru⟩:=vals1 r
 cases ru
 obtain ⟨its,rv,hp,hz⟩:=I.list hS
 have hl:its.length = zs.length:=by rw [<- rv.length,List.length_map]
 have hb:its.toArray.size + 1 < scanBound:=by
  rw [List.size_toArray,hl]
  have : 1000 < scanBound:=by unfold scanBound; decide
  omega
 refine call_texts (I.ok.hd hc) hp.isList (fun i v e=>rv.strs_at i v (by simpa using e)) hb fun h' tk c hS' hk=>?_
 have hsz:its.toArray.size = zs.length:=by rw [List.size_toArray,hl]
 rw [hsz] at hS'
 have eS:seen (fun i=>zs.getD i "") (fun _=>false) 0 zs.length = fun z=>decide (z ∈ zs):=funext (seen_mem zs)
 rw [eS] at hS'
 refine ⟨.ref s.heap.objs.size,_,I.laid (t':=tk) (fun b ob e=>hk b ob (Heap.lt_size e) e) (Nat.le_refl _) (setO_ok hS'),rfl,q _ c (I.hok.fresh (Nat.le_refl _))⟩
end L2
namespace K54
open PySem L2 PyProof.Rows
theorem dv_val:∀ (rows:List Rw) (i:Nat) (acc:List (Key × V)) (k:Key) (v:V),(∀ k v,valV acc k = some v->∃ j:Nat,v = .int (j:Nat))->valV (doorsF i acc rows) k = some v->∃ j:Nat,v = .int (j:Nat)
 | [],_,acc,k,v,h,e=>h k v e
 | r :: rs,i,acc,k,v,h,e=>by
  refine dv_val rs (i + 1) _ k v (fun k v e=>?_) e
  split at e
  ·rw [valV_put] at e
   split at e
   ·exact ⟨i,(Option.some.inj e).symm⟩
   ·exact h k v e
  ·exact h k v e
theorem unwF_snoc {rows:List Rw} {bars:List Str} {many:Nat} {fp:List (Str × Nat)} {i:Nat} {p:Str × Nat} (h:fp[i]? = some p):unwF rows bars many (fp.take (i + 1)) = unwF rows bars many (fp.take i) ++ (match unwW rows bars many p.1 with | some wd=>[(wd,p.2)] | none=>[]):=by
 unfold unwF
 rw [List.take_add_one,h,List.filterMap_append]
 congr 1
 show List.filterMap _ [p] = _
 rw [List.filterMap_cons,List.filterMap_nil]
 cases unwW rows bars many p.1 <;> rfl
theorem unwF_len (rows:List Rw) (bars:List Str) (many:Nat) (fp:List (Str × Nat)):(unwF rows bars many fp).length<=fp.length:=List.length_filterMap_le _ _
section
variable {P:Program} {w:World} {K:PySem.W.Frag} {mg:Str->Option Value} {base:Heap} {f CF:Addr} {fd:FuncData} {c:C5} {m:MA}
theorem scUnw:FnScope ["form","many","firsts","barred","found","name","number","leads_to"] ["form","many","firsts"] (defScope sUnw):=⟨rfl,rfl,rfl,by decide +kernel,rfl,by decide +kernel,by decide +kernel⟩
theorem ok_unw {gB gN gG gP:Addr} {eB eN eG eP:FuncData} (F:Fun K "unwelcomes" "unwelcomes" sUnw f fd) (hset:mg "set" = none) (FK:FC K CF) (mB:Meth K CF "bars" gB) (GB:FnOk P w K mg base CX0 1 gB eB ["self"] (spBars c CF)) (bB:Binds K eB ["self"] []) (mN:Meth K CF "number_of" gN) (GN:FnOk P w K mg base CX0 1 gN eN ["self","name"] (spNum c CF)) (bN:Binds K eN ["self","name"] [])
  (mG:Meth K CF "bag" gG) (GG:FnOk P w K mg base CX0 1 gG eG ["self"] (spWord c CF 4)) (bG:Binds K eG ["self"] []) (mP:Meth K CF "places" gP) (GP:FnOk P w K mg base CX0 1 gP eP ["self"] (spPlaces c CF)) (bP:Binds K eP ["self"] []) :
  FnOk P w K mg base CX0 2 f fd ["form","many","firsts"] (spUnw c CF):=by
 refine F.ok scUnw (fun vs H Q E h=>?_) (fun cdv A outer s H vs Q E hr h=>?_)
 ·obtain ⟨f,d,o,many,rows,bars,fp,rfl,_⟩:=h
  rfl
 obtain ⟨f,d,o,many,rows,bars,fp,rfl,l5,lb5,lfp,hF,hd,q⟩:=h
 refine ⟨_,pss_cons (ps_set (i:=3) scUnw.nd rfl (Or.inl rfl) (cTy (call_setT rfl) hset PyProof.Rows.boot_set (ac (pe_meth0 (pv 0) FK.cl mB GB hr bB .nil pass0) pa_nil)))
  (pss_cons (ps_set (i:=4) scUnw.nd rfl (Or.inl rfl) (pe_lst pa_nil))
  (pss_cons (ps_for PassesOwn.never rfl (pi_items (pv 2)) (pg_tup rfl (pgs_cons (pg_name (i:=5) scUnw.nd rfl (Or.inl rfl)) (pgs_cons (pg_name (i:=6) scUnw.nd rfl (Or.inl rfl)) pgs_nil)))
   (pss_cons (ps_set (i:=7) scUnw.nd rfl (Or.inl rfl) (pe_meth (pv 0) FK.cl mN GN hr bN .nil pass0 (ac (pv 5) pa_nil)))
   (pss_one (ps_if (pt_cmpR op_in_setT (pv 5) (pv 3) (by with_unfolding_all rfl)) (pss_one (ps_expr (pe_bm PySem.F.plainAttrs_list PySem.F.slot_list_append PySem.F.type_list_append mt_append (pv 4) (ac (pe_tup (ac pe_str (ac (pv 6) pa_nil))) pa_nil))))
    (pss_one (ps_if (pt_cmp (pc_isN (pv 7))) (pss_one (ps_if (pt_cmp (pc_isN (pe_meth0 (pv 0) FK.cl mG GG hr bG .nil pass0))) (pss_one (ps_expr (pe_bm PySem.F.plainAttrs_list PySem.F.slot_list_append PySem.F.type_list_append mt_append (pv 4) (ac (pe_tup (ac pe_str (ac (pv 6) pa_nil))) pa_nil)))) pss_nil))
     (pss_one (ps_if (PW.pt (pw_and (pt_cmpR op_lt (pv 7) (pe_meth0 (pv 0) FK.cl mP GP hr bP .nil pass0) (nomark _)) (pw_and1 (pt_cmpR op_lt (pv 7) (pv 1) (nomark _))))) (pss_one (ps_expr (pe_bm PySem.F.plainAttrs_list PySem.F.slot_list_append PySem.F.type_list_append mt_append (pv 4) (ac (pe_tup (ac pe_str (ac (pv 6) pa_nil))) pa_nil)))) pss_nil))))))))
  (pss_one (ps_ret (pv 4))))),?_⟩
 obtain ⟨dx,fs,lr,lb,ld,ps0,h1,h2,h3,h4,h5,h6⟩:=id hF
 have nmB:fs.lookup ("bars" : Str) = none:=h2.no _ (by decide +kernel)
 have nmN:fs.lookup ("number_of" : Str) = none:=h2.no _ (by decide +kernel)
 have nmG:fs.lookup ("bag" : Str) = none:=h2.no _ (by decide +kernel)
 have nmP:fs.lookup ("places" : Str) = none:=h2.no _ (by decide +kernel)
 refine ⟨_,rfl,f,dx,fs,rfl,h1,nmB,f,rows,bars,rfl,hF,fun lb1 H1 s1 nb eb=>?_⟩
 refine ⟨lb1,bars,rfl,SqL.of eb,by omega,fun sS nS hS=>?_⟩
 have u2:=same_new hS (setO P w sS (fun z=>decide (z ∈ bars)) nS)
 have e2:upd H1 sS (setO P w sS (fun z=>decide (z ∈ bars)) nS) sS = some (setO P w sS (fun z=>decide (z ∈ bars)) nS):=upd_same
 show tSeq _ _ _ _ (upd H1 sS (setO P w sS (fun z=>decide (z ∈ bars)) nS))
 generalize upd H1 sS (setO P w sS (fun z=>decide (z ∈ bars)) nS) = H2 at u2 e2 |-
 refine ⟨(by show 0<=sizeLine; decide),fun l hl=>?_⟩
 have u3:=same_new hl (.lst [])
 have e3:upd H2 l (.lst []) l = some (.lst []):=upd_same
 show tSeq _ _ _ _ (upd H2 l (.lst []))
 generalize upd H2 l (.lst []) = H3 at u3 e3 |-
 have s2:=s1.trans u2
 have s3:=s2.trans u3
 have hlH:H l = none:=s2.free hl
 have nl:∀ {b:Addr} {u:HO},H2 b = some u->b ≠ l:=fun e=>ne_of_none e hl
 have sHl:∀ {H':Hp},(∀ b u,H2 b = some u->H' b = some u)->Same H H':=fun k b u e=>k b u (s2 _ _ e)
 refine ⟨_,rfl,d,o,kvP fp,rfl,s3 _ _ hd,for_items (d:=d) (o:=o) (kvs:=kvP fp) (fun i σ H'=>∃ (us:List Addr) (v5 v6 v7:Option V),σ = [some (.ref f),some (.int (many:Nat)),some (.ref d),some (.ref sS),some (.ref l),v5,v6,v7]/\(∀ b u,H2 b = some u->H' b = some u)/\H' l = some (.lst (us.map V.ref))/\MsAt H' us (unwF rows bars many (fp.take i)))
  ⟨[],_,_,_,rfl,fun _ _ e=>u3 _ _ e,e3,.nil⟩ (fun i σ H' _ ⟨_,_,_,_,_,sH,_⟩=>sH _ _ (s2 _ _ hd)) ?_ ?_⟩
 ·rintro i k v p σ H' hk ⟨us,v5,v6,v7,rfl,sH,hl',hm⟩ hpn
  obtain ⟨z,n,hz,rfl,rfl⟩:∃ (z:Str) (n:Nat),fp[i]? = some (z,n)/\k = .inr z/\v = .int (n:Nat):=by
   unfold kvP at hk
   rw [List.getElem?_map] at hk
   cases e:fp[i]? with
   | none=>rw [e] at hk; cases hk
   | some q=>rw [e] at hk; cases hk; exact ⟨q.1,q.2,rfl,rfl,rfl⟩
  have tk:=unwF_snoc (rows:=rows) (bars:=bars) (many:=many) hz
  dsimp only at tk
  have sp:=same_new hpn (.tup [kV (.inr z),.int (n:Nat)])
  have lu:us.length<=i:=by
   rw [hm.length]
   refine Nat.le_trans (unwF_len _ _ _ _) ?_
   rw [List.length_take]
   omega
  have hi:i < fp.length:=(List.getElem?_eq_some_iff.mp hz).1
  have sH1:∀ b u,H2 b = some u->upd H' p (.tup [kV (.inr z),.int (n:Nat)]) b = some u:=fun b u e=>sp _ _ (sH b u e)
  have hl1:=sp _ _ hl'
  have hm1:=hm.same sp
  refine ⟨p,_,rfl,SqT.of upd_same,rfl,_,_,rfl,_,_,rfl,rfl,?_⟩
  generalize upd H' p (.tup [kV (.inr z),.int (n:Nat)]) = H4 at sH1 hl1 hm1 |-
  have s4:=sHl sH1
  refine ⟨_,rfl,f,dx,fs,rfl,s4 _ _ h1,nmN,_,rfl,f,z,rows,bars,rfl,hF.same s4,?_⟩
  refine ⟨_,rfl,_,rfl,sS,_,_,z,rfl,rfl,sH1 _ _ e2,_,rfl,?_⟩
  by_cases hz1:z ∈ bars
  ·refine dT hz1 ?_
   rw [show unwW rows bars many z = some "barred" from if_pos hz1] at tk
   refine ⟨_,rfl,.inl ⟨rfl,_,SqL.of hl1⟩,_,rfl,(by show 2<=sizeLine; decide),fun t ht=>?_⟩
   have s6:=same_new ht (.tup [.str "barred",.int (n:Nat)])
   have hl6:=s6 _ _ hl1
   have hu2:MA1 (upd H4 t (.tup [.str "barred",.int (n:Nat)])) t ("barred",n):=by
    show upd H4 t _ t = _
    rw [upd_same]
   refine ⟨l,_,.ref t,rfl,rfl,hl6,small1000 (by rw [List.length_map]; omega),?_⟩
   refine ⟨us ++ [t],_,_,_,rfl,fun b u e=>?_,by rw [upd_same,List.map_append]; rfl,?_⟩
   ·rw [upd_ne (nl e)]
    exact s6 _ _ (sH1 b u e)
   ·rw [tk]
    exact ((hm1.same s6).snoc hu2).upd hl6
  ·refine dF hz1 ?_
   have e0:unwW rows bars many z = (match unwW.lastD' z rows with | none=>if (firstK 4 0 rows).isSome = true then none else some "strange" | some l=>if l < plN rows/\l < many then some "again" else none):=if_neg hz1
   cases ev:valV (doorsF 0 [] rows) (.inr z) with
   | none=>
    have e1:unwW.lastD' z rows = none:=by unfold unwW.lastD'; rw [ev]
    rw [e1] at e0
    refine ⟨_,rfl,_,rfl,?_⟩
    refine dT rfl ?_
    refine ⟨_,rfl,f,dx,fs,rfl,s4 _ _ h1,nmG,f,rows,bars,rfl,hF.same s4,_,rfl,?_⟩
    cases eg:firstK 4 0 rows with
    | none=>
     have e2':unwW rows bars many z = some "strange":=by rw [e0,eg]; rfl
     refine dT rfl ?_
     rw [show unwW rows bars many z = some "strange" from e2'] at tk
     refine ⟨_,rfl,.inl ⟨rfl,_,SqL.of hl1⟩,_,rfl,(by show 2<=sizeLine; decide),fun t ht=>?_⟩
     have s6:=same_new ht (.tup [.str "strange",.int (n:Nat)])
     have hl6:=s6 _ _ hl1
     have hu2:MA1 (upd H4 t (.tup [.str "strange",.int (n:Nat)])) t ("strange",n):=by
      show upd H4 t _ t = _
      rw [upd_same]
     refine ⟨l,_,.ref t,rfl,rfl,hl6,small1000 (by rw [List.length_map]; omega),?_⟩
     refine ⟨us ++ [t],_,_,_,rfl,fun b u e=>?_,by rw [upd_same,List.map_append]; rfl,?_⟩
     ·rw [upd_ne (nl e)]
      exact s6 _ _ (sH1 b u e)
     ·rw [tk]
      exact ((hm1.same s6).snoc hu2).upd hl6
    | some j=>
     have e2':unwW rows bars many z = none:=by rw [e0,eg]; rfl
     refine dF (by intro z; cases z) ?_
     rw [show unwW rows bars many z = none from e2',List.append_nil] at tk
     exact ⟨us,_,_,_,rfl,sH1,hl1,by rw [tk]; exact hm1⟩
   | some v=>
    obtain ⟨j,rfl⟩:=dv_val rows 0 [] (.inr z) v (fun k v e=>by cases e) ev
    have e1:unwW.lastD' z rows = some j:=by unfold unwW.lastD'; rw [ev]; rfl
    rw [e1] at e0
    refine ⟨_,rfl,_,rfl,?_⟩
    refine dF (by intro z; cases z) ?_
    refine ⟨_,rfl,_,rfl,f,dx,fs,rfl,s4 _ _ h1,nmP,f,rows,bars,rfl,hF.same s4,_,_,rfl,rfl,_,rfl,?_⟩
    by_cases hj1:j < plN rows
    ·refine iteB (decide_eq_true (by show (j:Int) < (plN rows:Int); omega)) ?_
     refine ⟨_,rfl,_,rfl,_,_,rfl,rfl,_,rfl,?_⟩
     by_cases hj2:j < many
     ·have e2':unwW rows bars many z = some "again":=by rw [e0]; exact if_pos ⟨hj1,hj2⟩
      refine iteB (decide_eq_true (by show (j:Int) < (many:Int); omega)) ?_
      rw [show unwW rows bars many z = some "again" from e2'] at tk
      refine ⟨_,rfl,.inl ⟨rfl,_,SqL.of hl1⟩,_,rfl,(by show 2<=sizeLine; decide),fun t ht=>?_⟩
      have s6:=same_new ht (.tup [.str "again",.int (n:Nat)])
      have hl6:=s6 _ _ hl1
      have hu2:MA1 (upd H4 t (.tup [.str "again",.int (n:Nat)])) t ("again",n):=by
       show upd H4 t _ t = _
       rw [upd_same]
      refine ⟨l,_,.ref t,rfl,rfl,hl6,small1000 (by rw [List.length_map]; omega),?_⟩
      refine ⟨us ++ [t],_,_,_,rfl,fun b u e=>?_,by rw [upd_same,List.map_append]; rfl,?_⟩
      ·rw [upd_ne (nl e)]
       exact s6 _ _ (sH1 b u e)
      ·rw [tk]
       exact ((hm1.same s6).snoc hu2).upd hl6
     ·have e2':unwW rows bars many z = none:=by rw [e0]; exact if_neg fun h=>hj2 h.2
      refine iteC (decide_eq_false (by show ¬ (j:Int) < (many:Int); omega)) ?_
      rw [show unwW rows bars many z = none from e2',List.append_nil] at tk
      exact ⟨us,_,_,_,rfl,sH1,hl1,by rw [tk]; exact hm1⟩
    ·have e2':unwW rows bars many z = none:=by rw [e0]; exact if_neg fun h=>hj1 h.1
     refine iteC (decide_eq_false (by show ¬ (j:Int) < (plN rows:Int); omega)) ?_
     refine iteF ?_
     rw [show unwW rows bars many z = none from e2',List.append_nil] at tk
     exact ⟨us,_,_,_,rfl,sH1,hl1,by rw [tk]; exact hm1⟩
 ·rintro σ H' ⟨us,v5,v6,v7,rfl,sH,hl',hm⟩
  have lk:(kvP fp).length = fp.length:=by unfold kvP; rw [List.length_map]
  rw [lk,List.take_length] at hm
  exact ⟨_,rfl,q l H' (sHl sH) ⟨us,hlH,hl',hm⟩⟩
end
def missC (rows:List Rw) (bars:List Str) (c:List Item):List (Str × Nat):=missF rows bars (laidT c).length (namesOf c)
structure CallOk (K:PySem.W.Frag) (H:Hp) (a:Addr) (ct:List Item):Prop where
 at_:∃ xs,SqL K H a xs/\Paired (Says K T' H 3) xs (ct.map itemD)
 lt:(laidT ct).length<=900
 lp:(laidP ct).length<=900
structure FormOk (c:C5) (CF:Addr) (H:Hp) (f:Addr) (rows:List Rw) (bars:List Str):Prop where
 at_:FormAt c CF H f rows bars
 lr:rows.length<=500
 lb:bars.length<=500
 ok:∀ r ∈ rows,r.ok
theorem FormOk.same {c:C5} {CF:Addr} {H H':Hp} {f:Addr} {rows:List Rw} {bars:List Str} (h:FormOk c CF H f rows bars) (s:Same H H'):FormOk c CF H' f rows bars:=⟨h.at_.same s,h.lr,h.lb,h.ok⟩
def spMis (K:PySem.W.Frag) (c:C5) (CF:Addr):Sp:=fun vs H Q _=>∃ (f a:Addr) (rows:List Rw) (bars:List Str) (ct:List Item),vs = [.ref f,.ref a]/\FormOk c CF H f rows bars/\CallOk K H a ct/\∀ (l:Addr) (H':Hp),Same H H'->NewMs H H' l (missC rows bars ct)->Q (.ref l) H'
def spFits (K:PySem.W.Frag) (c:C5) (CF:Addr):Sp:=fun vs H Q _=>∃ (f a:Addr) (rows:List Rw) (bars:List Str) (ct:List Item),vs = [.ref f,.ref a]/\FormOk c CF H f rows bars/\CallOk K H a ct/\∀ (H':Hp),Same H H'->Q (.bl (missC rows bars ct).isEmpty) H'
section
variable {P:Program} {w:World} {K:PySem.W.Frag} {mg:Str->Option Value} {base:Heap} {f CF:Addr} {fd:FuncData} {c:C5} {m:MA}
theorem scMis:FnScope ["form","call","many","names"] ["form","call"] (defScope sMisfits):=⟨rfl,rfl,rfl,by decide +kernel,rfl,by decide +kernel,by decide +kernel⟩
theorem ok_mis {g1 g2:Addr} {d1 d2:FuncData} (F:Fun K "misfits" "misfits" sMisfits f fd) (c1:Callee P w K mg base 2 "shape" g1 d1 ["call"] (spShape K)) (c2:Callee P w K mg base 4 "misfits_of" g2 d2 ["form","many","names"] (spMOf c CF)):FnOk P w K mg base CX0 5 f fd ["form","call"] (spMis K c CF):=by
 refine F.ok scMis (fun vs H Q E h=>?_) (fun cdv A outer s H vs Q E hr h=>?_)
 ·obtain ⟨f,a,rows,bars,ct,rfl,_⟩:=h
  rfl
 obtain ⟨f,a,rows,bars,ct,rfl,hF,⟨⟨xs,hx,hc⟩,lt,lp⟩,q⟩:=h
 have hr2:Room 2 _:=hr.mono (by decide)
 refine ⟨_,pss_cons (ps_asg (cF c1 hr2 (ac (pv 1) pa_nil)) (pg_tup rfl (pgs_cons (pg_name (i:=2) scMis.nd rfl (Or.inl rfl)) (pgs_cons (pg_name (i:=3) scMis.nd rfl (Or.inl rfl)) pgs_nil))))
  (pss_one (ps_ret (cF c2 hr (ac (pv 0) (ac (pv 2) (ac (pv 3) pa_nil)))))),?_⟩
 refine ⟨_,rfl,a,ct,xs,rfl,hx,hc,lt,lp,fun p l H1 s1 nl ep el=>?_⟩
 refine ⟨p,_,rfl,SqT.of ep,rfl,_,_,rfl,_,_,rfl,rfl,?_⟩
 have hF1:=hF.same s1
 have ln:(namesOf ct).length<=900:=by unfold namesOf; rw [List.length_map]; exact lp
 exact ⟨_,rfl,_,rfl,_,rfl,f,l,(laidT ct).length,rows,bars,namesOf ct,rfl,hF.lr,hF.lb,lt,ln,hF.ok,hF1.at_,el,fun l2 H2 s2 ⟨us,n2,e2,m2⟩=>q l2 H2 (s1.trans s2) ⟨us,s1.free n2,e2,m2⟩⟩
theorem scFits:FnScope ["form","call"] ["form","call"] (defScope sFits):=⟨rfl,rfl,rfl,by decide +kernel,rfl,by decide +kernel,by decide +kernel⟩
theorem ok_fits {g1:Addr} {d1:FuncData} (F:Fun K "fits" "fits" sFits f fd) (c1:Callee P w K mg base 5 "misfits" g1 d1 ["form","call"] (spMis K c CF)):FnOk P w K mg base CX0 6 f fd ["form","call"] (spFits K c CF):=by
 refine F.ok scFits (fun vs H Q E h=>?_) (fun cdv A outer s H vs Q E hr h=>?_)
 ·obtain ⟨f,a,rows,bars,ct,rfl,_⟩:=h
  rfl
 obtain ⟨f,a,rows,bars,ct,rfl,hF,hC,q⟩:=h
 have hU:=hr.units
 have hU0:=hr.units0
 refine ⟨_,pss_one (ps_ret (pe_cmpR (OpR.or (op_eqS hU) (op_eqLen hU0)) (cF c1 hr (ac (pv 0) (ac (pv 1) pa_nil))) (pe_lst pa_nil) (nomark _))),?_⟩
 refine ⟨_,rfl,_,rfl,f,a,rows,bars,ct,rfl,hF,hC,fun l H1 s1 ⟨us,nl,el,ml⟩=>?_⟩
 refine ⟨(by show 0<=sizeLine; decide),fun l2 hl2=>?_⟩
 have s2:=same_new hl2 (.lst [])
 have lu:=ml.length
 cases e:missC rows bars ct with
 | nil=>
  rw [e] at ml
  cases ml
  refine .inl ⟨l,l2,0,.lst [],fun _=>True,fun _=>True,rfl,rfl,by decide,Says.lst True.intro (s2 _ _ el) .nil,Says.lst True.intro upd_same .nil,?_⟩
  have:=q _ (s1.trans s2)
  rw [e] at this
  exact this
 | cons x xs=>
  refine .inr ⟨l,l2,_,_,rfl,rfl,s2 _ _ el,upd_same,(by rw [List.length_map,lu,e]; exact Nat.succ_ne_zero _),?_⟩
  have:=q _ (s1.trans s2)
  rw [e] at this
  exact this
end
def spCell (K:PySem.W.Frag):Sp:=fun vs H Q _=>∃ (a:Addr) (ns:List Int) (k:Nat),vs = [.ref a,.int k]/\SqL K H a (ns.map V.int)/\ns.length<=63/\∀ (n:Int) (H':Hp),Same H H'->(n ∈ ns\/n = 0)->Q (.int n) H'
def mixF (c k:Int):Int:=(c % 2147483647 * 48271 + k * 104729 + 5) % 2147483629 * ((c % 2147483647 * 48271 + k * 104729 + 5) % 2147483629) % 2147483587
def spMix:Sp:=fun vs H Q _=>∃ c k:Int,vs = [.int c,.int k]/\Q (.int (mixF c k)) H
def thingF (c k:Int):Int:=if mixF c k % 2 = 0 then mixF c k / 2 % 13 - 6 else (c * 982451653 ^ (5:Int).toNat + k) % (2 * 10 ^ (60:Int).toNat - 1) - 10 ^ (60:Int).toNat + 1
def spThing:Sp:=fun vs H Q _=>∃ c k:Int,vs = [.int c,.int k]/\Builtin.Int.intBits c<=1048600/\Q (.int (thingF c k)) H
def poolN (c:Int) (k:Nat):Str:=Txt.slice "zyxwvut" none (some ((c / 26 + (k:Int)) % 8)) ++ (⟨#[97 + ((c + 3 * (k:Int)) % 26).toNat]⟩:Str)
def spPool (K:PySem.W.Frag):Sp:=fun vs H Q _=>∃ c:Int,vs = [.int c]/\∀ (r:Addr) (H':Hp),Same H H'->H r = none->H' r = some (.lst (((List.range 26).map (poolN c)).map V.str))->Q (.ref r) H'
theorem abc_at:∀ m,m < 26->(Str.ofString "abcdefghijklmnopqrstuvwxyz").cps.toList[m]? = some (97 + m):=by decide +kernel
theorem pool_cases:∀ a,a < 8->∀ m,m < 26->nameB (Txt.slice "zyxwvut" none (some ((a:Nat):Int)) ++ (⟨#[97 + m]⟩:Str)) = true:=by decide +kernel
theorem pool_name (c:Int) (k:Nat):nameB (poolN c k) = true:=by
 have h0 : 0<=(c / 26 + (k:Int)) % 8:=Int.emod_nonneg _ (by decide)
 have h1:(c / 26 + (k:Int)) % 8 < 8:=Int.emod_lt_of_pos _ (by decide)
 have h2 : 0<=(c + 3 * (k:Int)) % 26:=Int.emod_nonneg _ (by decide)
 have h3:(c + 3 * (k:Int)) % 26 < 26:=Int.emod_lt_of_pos _ (by decide)
 obtain ⟨a,ha⟩:=Int.eq_ofNat_of_zero_le h0
 unfold poolN
 rw [ha]
 exact pool_cases a (by omega) _ (by omega)
theorem pool_last (c:Int) (k:Nat):(poolN c k).cps.toList.getLast? = some (97 + ((c + 3 * (k:Int)) % 26).toNat):=by
 show ((Txt.slice "zyxwvut" none (some ((c / 26 + (k:Int)) % 8))).cps ++ #[97 + ((c + 3 * (k:Int)) % 26).toNat]).toList.getLast? = _
 rw [Array.toList_append]
 simp
theorem pool_inj {c:Int} {j k:Nat} (hj:j < 26) (hk:k < 26) (e:poolN c j = poolN c k):j = k:=by
 have h1:=pool_last c j
 rw [e,pool_last c k] at h1
 have h2:=Option.some.inj h1
 have a0 : 0<=(c + 3 * (j:Int)) % 26:=Int.emod_nonneg _ (by decide)
 have a1 : 0<=(c + 3 * (k:Int)) % 26:=Int.emod_nonneg _ (by decide)
 omega
theorem mulOk_thing {c:Int} (h:Builtin.Int.intBits c<=1048600):IntMulOk c ((982451653:Int) ^ (5:Int).toNat):=by
 have hb:Builtin.Int.intBits ((982451653:Int) ^ (5:Int).toNat)<=200:=by decide +kernel
 have h2:Builtin.Int.intTooBig (Builtin.Int.intBits c + Builtin.Int.intBits ((982451653:Int) ^ (5:Int).toNat)) = false:=by
  unfold Builtin.Int.intTooBig bitsLine
  exact decide_eq_false (by omega)
 unfold IntMulOk
 rw [h2]
 simp
structure Txt2 (K:PySem.W.Frag) (mg:Str->Option Value):Prop where
 isi:mg "isinstance" = none
 str:mg "str" = none
 bool:mg "bool" = none
 int:mg "int" = none
 tuple:mg "tuple" = none
 list:mg "list" = none
 len:mg "len" = none
 range:mg "range" = none
 enumerate:mg "enumerate" = none
section
variable {P:Program} {w:World} {K:PySem.W.Frag} {mg:Str->Option Value} {base:Heap} {f:Addr} {fd:FuncData}
theorem scCell:FnScope ["_law_script","_law_at"] ["_law_script","_law_at"] (defScope sCell):=⟨rfl,rfl,rfl,by decide +kernel,rfl,by decide +kernel,by decide +kernel⟩
theorem ok_cell (F:Fun K "_law_cell" "_law_cell" sCell f fd):FnOk P w K mg base CX0 1 f fd ["_law_script","_law_at"] (spCell K):=by
 refine F.ok scCell (fun vs H Q E h=>?_) (fun cdv A outer s H vs Q E hr h=>?_)
 ·obtain ⟨a,ns,k,rfl,_⟩:=h
  rfl
 obtain ⟨a,ns,k,rfl,hS,h63,q⟩:=h
 refine ⟨_,pss_one (ps_ret (pe_ix ix_list (pe_op op_cat (pe_slice sl_list (pv 0) (po_some (pv 1)) (po_some (pe_op op_add (pv 1) pe_int))) (pe_lst (ac pe_int pa_nil))) pe_int (fun _ _=>rfl))),?_⟩
 obtain ⟨ms,e1,e2,e3⟩:=cut_ints ns (some (k:Int)) (some ((k:Int) + 1))
 refine ⟨_,rfl,_,rfl,_,rfl,_,rfl,_,_,rfl,rfl,_,rfl,a,_,rfl,hS,fun p hp=>?_⟩
 rw [e1]
 refine ⟨(by show 1<=sizeLine; decide),fun l hl=>?_⟩
 have npl:p ≠ l:=ne_of_none upd_same hl
 refine ⟨p,l,_,_,rfl,rfl,(by rw [upd_ne npl,upd_same]),upd_same,?_,fun c hc=>?_⟩
 ·rw [List.length_map]
  show ms.length + 1<=sizeLine
  exact le1000 (by omega)
 have s3:=(same_new hp (.lst (ms.map V.int))).trans ((same_new hl (.lst [.int 0])).trans (same_new hc (.lst (ms.map V.int ++ [.int 0]))))
 cases ms with
 | nil=>exact ⟨c,_,0,.int 0,rfl,rfl,SqL.of upd_same,rfl,q 0 _ s3 (.inr rfl)⟩
 | cons m r=>exact ⟨c,_,0,.int m,rfl,rfl,SqL.of upd_same,atI_nat (j:=0) rfl,q m _ s3 (.inl (e3 m (by simp)))⟩
theorem scIsInt:FnScope ["_law_found"] ["_law_found"] (defScope sIsInt):=⟨rfl,rfl,rfl,by decide +kernel,rfl,by decide +kernel,by decide +kernel⟩
theorem scMix:FnScope ["_law_cell_here","_law_k","_law_number"] ["_law_cell_here","_law_k"] (defScope sMix):=⟨rfl,rfl,rfl,by decide +kernel,rfl,by decide +kernel,by decide +kernel⟩
theorem ok_mix (F:Fun K "_law_mix" "_law_mix" sMix f fd):FnOk P w K mg base CX0 1 f fd ["_law_cell_here","_law_k"] spMix:=by
 refine F.ok scMix (fun vs H Q E h=>?_) (fun cdv A outer s H vs Q E hr h=>?_)
 ·obtain ⟨c,k,rfl,_⟩:=h
  rfl
 obtain ⟨c,k,rfl,q⟩:=h
 refine ⟨_,pss_cons (ps_set (i:=2) scMix.nd rfl (Or.inl rfl) (pe_op op_mod (pe_op op_add (pe_op op_add (pe_op op_mul (pe_op op_mod (pv 0) pe_int) pe_int) (pe_op op_mul (pv 1) pe_int)) pe_int) pe_int))
  (pss_one (ps_ret (pe_op op_mod (pe_op op_mul (pv 2) (pv 2)) pe_int))),?_⟩
 refine ⟨_,rfl,_,_,rfl,rfl,(by show (0:Int) < 2147483647; decide),_,_,rfl,rfl,.inr ⟨by decide,by decide⟩,_,rfl,_,_,rfl,rfl,.inr ⟨by decide,by decide⟩,_,_,rfl,rfl,_,_,rfl,rfl,_,_,rfl,rfl,(by show (0:Int) < 2147483629; decide),?_⟩
 have h1 : 0<=(c % 2147483647 * 48271 + k * 104729 + 5) % 2147483629:=Int.emod_nonneg _ (by decide)
 have h2:(c % 2147483647 * 48271 + k * 104729 + 5) % 2147483629 < 2147483629:=Int.emod_lt_of_pos _ (by decide)
 exact ⟨_,rfl,_,rfl,_,_,rfl,rfl,.inl ⟨by omega,by omega⟩,_,_,rfl,rfl,(by show (0:Int) < 2147483587; decide),q⟩
theorem scThing:FnScope ["_law_cell_here","_law_k","_law_number"] ["_law_cell_here","_law_k"] (defScope sThing):=⟨rfl,rfl,rfl,by decide +kernel,rfl,by decide +kernel,by decide +kernel⟩
theorem ok_thing {g:Addr} {gd:FuncData} (F:Fun K "_law_thing" "_law_thing" sThing f fd) (cM:Callee P w K mg base 1 "_law_mix" g gd ["_law_cell_here","_law_k"] spMix):FnOk P w K mg base CX0 2 f fd ["_law_cell_here","_law_k"] spThing:=by
 refine F.ok scThing (fun vs H Q E h=>?_) (fun cdv A outer s H vs Q E hr h=>?_)
 ·obtain ⟨c,k,rfl,_⟩:=h
  rfl
 obtain ⟨c,k,rfl,hb,q⟩:=h
 refine ⟨_,pss_cons (ps_set (i:=2) scThing.nd rfl (Or.inl rfl) (cF cM hr (ac (pv 0) (ac (pv 1) pa_nil))))
  (pss_cons (ps_if (pt_cmpR op_eq (pe_op op_mod (pv 2) pe_int) pe_int (nomark _)) (pss_one (ps_ret (pe_op op_sub (pe_op op_mod (pe_op op_fdiv (pv 2) pe_int) pe_int) pe_int))) pss_nil)
  (pss_one (ps_ret (pe_op op_add (pe_op op_sub (pe_op op_mod (pe_op op_add (pe_op op_mulB (pv 0) (pe_op op_pow pe_int pe_int)) (pv 1)) (pe_op op_sub (pe_op op_mul pe_int (pe_op op_pow pe_int pe_int)) pe_int)) (pe_op op_pow pe_int pe_int)) pe_int)))),?_⟩
 refine ⟨_,rfl,_,rfl,c,k,rfl,?_⟩
 refine ⟨_,rfl,_,_,rfl,rfl,(by show (0:Int) < 2; decide),rfl,_,rfl,?_⟩
 by_cases hm2:mixF c k % 2 = 0
 ·refine dT (congrArg V.int hm2) ?_
  unfold thingF at q
  rw [if_pos hm2] at q
  exact ⟨_,rfl,_,_,rfl,rfl,⟨by decide,by decide⟩,_,_,rfl,rfl,(by show (0:Int) < 13; decide),_,_,rfl,rfl,q⟩
 ·refine dF (fun e=>hm2 (V.int.inj e)) ?_
  unfold thingF at q
  rw [if_neg hm2] at q
  have hm:IntMulOk c ((982451653:Int) ^ (5:Int).toNat):=mulOk_thing hb
  exact ⟨_,rfl,_,_,rfl,rfl,⟨by decide,by decide,by decide⟩,_,_,rfl,rfl,hm,_,rfl,_,_,rfl,rfl,_,_,rfl,rfl,⟨by decide,by decide,by decide⟩,_,_,rfl,rfl,.inl ⟨by decide,by decide⟩,_,_,rfl,rfl,_,_,rfl,rfl,(by show (0:Int) < 2 * 10 ^ Int.toNat 60 - 1; decide +kernel),_,_,rfl,rfl,⟨by decide,by decide,by decide⟩,_,_,rfl,rfl,_,_,rfl,rfl,q⟩
theorem scPool:FnScope ["_law_cell_here","_law_names_here","_law_k","_law_stem"] ["_law_cell_here"] (defScope sPool):=⟨rfl,rfl,rfl,by decide +kernel,rfl,by decide +kernel,by decide +kernel⟩
theorem ok_pool (F:Fun K "_law_pool" "_law_pool" sPool f fd) (T:Txt2 K mg):FnOk P w K mg base CX0 1 f fd ["_law_cell_here"] (spPool K):=by
 refine F.ok scPool (fun vs H Q E h=>?_) (fun cdv A outer s H vs Q E hr h=>?_)
 ·obtain ⟨c,rfl,_⟩:=h
  rfl
 obtain ⟨c,rfl,q⟩:=h
 refine ⟨_,pss_cons (ps_set (i:=1) scPool.nd rfl (Or.inl rfl) (pe_lst pa_nil))
  (pss_cons (ps_for PassesOwn.never rfl (pi_range1 rfl T.range (ac pe_int pa_nil)) (pg_name (i:=2) scPool.nd rfl (Or.inl rfl))
   (pss_cons (ps_set (i:=3) scPool.nd rfl (Or.inl rfl) (pe_slice sl_str pe_str po_none (po_some (pe_op op_mod (pe_op op_add (pe_op op_fdiv (pv 0) pe_int) (pv 2)) pe_int))))
   (pss_one (ps_expr (pe_bm PySem.F.plainAttrs_list PySem.F.slot_list_append PySem.F.type_list_append mt_append (pv 1) (ac (pe_op op_add_str (pv 3) (pe_ix ix_str pe_str (pe_op op_mod (pe_op op_add (pv 0) (pe_op op_mul pe_int (pv 2))) pe_int) (fun _ _=>rfl))) pa_nil))))))
  (pss_one (ps_ret (pv 1)))),?_⟩
 refine ⟨(by show 0<=sizeLine; decide),fun r hr0=>?_⟩
 refine ⟨26,rfl,by decide,by decide,for_range (n:=26) (fun i σ H2=>∃ v2 v3,σ = [some (.int c),some (.ref r),v2,v3]/\H2 r = some (.lst (((List.range i).map (poolN c)).map V.str))/\Same H H2)
  ⟨_,_,rfl,upd_same,same_new hr0 _⟩ ?_ ?_⟩
 ·rintro i σ H2 hi ⟨v2,v3,rfl,g,sH⟩
  refine ⟨_,rfl,_,_,rfl,rfl,⟨by decide,by decide⟩,_,rfl,_,_,rfl,rfl,_,_,rfl,rfl,(by show (0:Int) < 8; decide),_,rfl,_,rfl,(by decide +kernel),?_⟩
  have h0 : 0<=(c + 3 * ((0:Int) + (i:Int))) % 26:=Int.emod_nonneg _ (by decide)
  have h1:(c + 3 * ((0:Int) + (i:Int))) % 26 < 26:=Int.emod_lt_of_pos _ (by decide)
  have hch:atI (Str.ofString "abcdefghijklmnopqrstuvwxyz").cps.toList ((c + 3 * ((0:Int) + (i:Int))) % 26) = some (97 + ((c + 3 * ((0:Int) + (i:Int))) % 26).toNat):=by
   obtain ⟨m,hm⟩:=Int.eq_ofNat_of_zero_le h0
   rw [hm]
   have hm2:m < 26:=by omega
   exact atI_nat (abc_at m hm2)
  refine ⟨_,rfl,.inl ⟨rfl,_,SqL.of g⟩,_,rfl,_,rfl,_,rfl,_,_,rfl,rfl,.inl ⟨by decide,by decide⟩,_,_,rfl,rfl,_,_,rfl,rfl,(by show (0:Int) < 26; decide),_,_,_,rfl,rfl,(by decide +kernel),hch,?_⟩
  have hsl:=Txt.slice_le (Str.ofString "zyxwvut") none (some ((c / 26 + (0 + (i:Int))) % 8))
  have hs7:(Str.ofString "zyxwvut").length = 7:=by decide +kernel
  refine ⟨_,_,rfl,rfl,le1000 (by rw [hs7] at hsl; show _ + 1<=1000; omega),r,_,_,rfl,rfl,g,(by rw [List.length_map,List.length_map,List.length_range]; exact small1000 (by omega)),?_⟩
  refine ⟨_,_,rfl,?_,same_upd sH hr0 _⟩
  rw [upd_same,List.range_succ,List.map_append,List.map_append]
  show _ = some (HO.lst (_ ++ [V.str (poolN c i)]))
  unfold poolN
  rw [Int.zero_add]
 ·rintro σ H2 ⟨v2,v3,rfl,g,sH⟩
  exact ⟨_,rfl,q r H2 sH hr0 g⟩
end
theorem ord_cons {l g:Nat} {r:Rw} {rs:List Rw} (hg:grp r.k = g) (hb:badAt l g = false) (h:ordOk g rs = true):ordOk l (r :: rs) = true:=by
 show (!badAt l (grp r.k) && ordOk (grp r.k) rs) = true
 rw [hg,hb,h]
 rfl
theorem ord_even {g:Nat} (he:badAt g g = false):∀ (xs ys:List Rw) (l:Nat),badAt l g = false->(∀ r ∈ xs,grp r.k = g)->ordOk l ys = true->ordOk g ys = true->ordOk l (xs ++ ys) = true
 | [],_,_,_,_,h1,_=>h1
 | r :: rs,ys,l,hb,hg,_,h2=>ord_cons (hg r List.mem_cons_self) hb (ord_even he rs ys g he (fun x hx=>hg x (List.mem_cons_of_mem _ hx)) h2 h2)
theorem ord_odd {g l:Nat} {xs ys:List Rw} (hl:xs.length<=1) (hb:badAt l g = false) (hg:∀ r ∈ xs,grp r.k = g) (h1:ordOk l ys = true) (h2:ordOk g ys = true):ordOk l (xs ++ ys) = true:=by
 match xs,hl with
 | [],_=>exact h1
 | [r],_=>exact ord_cons (hg r List.mem_cons_self) hb h2
theorem ord_all {xs0 xs1 xs2 xs3:List Rw} (g0:∀ r ∈ xs0,grp r.k = 0) (g1:∀ r ∈ xs1,grp r.k = 1) (l1:xs1.length<=1) (g2:∀ r ∈ xs2,grp r.k = 2) (g3:∀ r ∈ xs3,grp r.k = 3) (l3:xs3.length<=1):ordOk 0 (xs0 ++ (xs1 ++ (xs2 ++ xs3))) = true:=by
 have h3:∀ l,l<=2->ordOk l xs3 = true:=fun l hl=>by
  have:=ord_odd (g:=3) (l:=l) (ys:=[]) l3 (by match l,hl with | 0,_=>rfl | 1,_=>rfl | 2,_=>rfl) g3 rfl rfl
  rwa [List.append_nil] at this
 have h2:∀ l,l<=1->ordOk l (xs2 ++ xs3) = true:=fun l hl=>ord_even (g:=2) rfl xs2 xs3 l (by match l,hl with | 0,_=>rfl | 1,_=>rfl) g2 (h3 l (by omega)) (h3 2 (by omega))
 have h1:ordOk 0 (xs1 ++ (xs2 ++ xs3)) = true:=ord_odd (g:=1) l1 rfl g1 (h2 0 (by omega)) (h2 1 (by omega))
 exact ord_even (g:=0) rfl xs0 _ 0 rfl g0 h1 h1
theorem nms_app (a b:List Rw):nms (a ++ b) = nms a ++ nms b:=by unfold nms; rw [List.filter_append,List.map_append]
theorem nms_one (r:Rw):nms [r] = if byNm r.k = true then [r.z] else []:=by
 unfold nms
 cases h:byNm r.k <;> simp [h]
theorem grp_nm {k:Nat} (hk:k < 5) (h:byNm k = true):grp k = 0\/grp k = 2:=by
 rcases lt5 hk with rfl | rfl | rfl | rfl | rfl <;> first | (exact .inl rfl) | (exact .inr rfl) | (cases h)
theorem nms_nil {xs:List Rw} {g:Nat} (hg:∀ r ∈ xs,r.ok/\grp r.k = g) (h:g % 2 = 1):nms xs = []:=by
 unfold nms
 rw [List.filter_eq_nil_iff.mpr (fun r hr e=>?_)]
 ·rfl
 ·obtain ⟨ho,q⟩:=hg r hr
  rcases grp_nm ho.1 e with z | z <;> rw [z] at q <;> rw [<- q] at h <;> cases h
structure FS where
 (P T G B:List Rw) (L:List Str)
def FS.add (S:FS) (k:Nat) (z:Str) (b:Bool):FS:=match k with
 | 0=>{ S with P:=S.P ++ [⟨0,z,b⟩] }
 | 1=>{ S with P:=S.P ++ [⟨1,z,b⟩],L:=S.L ++ [z] }
 | 2=>{ S with T:=[⟨2,z,b⟩] }
 | 3=>{ S with G:=S.G ++ [⟨3,z,b⟩],L:=S.L ++ [z] }
 | _=>{ S with B:=[⟨4,z,b⟩] }
structure FM (i:Nat) (S:FS):Prop where
 okP:∀ r ∈ S.P,r.ok/\grp r.k = 0
 okT:∀ r ∈ S.T,r.ok/\grp r.k = 1
 okG:∀ r ∈ S.G,r.ok/\grp r.k = 2
 okB:∀ r ∈ S.B,r.ok/\grp r.k = 3
 lT:S.T.length<=1
 lB:S.B.length<=1
 nd:(nms S.P ++ nms S.G).Nodup
 sn:∀ z ∈ nms S.P ++ nms S.G,z ∈ S.L
 ln:S.P.length + S.T.length + S.G.length + S.B.length<=i
 lL:S.L.length<=i
theorem mem_snoc {α : Type} {xs:List α} {y : α} {p : α->Prop} (h:∀ x ∈ xs,p x) (hy:p y):∀ x ∈ xs ++ [y],p x:=fun x hx=>by
 rcases List.mem_append.mp hx with hx | hx
 ·exact h x hx
 ·rw [List.mem_singleton.mp hx]; exact hy
theorem FM.zero:FM 0 ⟨[],[],[],[],[]⟩:=by
 refine ⟨?_,?_,?_,?_,?_,?_,?_,?_,?_,?_⟩ <;> first | exact (fun _ h=>nomatch h) | exact Nat.zero_le _ | exact List.nodup_nil | exact Nat.le_refl _
theorem nd_mid {a b:List Str} {z:Str} (h:(a ++ b).Nodup) (hz:z ∉ a ++ b):(a ++ [z] ++ b).Nodup:=by
 have p:(a ++ [z] ++ b).Perm (z :: (a ++ b)):=by
  rw [List.append_assoc]
  exact List.perm_middle
 exact p.nodup_iff.mpr (List.nodup_cons.mpr ⟨hz,h⟩)
theorem FM.add {i:Nat} {S:FS} {k:Nat} {z:Str} {b:Bool} (h:FM i S) (hk:k < 5) (hz:nameB z = true) (hn:byNm k = true->z ∉ S.L):FM (i + 1) (S.add k z b):=by
 have ln:=h.ln
 have lL:=h.lL
 have lT:=h.lT
 have lB:=h.lB
 match k,hk with
 | 0,_=>
  have e:nms (S.P ++ [⟨0,z,b⟩]) = nms S.P:=by rw [nms_app,nms_one]; simp [byNm]
  exact ⟨mem_snoc h.okP ⟨⟨Nat.lt_of_sub_eq_succ rfl,hz⟩,rfl⟩,h.okT,h.okG,h.okB,h.lT,h.lB,by show (nms (S.P ++ _) ++ nms S.G).Nodup; rw [e]; exact h.nd,by show ∀ y ∈ nms (S.P ++ _) ++ nms S.G,y ∈ S.L; rw [e]; exact h.sn,
   by show (S.P ++ [_]).length + S.T.length + S.G.length + S.B.length<=i + 1; rw [List.length_append,List.length_singleton]; omega,Nat.le_succ_of_le h.lL⟩
 | 1,_=>
  have e:nms (S.P ++ [⟨1,z,b⟩]) = nms S.P ++ [z]:=by rw [nms_app,nms_one]; simp [byNm]
  have nz:z ∉ nms S.P ++ nms S.G:=fun m=>hn rfl (h.sn z m)
  refine ⟨mem_snoc h.okP ⟨⟨Nat.lt_of_sub_eq_succ rfl,hz⟩,rfl⟩,h.okT,h.okG,h.okB,h.lT,h.lB,by show (nms (S.P ++ _) ++ nms S.G).Nodup; rw [e]; exact nd_mid h.nd nz,?_,
   by show (S.P ++ [_]).length + S.T.length + S.G.length + S.B.length<=i + 1; rw [List.length_append,List.length_singleton]; omega,by show (S.L ++ [_]).length<=i + 1; rw [List.length_append,List.length_singleton]; omega⟩
  show ∀ y ∈ nms (S.P ++ _) ++ nms S.G,y ∈ S.L ++ [z]
  rw [e]
  intro y hy
  rw [List.mem_append,List.mem_append] at hy
  rcases hy with (hy | hy) | hy
  ·exact List.mem_append_left _ (h.sn y (List.mem_append_left _ hy))
  ·exact List.mem_append_right _ hy
  ·exact List.mem_append_left _ (h.sn y (List.mem_append_right _ hy))
 | 2,_=>
  refine ⟨h.okP,fun r hr=>?_,h.okG,h.okB,Nat.le_refl _,h.lB,h.nd,h.sn,?_,Nat.le_succ_of_le h.lL⟩
  ·rw [List.mem_singleton.mp hr]; exact ⟨⟨Nat.lt_of_sub_eq_succ rfl,hz⟩,rfl⟩
  ·show S.P.length + 1 + S.G.length + S.B.length<=i + 1
   omega
 | 3,_=>
  have e:nms (S.G ++ [⟨3,z,b⟩]) = nms S.G ++ [z]:=by rw [nms_app,nms_one]; simp [byNm]
  have nz:z ∉ nms S.P ++ nms S.G:=fun m=>hn rfl (h.sn z m)
  refine ⟨h.okP,h.okT,mem_snoc h.okG ⟨⟨Nat.lt_of_sub_eq_succ rfl,hz⟩,rfl⟩,h.okB,h.lT,h.lB,?_,?_,
   by show S.P.length + S.T.length + (S.G ++ [_]).length + S.B.length<=i + 1; rw [List.length_append,List.length_singleton]; omega,by show (S.L ++ [_]).length<=i + 1; rw [List.length_append,List.length_singleton]; omega⟩
  ·show (nms S.P ++ nms (S.G ++ _)).Nodup
   rw [e,<- List.append_assoc]
   have:=nd_mid (a:=nms S.P ++ nms S.G) (b:=[]) (z:=z) (by rw [List.append_nil]; exact h.nd) (by rw [List.append_nil]; exact nz)
   rwa [List.append_nil] at this
  ·show ∀ y ∈ nms S.P ++ nms (S.G ++ _),y ∈ S.L ++ [z]
   rw [e]
   intro y hy
   rw [List.mem_append,List.mem_append] at hy
   rcases hy with hy | hy | hy
   ·exact List.mem_append_left _ (h.sn y (List.mem_append_left _ hy))
   ·exact List.mem_append_left _ (h.sn y (List.mem_append_right _ hy))
   ·exact List.mem_append_right _ hy
 | 4,_=>
  refine ⟨h.okP,h.okT,h.okG,fun r hr=>?_,h.lT,Nat.le_refl _,h.nd,h.sn,?_,Nat.le_succ_of_le h.lL⟩
  ·rw [List.mem_singleton.mp hr]; exact ⟨⟨Nat.lt_of_sub_eq_succ rfl,hz⟩,rfl⟩
  ·show S.P.length + S.T.length + S.G.length + 1<=i + 1
   omega
def FS.rows (S:FS):List Rw:=S.P ++ S.T ++ S.G ++ S.B
theorem FM.valid {i:Nat} {S:FS} {bars:List Str} (h:FM i S) (hi:i<=24) (lb:bars.length<=60) (bn:∀ z ∈ bars,nameB z = true) (bd:bars.Nodup) (bl:∀ z ∈ bars,z ∉ S.L):Valid S.rows bars:=by
 have en:nms S.rows = nms S.P ++ nms S.G:=by
  unfold FS.rows
  rw [nms_app,nms_app,nms_app,nms_nil h.okT rfl,nms_nil h.okB rfl,List.append_nil,List.append_nil]
 refine ⟨fun r hr=>?_,?_,lb,?_,bn,?_⟩
 ·unfold FS.rows at hr
  rw [List.mem_append,List.mem_append,List.mem_append] at hr
  rcases hr with ((hr | hr) | hr) | hr
  ·exact (h.okP r hr).1
  ·exact (h.okT r hr).1
  ·exact (h.okG r hr).1
  ·exact (h.okB r hr).1
 ·unfold FS.rows
  have:=h.ln
  simp only [List.length_append]
  omega
 ·unfold FS.rows
  rw [List.append_assoc,List.append_assoc]
  exact ord_all (fun r hr=>(h.okP r hr).2) (fun r hr=>(h.okT r hr).2) h.lT (fun r hr=>(h.okG r hr).2) (fun r hr=>(h.okB r hr).2) h.lB
 ·rw [en]
  exact List.nodup_append.mpr ⟨h.nd,bd,fun x hx y hy e=>bl y hy (e ▸ h.sn x hx)⟩
theorem TAt.keep {H:Hp} {v D:Addr} {r:Rw} {o:HO} (h:TAt H v r) (hD:∀ vs,H D ≠ some (.tup vs)):TAt (upd H D o) v r:=by
 show upd H D o v = _
 rw [upd_ne (fun e=>by subst e; exact hD _ h)]
 exact h
def LsAt (H:Hp) (l:Addr) (rows:List Rw):Prop:=∃ us:List Addr,H l = some (.lst (us.map V.ref))/\Paired (TAt H) us rows
theorem LsAt.same {H H':Hp} {l:Addr} {rows:List Rw} (h:LsAt H l rows) (s:Same H H'):LsAt H' l rows:=let ⟨us,h1,h2⟩:=h; ⟨us,s _ _ h1,tats_same s h2⟩
theorem LsAt.keep {H:Hp} {l D:Addr} {rows:List Rw} {o:HO} (h:LsAt H l rows) (ne:l ≠ D) (hD:∀ vs,H D ≠ some (.tup vs)):LsAt (upd H D o) l rows:=
 let ⟨us,h1,h2⟩:=h
 ⟨us,by rw [upd_ne ne]; exact h1,Paired.imp' (fun _ _ z=>z.keep hD) h2⟩
theorem LsAt.snoc {H:Hp} {l u:Addr} {rows:List Rw} {r:Rw} {us:List Addr} (h1:H l = some (.lst (us.map V.ref))) (h2:Paired (TAt H) us rows) (hu:TAt H u r):LsAt (upd H l (.lst (us.map V.ref ++ [.ref u]))) l (rows ++ [r]):=by
 have hD:∀ vs,H l ≠ some (.tup vs):=fun vs e=>by rw [h1] at e; cases e
 refine ⟨us ++ [u],by rw [upd_same,List.map_append]; rfl,Paired.snoc (Paired.imp' (fun _ _ z=>z.keep hD) h2) (hu.keep hD)⟩
def endsK (ta ba:Addr):List (Key × V):=[(.inr "tail",.ref ta),(.inr "bag",.ref ba)]
theorem ends_T (ta ba x:Addr):putK (endsK ta ba) (.inr "tail") (.ref x) = endsK x ba:=by
 have e:¬ ((Sum.inr (Str.ofString "bag"):Key) = Sum.inr (Str.ofString "tail")):=by decide +kernel
 unfold putK endsK
 simp [e]
theorem ends_B (ta ba x:Addr):putK (endsK ta ba) (.inr "bag") (.ref x) = endsK ta x:=by
 have e:¬ ((Sum.inr (Str.ofString "tail"):Key) = Sum.inr (Str.ofString "bag")):=by decide +kernel
 unfold putK endsK
 simp [e]
theorem ends_vT (ta ba:Addr):valV (endsK ta ba) (.inr "tail") = some (.ref ta):=by
 unfold valV endsK
 simp
theorem ends_vB (ta ba:Addr):valV (endsK ta ba) (.inr "bag") = some (.ref ba):=by
 have e:¬ ((Sum.inr (Str.ofString "tail"):Key) = Sum.inr (Str.ofString "bag")):=by decide +kernel
 unfold valV endsK
 simp [e]
structure FI (H H':Hp) (lp lt ll de:Addr) (S:FS):Prop where
 sm:Same H H'
 hp:LsAt H' lp S.P
 ht:LsAt H' lt S.G
 hl:H' ll = some (.lst (S.L.map V.str))
 he:∃ ta ba,H' de = some (.dK (endsK ta ba))/\ta ≠ lp/\ta ≠ lt/\ta ≠ ll/\ba ≠ lp/\ba ≠ lt/\ba ≠ ll/\LsAt H' ta S.T/\LsAt H' ba S.B
 n1:lp ≠ lt
 n2:lp ≠ ll
 n3:lt ≠ ll
 m1:H lp = none
 m2:H lt = none
 m3:H ll = none
 m4:H de = none
section
variable {H H' H'':Hp} {lp lt ll de u:Addr} {S:FS} {r:Rw} {z:Str} {b:Bool}
theorem FI.same (h:FI H H' lp lt ll de S) (s:Same H' H''):FI H H'' lp lt ll de S:=by
 obtain ⟨ta,ba,e1,e2,e3,e4,e5,e6,e7,e8,e9⟩:=h.he
 exact ⟨h.sm.trans s,h.hp.same s,h.ht.same s,s _ _ h.hl,⟨ta,ba,s _ _ e1,e2,e3,e4,e5,e6,e7,e8.same s,e9.same s⟩,h.n1,h.n2,h.n3,h.m1,h.m2,h.m3,h.m4⟩
theorem FI.smU (h:FI H H' lp lt ll de S) {l:Addr} (hl:H l = none) {o:HO}:Same H (upd H' l o):=fun b u e=>by rw [upd_ne (ne_of_none e hl)]; exact h.sm _ _ e
theorem FI.addL (h:FI H H' lp lt ll de S):FI H (upd H' ll (.lst (S.L.map V.str ++ [.str z]))) lp lt ll de { S with L:=S.L ++ [z] }:=by
 have hD:∀ vs,H' ll ≠ some (.tup vs):=fun vs e=>by rw [h.hl] at e; cases e
 obtain ⟨ta,ba,e1,e2,e3,e4,e5,e6,e7,e8,e9⟩:=h.he
 have nd:de ≠ ll:=fun e=>by rw [e,h.hl] at e1; cases e1
 exact ⟨h.smU h.m3,h.hp.keep h.n2 hD,h.ht.keep h.n3 hD,by rw [upd_same,List.map_append]; rfl,⟨ta,ba,by rw [upd_ne nd]; exact e1,e2,e3,e4,e5,e6,e7,e8.keep e4 hD,e9.keep e7 hD⟩,h.n1,h.n2,h.n3,h.m1,h.m2,h.m3,h.m4⟩
theorem FI.addP {us:List Addr} (h:FI H H' lp lt ll de S) (h1:H' lp = some (.lst (us.map V.ref))) (h2:Paired (TAt H') us S.P) (hu:TAt H' u r):FI H (upd H' lp (.lst (us.map V.ref ++ [.ref u]))) lp lt ll de { S with P:=S.P ++ [r] }:=by
 have hD:∀ vs,H' lp ≠ some (.tup vs):=fun vs e=>by rw [h1] at e; cases e
 obtain ⟨ta,ba,e1,e2,e3,e4,e5,e6,e7,e8,e9⟩:=h.he
 have nd:de ≠ lp:=fun e=>by rw [e,h1] at e1; cases e1
 exact ⟨h.smU h.m1,.snoc h1 h2 hu,h.ht.keep h.n1.symm hD,by rw [upd_ne h.n2.symm]; exact h.hl,⟨ta,ba,by rw [upd_ne nd]; exact e1,e2,e3,e4,e5,e6,e7,e8.keep e2 hD,e9.keep e5 hD⟩,h.n1,h.n2,h.n3,h.m1,h.m2,h.m3,h.m4⟩
theorem FI.addG {us:List Addr} (h:FI H H' lp lt ll de S) (h1:H' lt = some (.lst (us.map V.ref))) (h2:Paired (TAt H') us S.G) (hu:TAt H' u r):FI H (upd H' lt (.lst (us.map V.ref ++ [.ref u]))) lp lt ll de { S with G:=S.G ++ [r] }:=by
 have hD:∀ vs,H' lt ≠ some (.tup vs):=fun vs e=>by rw [h1] at e; cases e
 obtain ⟨ta,ba,e1,e2,e3,e4,e5,e6,e7,e8,e9⟩:=h.he
 have nd:de ≠ lt:=fun e=>by rw [e,h1] at e1; cases e1
 exact ⟨h.smU h.m2,h.hp.keep h.n1 hD,.snoc h1 h2 hu,by rw [upd_ne h.n3.symm]; exact h.hl,⟨ta,ba,by rw [upd_ne nd]; exact e1,e2,e3,e4,e5,e6,e7,e8.keep e3 hD,e9.keep e6 hD⟩,h.n1,h.n2,h.n3,h.m1,h.m2,h.m3,h.m4⟩
theorem FI.set {S':FS} {ta' ba':Addr} (h:FI H H' lp lt ll de S) (eP:S'.P = S.P) (eG:S'.G = S.G) (eL:S'.L = S.L) (n:ta' ≠ lp/\ta' ≠ lt/\ta' ≠ ll/\ba' ≠ lp/\ba' ≠ lt/\ba' ≠ ll) (hT:LsAt H' ta' S'.T) (hB:LsAt H' ba' S'.B):FI H (upd H' de (.dK (endsK ta' ba'))) lp lt ll de S':=by
 obtain ⟨ta,ba,e1,e2,e3,e4,e5,e6,e7,e8,e9⟩:=h.he
 have hD:∀ vs,H' de ≠ some (.tup vs):=fun vs e=>by rw [e1] at e; cases e
 have nl:∀ {l:Addr} {xs:List V},H' l = some (.lst xs)->l ≠ de:=fun e q=>by rw [q,e1] at e; cases e
 obtain ⟨us1,p1,_⟩:=h.hp
 obtain ⟨us2,p2,_⟩:=h.ht
 obtain ⟨us3,p3,_⟩:=id hT
 obtain ⟨us4,p4,_⟩:=id hB
 refine ⟨h.smU h.m4,?_,?_,?_,⟨ta',ba',upd_same,n.1,n.2.1,n.2.2.1,n.2.2.2.1,n.2.2.2.2.1,n.2.2.2.2.2,hT.keep (nl p3) hD,hB.keep (nl p4) hD⟩,h.n1,h.n2,h.n3,h.m1,h.m2,h.m3,h.m4⟩
 ·rw [eP]; exact h.hp.keep (nl p1) hD
 ·rw [eG]; exact h.ht.keep (nl p2) hD
 ·rw [eL,upd_ne (nl h.hl)]; exact h.hl
end
end K54
namespace L2
open PySem PySem.Spec PyProof.Rows
section
variable {X:Cx}
theorem call_anyB (hc:X.calm = true):CallR X (.builtin "any") (fun xs H Q=>∃ (p:Addr) (bs:List Bool),xs = [.ref p]/\SqL X.K H p (bs.map V.bl)/\Q (.bl (bs.any id)) H):=by
 intro pins s σ H xs us Q I r h
 obtain ⟨p,bs,rfl,hS,q⟩:=h
 obtain ⟨u,rfl,ru⟩:=vals1 r
 cases ru
 obtain ⟨its,rv,hp,hz⟩:=I.list hS
 have hlen:its.length = bs.length:=by rw [<- rv.length,List.length_map]
 have hne:p ≠ s.heap.objs.size:=Nat.ne_of_lt (by obtain ⟨_,e,_⟩:=hp.isList; exact Heap.lt_size e)
 refine call_any_walk (wpAny_pyIter_list hp.isList ?_)
 refine ⟨s.heap.objs.size,_,_,_,_,_,fun i=>bs.getD i false,rfl,Walks.list (A:=X.A.in1) (I.ok.hd hc) s.heap.objs.size p hne its.toArray,⟨⟨_,Heap.get?_push_size _ rfl,rfl,rfl⟩,hp.isList.push _⟩,?_,fun h' tk k=>?_⟩
 ·intro i v s' Q' E' hP hQ
  have hv:its[i]? = some v:=by simpa using hP
  have hi:i < bs.length:=by rw [<- hlen]; exact (List.getElem?_eq_some_iff.mp hv).1
  obtain ⟨u',e1,e2⟩:=rv.get (i:=i) (x:=V.bl bs[i]) (by rw [List.getElem?_map,List.getElem?_eq_getElem hi]; rfl)
  rw [hv] at e1
  cases e1
  cases e2
  refine wpAny_truthy_bool ?_
  have:bs.getD i false = bs[i]:=by rw [List.getD_eq_getElem?_getD,List.getElem?_eq_getElem hi]; rfl
  rw [<- this]
  exact hQ
 ·have e:((List.range its.toArray.size).any fun i=>bs.getD i false) = bs.any id:=by
   rw [List.size_toArray,hlen,Bool.eq_iff_iff,List.any_eq_true,List.any_eq_true]
   constructor
   ·rintro ⟨i,hi,hb⟩
    have hi':=List.mem_range.mp hi
    rw [List.getD_eq_getElem?_getD,List.getElem?_eq_getElem hi'] at hb
    exact ⟨_,List.getElem_mem hi',hb⟩
   ·rintro ⟨b,hb,h1⟩
    obtain ⟨i,hi,rfl⟩:=List.getElem_of_mem hb
    refine ⟨i,List.mem_range.mpr hi,?_⟩
    rw [List.getD_eq_getElem?_getD,List.getElem?_eq_getElem hi]
    exact h1
  rw [e]
  exact ⟨.bl (bs.any id),H,I.kept (h':=h') (t':=tk) (fun b o q=>k b o (fun hm=>by
   have e:b = s.heap.objs.size:=by simpa using hm
   exact absurd (Heap.lt_size q) (by rw [e]; exact Nat.lt_irrefl _)) (Heap.get?_push_of_some _ q)),rfl,q⟩
end
def intsTo (n:Nat):List Int:=(List.range n).map fun (i:Nat)=>(i:Int)
theorem Vals.of_at {ts:List Int}:∀ {us:List Value},us.length = ts.length->(∀ (i:Nat) (v:Value),us[i]? = some v->∃ t,v = Value.int (ts.getD i 0) t)->Vals (ts.map V.int) us:=by
 induction ts with
 | nil=>
  intro us hl _
  have:us = []:=List.length_eq_zero_iff.mp hl
  subst this
  exact .nil
 | cons t ts ih=>
  intro us hl h
  cases us with
  | nil=>cases hl
  | cons u us=>
   obtain ⟨k,e⟩:=h 0 u rfl
   exact .cons ⟨k,e⟩ (ih (by simpa using hl) fun i v e=>h (i + 1) v e)
section
variable {X:Cx}
theorem call_rng:CallR X (.type "range") (fun xs H Q=>∃ n:Nat,xs = [.int (n:Nat)]/\∀ p,H p = none->Q (.ref p) (upd H p (.rng 0 (n:Nat)))):=by
 intro pins s σ H xs us Q I r h
 obtain ⟨n,rfl,q⟩:=h
 obtain ⟨u,rfl,ru⟩:=vals1 r
 obtain ⟨t,rfl⟩:=ru
 refine call_range_1 ?_
 refine ⟨.ref s.heap.objs.size,_,I.laid (o:=.rng 0 (n:Nat)) (fun b u e=>Heap.get?_push_of_some _ e) (Nat.le_refl _) ?_,rfl,q _ (I.hok.fresh (Nat.le_refl _))⟩
 exact ⟨_,_,_,Heap.get?_push_size _ rfl⟩
theorem call_listR (hc:X.calm = true):CallR X (.type "list") (fun xs H Q=>∃ (p:Addr) (n:Nat),xs = [.ref p]/\H p = some (.rng 0 (n:Nat))/\n<=900/\∀ l,H l = none->Q (.ref l) (upd H l (.lst ((intsTo n).map V.int)))):=by
 intro pins s σ H xs us Q I r h
 obtain ⟨p,n,rfl,hp,hn,q⟩:=h
 obtain ⟨u,rfl,ru⟩:=vals1 r
 cases ru
 obtain ⟨t,u',v',e⟩:=I.hok p _ hp
 refine call_list_range (n:=n) (I.ok.hd hc) e ?_ ?_ (by omega) fun h' tk acc c' hk he hacc=>?_
 ·exact small_one (by omega) (by omega) (by omega) (by omega)
 ·unfold Builtin.Range.rangeSize
  rw [if_pos (by decide)]
  split <;> omega
 ·have hl:acc.toList.length = (intsTo n).length:=by
   unfold intsTo
   rw [List.length_map,List.length_range]
   simpa using hacc.1
  have hv:Vals ((intsTo n).map V.int) acc.toList:=Vals.of_at hl fun i v e=>by
   obtain ⟨t,rfl⟩:=hacc.2 i v (by simpa using e)
   refine ⟨t,?_⟩
   have hi:i < n:=by
    have:=(List.getElem?_eq_some_iff.mp e).1
    rw [hl] at this
    unfold intsTo at this
    simpa using this
   have eg:(intsTo n).getD i 0 = (i:Int):=by
    unfold intsTo
    rw [List.getD_eq_getElem?_getD,List.getElem?_map,List.getElem?_range hi]
    rfl
   rw [eg]
   simp
  refine ⟨.ref s.heap.objs.size,_,I.laid (t':=tk) (o:=.lst ((intsTo n).map V.int)) hk (Nat.le_refl _) ⟨?_,acc.toList,c',hv,by simpa using he⟩,rfl,q _ (I.hok.fresh (Nat.le_refl _))⟩
  unfold intsTo
  rw [List.length_map,List.length_map,List.length_range]
  have : 1000<=sizeLine:=by decide
  omega
end
end L2
namespace L2
open PySem PySem.W PySem.Builtin PySem.Builtin.ObjectAttr PySem.Spec PyProof.Rows
section
variable {prog:Program} {w:World} {A:Around} {E:Value->Shared->Prop} {s:Shared} {K:PySem.W.Frag} {C f:Addr} {us:List Value}
end
section
variable {prog:Program} {w:World} {A:Around} {E:Value->Shared->Prop} {s:Shared} {K:PySem.W.Frag} {C x:Addr} {us:List Value}
end
end L2
namespace L2
open PySem PySem.W PySem.Builtin PySem.Builtin.ObjectAttr PySem.Builtin.Getset_descriptor PySem.Spec PyProof.Rows
section
variable {prog:Program} {w:World} {A:Around} {E:Value->Shared->Prop} {s:Shared} {K:PySem.W.Frag} {C D x dx:Addr} {us:List Value}
end
end L2
namespace L2
open PySem PySem.Spec PyProof.Rows
section
variable {X:Cx} {pins:List (Addr × Obj)} {σ : St} {H:Hp} {s:Shared} {x C t:Addr} {f:Str} {y:V} {u:Value} {A:Around} {E:Value->Shared->Prop}
end
section
variable {X:Cx} {o e value:Expr} {f:Str} {pos pos' tpos:Pos} {ta tv:TE}
end
section
variable {X:Cx} {CX:CXT} {k:Nat} {f C:Addr} {fd:FuncData} {ps:List Str} {sp:Sp} {E:XK} {x:Str} {p pos:Pos} {e:Expr} {es:List Expr} {t:TA}
end
section
variable {X:Cx} {pins:List (Addr × Obj)} {σ : St} {H:Hp} {s:Shared} {ea C t:Addr} {od:Option Addr} {M:Model} {E:Value->Shared->Prop}
end
section
variable {X:Cx} {E:XK} {pos:Pos} {e:Expr} {te:TE}
end
section
variable {P:Program} {w:World} {K:PySem.W.Frag} {mg:Str->Option Value} {base:Heap} {N:List Str} {qual:Str} {scope:Scope} {f:Addr} {cd:Value} {A:Around} {outer:List Env} {s:Shared} {H:Hp} {E E':XK}
end
section
variable {X:Cx} {x:Str} {C:Addr} {B Bn newId nid initId inN:String} {bm bmN:List Value} {np pos:Pos} {e:Expr} {es:List Expr} {t:TA}
end
section
variable {X:Cx} {pins:List (Addr × Obj)} {σ : St} {H:Hp} {s:Shared} {M:Model} {A:Around} {E:Value->Shared->Prop} {i:Nat} {n:Str} {pos:Pos}
end
section
variable {X:Cx} {pins:List (Addr × Obj)} {σ : St} {H:Hp} {s:Shared} {ea:Addr}
variable {st b₀:Stmt} {suite:List Stmt} {c n:Str} {np hpos pos:Pos} {C:Addr} {i:Nat} {tb:XK->TS} {ts:TS} {ok:Value->Prop}
end
section
variable {X:Cx} {pins:List (Addr × Obj)} {σ : St} {e:Expr} {es:List Expr} {t:TA} {E:XK} {x:Str} {p pos:Pos} {k:Nat} {f C:Addr} {fd:FuncData} {ps:List Str} {sp:Sp} {dvs:List V} {ds:List Value}
end
section
variable {M:Model} {A:Around} {E:Value->Shared->Prop} {s:Shared} {base:Heap} {env:Env} {outer:List Env} {L e C t:Addr} {od:Option Addr} {tb0 head:Value} {hn:Bool} {Q:Unit->Shared->Prop}
end
section
variable {X:Cx} {pins:List (Addr × Obj)} {σ : St} {H H':Hp} {s s':Shared} {ea C t:Addr} {od:Option Addr} {M:Model} {E:Value->Shared->Prop}
end
section
variable {X:Cx} {pins:List (Addr × Obj)} {σ : St} {H H':Hp} {s s':Shared} {ea C t:Addr} {od:Option Addr} {M:Model} {A:Around} {E:Value->Shared->Prop} {h5:Heap}
end
section
variable {X:Cx} {E:XK} {pos:Pos} {e:Expr} {te:TE}
end
section
variable {P:Program} {w:World} {K:PySem.W.Frag} {mg:Str->Option Value} {base:Heap} {N:List Str} {qual:Str} {scope:Scope} {f:Addr} {cd:Value} {A:Around} {outer:List Env} {s:Shared} {H:Hp} {E E':XK}
end
section
variable {X:Cx} {k:Nat} {f:Addr} {fd:FuncData} {ps:List Str} {sp:Sp} {E:XK} {x:Str} {p pos:Pos} {e:Expr} {es:List Expr} {t:TA}
end
section
variable {X:Cx} {hs:List ExceptHandler} {th:HK} {c n:Str} {C':Addr} {i:Nat} {ts:TS} {b₀:Stmt} {suite:List Stmt} {np hpos:Pos}
end
section
variable {X:Cx} {st:Stmt} {h₀:ExceptHandler} {hs:List ExceptHandler} {pos:Pos} {tb:XK->TS} {th:HK}
end
section
variable {X:Cx} {pins:List (Addr × Obj)} {σ : St} {e:Expr} {es:List Expr} {te:TE} {t:TA} {E:XK} {x m:Str} {p pos apos:Pos} {k:Nat} {f C:Addr} {fd:FuncData} {ps:List Str} {sp:Sp} {dvs:List V} {ds:List Value}
end
section
variable {X:Cx} {pins:List (Addr × Obj)} {σ : St} {H:Hp} {s:Shared} {x C t:Addr} {f:Str} {A:Around} {E:Value->Shared->Prop}
end
section
variable {X:Cx} {e:Expr} {f:Str} {pos:Pos} {ta:TE}
end
end L2
namespace L2
open PySem PySem.Spec PyProof.Rows PySem.Builtin
section
variable {prog:Program} {w:World} {A:Around} {E:Value->Shared->Prop} {s:Shared} {it ea C t:Addr} {od:Option Addr} {tb:Value} {x left step:Int} {Q:Option Value->Shared->Prop}
end
end L2
namespace L2
open PySem PySem.Spec PyProof.Rows
structure TurnH (ea:Addr) (P:Program) (w:World) (K:PySem.W.Frag) (tg:Expr) (J:It) (fp:List Addr) (it:Addr) (tn:Nat->Heap->Prop):Prop where
 mem:it ∈ fp
 obj:∀ i h,tn i h->∀ b ∈ fp,∃ o,h.get? b = some o/\∀ v,o.data ≠ .cell v
 keep:∀ i h h',tn i h->(∀ b ∈ fp,∀ o,h.get? b = some o->h'.get? b = some o)->tn i h'
 item:∀ (X:Cx),X.prog = P->X.w = w->X.K = K->X.A.handled = some (.ref ea)->∀ (i:Nat) (pins:List (Addr × Obj)) (s:Shared) (σ : St) (H:Hp) (E:Value->Shared->Prop),Inv X pins σ H s->(∀ b ∈ fp,FpOk X pins H b)->tn i s.heap->J.go i H->
  wpAny (model P w) X.A (pyNext (.ref it)) (fun r s1=>∃ u,r = some u/\
   wpAny (model P w) X.A (letOwnedTupleGo tg (.ref it) u) (fun _ s2=>∃ x H',Inv X pins σ H' s2/\RelV x u/\J.yld i H x H'/\tn (i + 1) s2.heap/\∀ b ∈ fp,H' b = none) E s1) E s
 done:∀ (X:Cx),X.prog = P->X.w = w->X.K = K->X.A.handled = some (.ref ea)->∀ (i:Nat) (pins:List (Addr × Obj)) (s:Shared) (σ : St) (H:Hp) (E:Value->Shared->Prop),Inv X pins σ H s->(∀ b ∈ fp,FpOk X pins H b)->tn i s.heap->J.stop i H->
  wpAny (model P w) X.A (pyNext (.ref it)) (fun r s1=>r = none/\Inv X pins σ H s1) E s
 self:∀ (A:Around) (i:Nat) (s:Shared) (Q:Value->Shared->Prop) (E:Value->Shared->Prop),tn i s.heap->Q (.ref it) s->wpAny (model P w) A (pyIter (.ref it)) Q E s
def PIEH (X:Cx) (ea:Addr) (pins:List (Addr × Obj)) (σ : St) (tg:Expr) (R:It->Hp->Prop) (itv:Value) (s2:Shared):Prop:=
 ∃ (it:Addr) (fp:List Addr) (tn:Nat->Heap->Prop) (J:It) (H':Hp),itv = .ref it/\Inv X pins σ H' s2/\TurnH ea X.prog X.w X.K tg J fp it tn/\tn 0 s2.heap/\(∀ b ∈ fp,FpOk X pins H' b)/\R J H'
section
variable {X:Cx} {tg:Expr}
end
section
variable {X:Cx} {pins:List (Addr × Obj)} {σ : St} {s:Shared} {sc:Scope} {fr Nc:List Str} {caps:List (Option Nat)} {elt tg iter:Expr} {ifs:List Expr} {g:TG} {tt:TT} {te:TE} {ow:List Nat} {pos pos2:Pos} {E:Value->Shared->Prop}
end
section
variable {X:Cx} {hs:List ExceptHandler} {th:HK} {c n:Str} {C':Addr} {i:Nat} {ts:TS} {b₀:Stmt} {suite:List Stmt} {np hpos:Pos}
end
section
variable {X:Cx}
def rInsert:V->List V->Hp->VK->Prop:=fun x vs H Q=>∃ (l:Addr) (xs:List V) (i:Nat) (y:V),x = .ref l/\vs = [.int (i:Nat),y]/\H l = some (.lst xs)/\i<=xs.length/\xs.length < 1000/\Q .non (upd H l (.lst (xs.take i ++ y :: xs.drop i)))
theorem mt_insert:MtM X "list.insert" rInsert:=by
 intro pins s σ H x vs v us Q I rx rv h
 obtain ⟨l,xs,i,y,rfl,rfl,hH,hi,hz,q⟩:=h
 cases rx
 obtain ⟨u1,u2,rfl,r1,r2⟩:=vals2 rv
 obtain ⟨tk,rfl⟩:=r1
 obtain ⟨z,its,n,r,hl,e⟩:=I.lstM hH
 have big:(1000:Int) < 2 ^ 63:=by decide
 obtain ⟨x,hx⟩:∃ x:Int,x = ((i:Nat):Int):=⟨_,rfl⟩
 have hfit:¬ (!Builtin.List.listFitsIndex x) = true:=by
  rw [fitsIndex_both (Int.le_trans (by decide) (show 0<=x by omega)) (Int.lt_trans (by omega) big)]
  exact Bool.false_ne_true
 have hsz:its.toArray.size<=sizeLine:=by
  rw [List.size_toArray,<- hl]
  exact z
 have M:=@PySem.AutoListH.list_insert_list_int_val_1 l its.toArray n x tk u2 hfit hsz
 rw [<- hx]
 clear hfit
 refine call_meets F.slot_list_insert ⟨_,e,rfl⟩ F.entry_list_insert (F.args_list_insert_3 _ _ _) M ⟨e,?_⟩
 refine ⟨.non,_,I.lset (its':=its.take i ++ u2 :: its.drop i) hH e ?_ ?_ ?_,rfl,q⟩
 ·have e0:(if x < 0 then (x + (its.toArray.size:Int)).toNat else min x.toNat its.toArray.size) = i:=by
   rw [if_neg (by omega),List.size_toArray]
   omega
  show (let k:=if x < 0 then (x + (its.toArray.size:Int)).toNat else min x.toNat its.toArray.size; (its.toArray.extract 0 k).push u2 ++ its.toArray.extract k) = (its.take i ++ u2 :: its.drop i).toArray
  rw [e0]
  apply Array.ext'
  simp [List.extract_eq_drop_take,List.take_of_length_le]
 ·exact Vals.append (r.take i) (.cons r2 (r.drop i))
 ·rw [List.length_append,List.length_cons,List.length_take,List.length_drop]
  exact Nat.le_of_lt (Nat.lt_of_le_of_lt (by omega:_<=1000) (by decide))
end
end L2
namespace L2
open PySem PySem.Spec PyProof.Rows PySem.Builtin
section
variable {prog:Program} {w:World} {A:Around} {E:Value->Shared->Prop} {s:Shared} {it l ea C t:Addr} {od:Option Addr} {tb:Value} {i:Nat} {items:Array Value} {Q:Option Value->Shared->Prop}
end
section
variable {X:Cx} {tg:Expr}
end
section
variable {X:Cx} {sc:Scope} {elt tg iter:Expr} {ifs:List Expr} {g:TG} {tt:TT} {te:TE} {ow:List Nat} {pos:Pos}
end
section
variable {X:Cx}
end
end L2
namespace L2
open PySem PySem.Spec PyProof.Rows
section
variable {X:Cx}
end
section
variable {X:Cx} {hs:List ExceptHandler} {th:HK} {c n:Str} {C':Addr} {i:Nat} {ts:TS} {b₀:Stmt} {suite:List Stmt} {np hpos:Pos}
end
section
variable {P:Program} {w:World} {K:PySem.W.Frag} {mg:Str->Option Value} {base:Heap}
end
section
variable {X:Cx} {k:Nat} {f ea:Addr} {fd:FuncData} {ps:List Str} {sp:Addr->Sp} {x:Str} {p pos:Pos} {e:Expr} {es:List Expr} {t:TA}
end
theorem sqT_keep' {K:PySem.W.Frag} {H3:Hp} {o:HO} {l b:Addr} {zs:List V} (hl:∃ zs,H3 l = some (.lst zs)) (hz:SqT K H3 b zs):SqT K (upd H3 l o) b zs:=by
 obtain ⟨ws,hl⟩:=hl
 rcases hz with (z | ⟨u,z⟩) | z
 ·refine .inl (.inl ?_)
  rw [upd_ne (fun e=>by subst e; rw [hl] at z; cases z)]
  exact z
 ·refine .inl (.inr ⟨u,?_⟩)
  rw [upd_ne (fun e=>by subst e; rw [hl] at z; cases z)]
  exact z
 ·exact .inr z
theorem says_grow {K:PySem.W.Frag} {ok ok':Addr->Prop} {H:Hp} {o:HO} {l:Addr} {zs:List V} (hl:H l = some (.lst zs)) (hk:∀ b,ok b->ok' b/\b ≠ l) {n:Nat} {x:V} {d:Dt} (h:Says K ok H n x d):Says K ok' (upd H l o) n x d:=
 h.frame (fun a xs z=>sqT_keep' ⟨_,hl⟩ z) fun a xs oa z=>⟨(hk a oa).1,by rw [upd_ne (hk a oa).2]; exact z⟩
theorem lc_sayse {K:PySem.W.Frag} {a:Addr} {xs:List V} {m:Nat} {caps:List (Option Nat)} {g:TG} {tt:TT} {te:TE} {σ : St} {H1:Hp} {Q:VK} {D:Addr} (dt:Nat->Dt) (hD:H1 D = none) (ha:SqL K H1 a xs) (hn:xs.length<=1000)
  (hs:∀ (i:Nat) (x:V) (p:Addr) (H:Hp) (Qf:VK) (Qs:Hp->Prop),xs[i]? = some x->H p = none->Same H1 H->(∀ v H',Same H H'->Says K (fun a=>H a = none) H' m v (dt i)->Qf v H')->
   g (.ref p) (capS caps σ) (upd H p (.tup [.int i,x])) fun σ2 H2=>tt σ2 H2 fun ok H3=>(ok = true->te σ2 H3 Qf)/\(ok = false->Qs H3))
  (hd:∀ vs H,Same H1 H->H D = some (.lst vs)->Paired (Says K (fun a=>a ≠ D/\H1 a = none) H m) vs ((List.range xs.length).map dt)->Q (.ref D) H):LCr (Ite K a) caps g tt te σ H1 Q D:=by
 have sz : 1000<=sizeLine:=by decide
 refine lc_enum (K:=K) (xs:=xs) (fun i ys H'=>Same H1 H'/\H' D = some (.lst ys)/\Paired (Says K (fun a=>a ≠ D/\H1 a = none) H' m) ys ((List.range i).map dt)) ⟨fun b u e=>by rw [upd_ne (ne_of_none e hD)]; exact e,upd_same,.nil⟩ (fun i ys H h=>h.1.seq ha) ?_ ?_
 ·rintro i x p ys H hi hx ⟨sH,hDy,hp⟩ hpn
  refine hs i x p H _ _ hx hpn sH fun v H' s' hv=>?_
  have ly:ys.length = i:=by rw [hp.length,List.length_map,List.length_range]
  refine lcN.mk hi (by omega) (s' _ _ hDy) (by omega) ⟨fun b u e=>?_,upd_same,?_⟩
  ·rw [upd_ne (ne_of_none e hD)]
   exact s' _ _ (sH _ _ e)
  ·rw [List.range_succ,List.map_append]
   refine Paired.snoc (Paired.imp' (fun _ _ z=>says_grow (s' _ _ hDy) (fun b o=>⟨o,o.1⟩) (z.same s')) hp) (says_grow (s' _ _ hDy) (fun b o=>?_) hv)
   have nb:b ≠ D:=fun e=>by subst e; rw [o] at hDy; cases hDy
   exact ⟨⟨nb,sH.free o⟩,nb⟩
 ·rintro ys H ⟨sH,hDy,hp⟩
  exact hd ys H sH hDy hp
theorem le1000' {n:Nat} (h:n<=1000):n<=sizeLine:=Nat.le_of_lt (small1000 h)
theorem filt_snoc {α : Type} {ys:List α} {i:Nat} {y : α} (keep : α->Bool) (hy:ys[i]? = some y):(ys.take (i + 1)).filter keep = (ys.take i).filter keep ++ (if keep y = true then [y] else []):=by
 have hi:i < ys.length:=(List.getElem?_eq_some_iff.mp hy).1
 have e:ys[i] = y:=(List.getElem?_eq_some_iff.mp hy).2
 rw [List.take_succ_eq_append_getElem hi,List.filter_append,e,List.filter_cons]
 rfl
theorem filt_le {α : Type} {ys:List α} {i:Nat} (keep : α->Bool):((ys.take i).filter keep).length<=i:=by
 have:=List.length_filter_le keep (ys.take i)
 rw [List.length_take] at this
 omega
theorem lc_sel {α : Type} {K:PySem.W.Frag} {a:Addr} {xs:List V} {caps:List (Option Nat)} {g:TG} {tt:TT} {te:TE} {σ : L2.St} {H1:Hp} {Q:VK} {D:Addr} (ys:List α) (keep : α->Bool) (out : α->V) (hD:H1 D = none) (ha:SqL K H1 a xs) (hl:xs.length = ys.length) (hn:xs.length<=1000)
  (hs:∀ (i:Nat) (x:V) (y : α) (H:Hp) (N:VK) (S:Hp->Prop),xs[i]? = some x->ys[i]? = some y->Same H1 H->(∀ H',Same H H'->keep y = true->N (out y) H')->(∀ H',Same H H'->keep y = false->S H')->g x (capS caps σ) H fun σ2 H2=>tt σ2 H2 fun ok H3=>(ok = true->te σ2 H3 N)/\(ok = false->S H3))
  (hd:∀ H,Same H1 H->H D = some (.lst ((ys.filter keep).map out))->Q (.ref D) H):LCr (Itl K a) caps g tt te σ H1 Q D:=by
 refine lc_list (K:=K) (xs:=xs) (fun i zs H'=>Same H1 H'/\H' D = some (.lst zs)/\zs = ((ys.take i).filter keep).map out) ⟨same_new hD _,upd_same,rfl⟩ (fun i zs H' h=>h.1.seq ha) ?_ ?_
 ·rintro i x zs H' hlt hx ⟨sH,hDy,ez⟩
  obtain ⟨y,hy⟩:∃ y,ys[i]? = some y:=⟨_,List.getElem?_eq_getElem (by omega)⟩
  refine hs i x y H' _ _ hx hy sH (fun H2 s2 hk=>?_) (fun H2 s2 hk=>?_)
  ·refine lcN.mk hlt (le1000' hn) (s2 _ _ hDy) (by rw [ez,List.length_map]; exact filt_le _) ⟨fun b' u e=>?_,upd_same,?_⟩
   ·rw [upd_ne (ne_of_none e hD)]
    exact s2 _ _ (sH b' u e)
   ·rw [ez,filt_snoc keep hy,if_pos hk,List.map_append]
    rfl
  ·refine lcS.mk hlt ⟨sH.trans s2,s2 _ _ hDy,?_⟩
   rw [ez,filt_snoc keep hy,if_neg (by rw [hk]; exact Bool.false_ne_true),List.append_nil]
 ·rintro zs H2 ⟨s2,hDy,ez⟩
  rw [List.take_of_length_le (by omega)] at ez
  rw [ez] at hDy
  exact hd H2 s2 hDy
theorem lc_sele {α : Type} {K:PySem.W.Frag} {a:Addr} {xs:List V} {caps:List (Option Nat)} {g:TG} {tt:TT} {te:TE} {σ : L2.St} {H1:Hp} {Q:VK} {D:Addr} (ys:List α) (keep : α->Bool) (out : α->V) (hD:H1 D = none) (ha:SqL K H1 a xs) (hl:xs.length = ys.length) (hn:xs.length<=1000)
  (hs:∀ (i:Nat) (x:V) (y : α) (p:Addr) (H:Hp) (N:VK) (S:Hp->Prop),xs[i]? = some x->ys[i]? = some y->H p = none->Same H1 H->(∀ H',Same H H'->keep y = true->N (out y) H')->(∀ H',Same H H'->keep y = false->S H')->g (.ref p) (capS caps σ) (upd H p (.tup [.int i,x])) fun σ2 H2=>tt σ2 H2 fun ok H3=>(ok = true->te σ2 H3 N)/\(ok = false->S H3))
  (hd:∀ H,Same H1 H->H D = some (.lst ((ys.filter keep).map out))->Q (.ref D) H):LCr (Ite K a) caps g tt te σ H1 Q D:=by
 refine lc_enum (K:=K) (xs:=xs) (fun i zs H'=>Same H1 H'/\H' D = some (.lst zs)/\zs = ((ys.take i).filter keep).map out) ⟨same_new hD _,upd_same,rfl⟩ (fun i zs H' h=>h.1.seq ha) ?_ ?_
 ·rintro i x p zs H' hlt hx ⟨sH,hDy,ez⟩ hp
  obtain ⟨y,hy⟩:∃ y,ys[i]? = some y:=⟨_,List.getElem?_eq_getElem (by omega)⟩
  refine hs i x y p H' _ _ hx hy hp sH (fun H2 s2 hk=>?_) (fun H2 s2 hk=>?_)
  ·refine lcN.mk hlt (le1000' hn) (s2 _ _ hDy) (by rw [ez,List.length_map]; exact filt_le _) ⟨fun b' u e=>?_,upd_same,?_⟩
   ·rw [upd_ne (ne_of_none e hD)]
    exact s2 _ _ (sH b' u e)
   ·rw [ez,filt_snoc keep hy,if_pos hk,List.map_append]
    rfl
  ·refine lcS.mk hlt ⟨sH.trans s2,s2 _ _ hDy,?_⟩
   rw [ez,filt_snoc keep hy,if_neg (by rw [hk]; exact Bool.false_ne_true),List.append_nil]
 ·rintro zs H2 ⟨s2,hDy,ez⟩
  rw [List.take_of_length_le (by omega)] at ez
  rw [ez] at hDy
  exact hd H2 s2 hDy
end L2
namespace K54
open PySem L2 PyProof.Rows
structure TxtL (mg:Str->Option Value):Prop where
 len:mg "len" = none
 range:mg "range" = none
 min:mg "min" = none
 max:mg "max" = none
 en:mg "enumerate" = none
 list:mg "list" = none
 isi:mg "isinstance" = none
 bool:mg "bool" = none
 int:mg "int" = none
theorem inStrs {z:Str}:∀ {zs:List Str},inV (.str z) (zs.map V.str) = decide (z ∈ zs)
 | []=>by simp [inV]
 | y :: ys=>by
  have ih:=inStrs (z:=z) (zs:=ys)
  show (eqV (.str y) (.str z) || inV (.str z) (ys.map V.str)) = _
  rw [ih]
  have:eqV (.str y) (.str z) = decide (z = y):=by
   show (y == z) = _
   rw [Bool.eq_iff_iff,beq_iff_eq,decide_eq_true_eq]
   exact ⟨Eq.symm,Eq.symm⟩
  rw [this]
  simp
theorem flatStrs:∀ {zs:List Str},(zs.map V.str).all flatV = true
 | []=>rfl
 | _ :: ys=>by
  show (true && (ys.map V.str).all flatV) = true
  rw [flatStrs]
  rfl
def poolL (c:Int):List Str:=(List.range 26).map (poolN c)
theorem poolL_at {c:Int} {i:Nat} {z:Str} (h:(poolL c)[i]? = some z):i < 26/\z = poolN c i:=by
 unfold poolL at h
 rw [List.getElem?_map] at h
 by_cases hi:i < 26
 ·rw [List.getElem?_range hi] at h
  exact ⟨hi,(Option.some.inj h).symm⟩
 ·rw [List.getElem?_eq_none (by rw [List.length_range]; omega)] at h
  cases h
theorem poolL_get {c:Int} {i:Nat} (h:i < 26):(poolL c)[i]? = some (poolN c i):=by
 unfold poolL
 rw [List.getElem?_map,List.getElem?_range h]
 rfl
theorem poolL_len (c:Int):(poolL c).length = 26:=by unfold poolL; rw [List.length_map,List.length_range]
theorem poolL_name {c:Int} {z:Str} (h:z ∈ poolL c):nameB z = true:=by
 obtain ⟨k,_,rfl⟩:=List.mem_map.mp h
 exact pool_name c k
theorem poolL_nd (c:Int):(poolL c).Nodup:=by
 unfold poolL
 refine List.pairwise_map.mpr (List.Pairwise.imp_of_mem ?_ List.nodup_range)
 intro a b ha hb ne e
 exact ne (pool_inj (List.mem_range.mp ha) (List.mem_range.mp hb) e)
def kd8 (n:Nat):Nat:=[1,0,1,3,3,2,4,1].getD n 0
theorem kd8_lt (n:Nat):kd8 n < 5:=by
 have h:∀ n,n < 8->kd8 n < 5:=by decide
 by_cases hn:n < 8
 ·exact h n hn
 ·unfold kd8
  rw [List.getD_eq_getElem?_getD,List.getElem?_eq_none (by simp; omega)]
  exact Nat.succ_pos _
theorem kd8_at:∀ n,n < 8->atI [V.str "both",.str "seat",.str "both",.str "tag",.str "tag",.str "tail",.str "bag",.str "both"] ((n:Nat):Int) = some (.str (kw (kd8 n))):=by decide +kernel
theorem merge_ends (ta ba:Addr):mergeK [] (endsK ta ba) = endsK ta ba:=by
 have e:¬ ((Sum.inr (Str.ofString "tail"):Key) = Sum.inr (Str.ofString "bag")):=by decide +kernel
 unfold mergeK endsK
 simp only [List.foldl_cons,List.foldl_nil]
 unfold putK
 simp [e]
theorem TAt.same {H H':Hp} {u:Addr} {r:Rw} (h:TAt H u r) (s:Same H H'):TAt H' u r:=s _ _ h
def spForm (K:PySem.W.Frag):Sp:=fun vs H Q _=>∃ (a pa:Addr) (ns:List Int) (i most:Nat) (c:Int),vs = [.ref a,.int (i:Nat),.ref pa,.int (most:Nat)]/\SqL K H a (ns.map V.int)/\ns.length<=63/\3<=most/\most<=24/\H pa = some (.lst ((poolL c).map V.str))/\
 ∀ (t la lb:Addr) (us:List Addr) (rows:List Rw) (bars:List Str) (H':Hp),Same H H'->H' t = some (.tup [.ref la,.ref lb])->H' la = some (.lst (us.map V.ref))->Paired (TAt H') us rows->H' lb = some (.lst (bars.map V.str))->Valid rows bars->Q (.ref t) H'
section
variable {P:Program} {w:World} {K:PySem.W.Frag} {mg:Str->Option Value} {base:Heap} {f:Addr} {fd:FuncData}
theorem ndFo:([Str.ofString "_law_k",Str.ofString "_law_name",Str.ofString "_law_more",Str.ofString "_law_told"]:List Str).Nodup:=by decide +kernel
theorem scForm:FnScope ["_law_script","_law_at","_law_pool_here","_law_most","_law_places","_law_tags","_law_ends","_law_told","_law_more","_law_k","_law_cell_here","_law_sort","_law_name","_law_bars"] ["_law_script","_law_at","_law_pool_here","_law_most"] (defScope sForm):=⟨rfl,rfl,rfl,by decide +kernel,rfl,by decide +kernel,by decide +kernel⟩
theorem ok_form {g1 g2:Addr} {d1 d2:FuncData} (F:Fun K "_law_form" "_law_form" sForm f fd) (U:TxtL mg) (cC:Callee P w K mg base 1 "_law_cell" g1 d1 ["_law_script","_law_at"] (spCell K)) (cM:Callee P w K mg base 1 "_law_mix" g2 d2 ["_law_cell_here","_law_k"] spMix):FnOk P w K mg base CX0 2 f fd ["_law_script","_law_at","_law_pool_here","_law_most"] (spForm K):=by
 refine F.ok scForm (fun vs H Q E h=>?_) (fun cdv A outer s H vs Q E hr h=>?_)
 ·obtain ⟨a,pa,ns,i,most,c,rfl,_⟩:=h
  rfl
 obtain ⟨a,pa,ns,at0,most,c,rfl,hS,h63,m3,m24,hpa,q⟩:=h
 have hr1:Room 1 _:=hr
 have hu1:=hu_of hr
 refine ⟨_,pss_cons (ps_set (i:=4) scForm.nd rfl (Or.inl rfl) (pe_lst pa_nil))
   (pss_cons (ps_set (i:=5) scForm.nd rfl (Or.inl rfl) (pe_lst pa_nil))
   (pss_cons (ps_set (i:=6) scForm.nd rfl (Or.inl rfl) (pe_disp (pps_cons pe_str (pe_lst pa_nil) (pps_cons pe_str (pe_lst pa_nil) pps_nil)) rfl rfl (by simp) (by decide)))
   (pss_cons (ps_set (i:=7) scForm.nd rfl (Or.inr rfl) (pe_lst pa_nil))
   (pss_cons (ps_set (i:=8) scForm.nd rfl (Or.inr rfl) (cF cC hr1 (ac (pv 0) (ac (pe_op op_add (pv 1) pe_int) pa_nil))))
   (pss_cons (ps_for PassesOwn.never rfl (pi_range1 rfl U.range (ac (pe_op op_mod (cF cC hr1 (ac (pv 0) (ac (pv 1) pa_nil))) (pe_op op_add (pv 3) pe_int)) pa_nil)) (pg_name (i:=9) scForm.nd rfl (Or.inl rfl))
   (pss_cons (ps_set (i:=10) scForm.nd rfl (Or.inl rfl) (cF cM hr1 (ac (pe_op op_add (pv 8) (pe_op op_mul (pv 9) (cF cC hr1 (ac (pv 0) (ac (pe_op op_add (pv 1) pe_int) pa_nil))))) (ac (pv 9) pa_nil))))
   (pss_cons (ps_set (i:=11) scForm.nd rfl (Or.inl rfl) (pe_ix ix_list (pe_lst (ac pe_str (ac pe_str (ac pe_str (ac pe_str (ac pe_str (ac pe_str (ac pe_str (ac pe_str pa_nil))))))))) (pe_op op_mod (pv 10) pe_int) (fun _ _=>rfl)))
   (pss_cons (ps_set (i:=12) scForm.nd rfl (Or.inl rfl) (pe_ix ix_list (pv 2) (pe_op op_mod (pe_op op_fdiv (pv 10) pe_int) (cB (call_min2 rfl) U.min boot_min (ac pe_int (ac (pe_op op_sub (pv 3) pe_int) pa_nil)))) (fun _ _=>rfl)))
   (pss_cons (ps_if (PW.pt (pw_and (pt_cmpR op_in_seq (pv 11) (pe_lst (ac pe_str (ac pe_str pa_nil))) (by with_unfolding_all rfl)) (pw_and1 (pt_cmpR op_in_seq (pv 12) (pv 7) (by with_unfolding_all rfl))))) (pss_one (ps_set (i:=11) scForm.nd rfl (Or.inl rfl) pe_str)) pss_nil)
   (pss_cons (ps_if (pt_cmpR op_in_seq (pv 11) (pe_lst (ac pe_str (ac pe_str pa_nil))) (by with_unfolding_all rfl)) (pss_one (ps_expr (pe_bm PySem.F.plainAttrs_list PySem.F.slot_list_append PySem.F.type_list_append mt_append (pv 7) (ac (pv 12) pa_nil)))) pss_nil)
   (pss_one (ps_if (pt_cmpR op_eq (pv 11) pe_str (nomark _)) (pss_one (ps_expr (pe_bm PySem.F.plainAttrs_list PySem.F.slot_list_append PySem.F.type_list_append mt_append (pv 5) (ac (pe_tup (ac pe_str (ac (pv 12) (ac (pe_cmpR op_eq (pe_op op_mod (pe_op op_fdiv (pv 10) pe_int) pe_int) pe_int (nomark _)) pa_nil)))) pa_nil)))) (pss_one (ps_if (pt_cmpR op_in_seq (pv 11) (pe_lst (ac pe_str (ac pe_str pa_nil))) (by with_unfolding_all rfl)) (pss_one (ps_dput hu1 (pv 6) (pv 11) (pe_lst (ac (pe_tup (ac (pv 11) (ac (pv 12) pa_nil))) pa_nil)) rfl)) (pss_one (ps_expr (pe_bm PySem.F.plainAttrs_list PySem.F.slot_list_append PySem.F.type_list_append mt_append (pv 4) (ac (pe_tup (ac (pv 11) (ac (pv 12) (ac (pe_cmpR op_eq (pe_op op_mod (pe_op op_fdiv (pv 10) pe_int) pe_int) pe_int (nomark _)) pa_nil)))) pa_nil))))))))))))))
   (pss_cons (ps_lc (i:=13) ["_law_told","_law_more"] ["_law_k","_law_name","_law_more","_law_told"] [none,none,some 8,some 7] scForm.nd rfl (Or.inl rfl) rfl ⟨rfl,rfl,rfl,rfl⟩ (pi_enum rfl U.en (ac (pv 2) pa_nil)) (gown_tup2 (K:=K) (n:=2) 0 1) rfl rfl rfl
   (fun pins fp s H C=>⟨pg_tup rfl (pgs_cons (pg_name (i:=0) ndFo rfl (Or.inl rfl) (.inr rfl)) (pgs_cons (pg_name (i:=1) ndFo rfl (Or.inl rfl) (.inr rfl)) pgs_nil)),pif_one (PW.pt (pw_and (pt_cmpR (r:=rIn K true) op_notIn_seq (pv 1) (pv 3) (by with_unfolding_all rfl)) (pw_and1 (pt_cmpR op_eq (pe_op op_mod (cF cM hr1 (ac (pv 2) (ac (pe_op op_add (pv 0) pe_int) pa_nil))) pe_int) pe_int (nomark _))))),pv 1⟩))
   (pss_one (ps_ret (pe_tup (ac (pe_op op_cat (pe_op op_cat (pe_op op_cat (pv 4) (pe_dget hu1 (pv 6) pe_str (fun _ _=>rfl))) (pv 5)) (pe_dget hu1 (pv 6) pe_str (fun _ _=>rfl))) (ac (pv 13) pa_nil))))))))))),?_⟩
 refine ⟨(by show 0<=sizeLine; decide),fun lp hlp=>?_⟩
 have s1:=same_new hlp (.lst [])
 have g1:upd H lp (.lst []) lp = some (.lst []):=upd_same
 show tSeq _ _ _ _ (upd H lp (.lst []))
 generalize upd H lp (.lst []) = H1 at s1 g1 |-
 refine ⟨(by show 0<=sizeLine; decide),fun lt hlt=>?_⟩
 have s2:=same_new hlt (.lst [])
 have g2:upd H1 lt (.lst []) lt = some (.lst []):=upd_same
 show tSeq _ _ _ _ (upd H1 lt (.lst []))
 generalize upd H1 lt (.lst []) = H2 at s2 g2 |-
 intro de hde
 have s3:=same_new hde (.dK [])
 have g3:upd H2 de (.dK []) de = some (.dK []):=upd_same
 generalize upd H2 de (.dK []) = H3 at s3 g3 |-
 refine ⟨(by show 0<=sizeLine; decide),fun ta hta=>?_⟩
 have s4:=same_new hta (.lst [])
 have g4:upd H3 ta (.lst []) ta = some (.lst []):=upd_same
 generalize upd H3 ta (.lst []) = H4 at s4 g4 |-
 refine ⟨(by show 0<=sizeLine; decide),fun ba hba=>?_⟩
 have s5:=same_new hba (.lst [])
 have g5:upd H4 ba (.lst []) ba = some (.lst []):=upd_same
 generalize upd H4 ba (.lst []) = H5 at s5 g5 |-
 refine ⟨s5 _ _ (s4 _ _ g3),endsK ta ba,rfl,(by show 2<=15; decide),?_⟩
 rw [merge_ends]
 have s5H:Same H H5:=s1.trans (s2.trans (s3.trans (s4.trans s5)))
 have v1:=s5 _ _ (s4 _ _ (s3 _ _ (s2 _ _ g1)))
 have v2:=s5 _ _ (s4 _ _ (s3 _ _ g2))
 have v4:=s5 _ _ g4
 have v3:=s5 _ _ (s4 _ _ g3)
 have hdeH:H de = none:=(s1.trans s2).free hde
 have nd:∀ {l:Addr} {xs:List V},H5 l = some (.lst xs)->l ≠ de:=fun e z=>by rw [z,v3] at e; cases e
 have s6:∀ b u,H b = some u->upd H5 de (.dK (endsK ta ba)) b = some u:=fun b u e=>by rw [upd_ne (ne_of_none e hdeH)]; exact s5H _ _ e
 have w1:upd H5 de (.dK (endsK ta ba)) lp = some (.lst []):=by rw [upd_ne (nd v1)]; exact v1
 have w2:upd H5 de (.dK (endsK ta ba)) lt = some (.lst []):=by rw [upd_ne (nd v2)]; exact v2
 have w4:upd H5 de (.dK (endsK ta ba)) ta = some (.lst []):=by rw [upd_ne (nd v4)]; exact v4
 have w5:upd H5 de (.dK (endsK ta ba)) ba = some (.lst []):=by rw [upd_ne (nd g5)]; exact g5
 have w3:upd H5 de (.dK (endsK ta ba)) de = some (.dK (endsK ta ba)):=upd_same
 show tSeq _ _ _ _ (upd H5 de (.dK (endsK ta ba)))
 generalize upd H5 de (.dK (endsK ta ba)) = H6 at s6 w1 w2 w3 w4 w5 |-
 refine ⟨(by show 0<=sizeLine; decide),fun ll hll=>?_⟩
 have s7:=same_new hll (.lst [])
 have g7:upd H6 ll (.lst []) ll = some (.lst []):=upd_same
 show tSeq _ _ _ _ (upd H6 ll (.lst []))
 generalize upd H6 ll (.lst []) = H7 at s7 g7 |-
 have I0:FI H H7 lp lt ll de ⟨[],[],[],[],[]⟩:=⟨fun b u e=>s7 _ _ (s6 b u e),⟨[],s7 _ _ w1,.nil⟩,⟨[],s7 _ _ w2,.nil⟩,g7,
  ⟨ta,ba,s7 _ _ w3,(ne_of_none (s3 _ _ (s2 _ _ g1)) hta).symm,(ne_of_none (s3 _ _ g2) hta).symm,ne_of_none w4 hll,(ne_of_none (s4 _ _ (s3 _ _ (s2 _ _ g1))) hba).symm,(ne_of_none (s4 _ _ (s3 _ _ g2)) hba).symm,ne_of_none w5 hll,⟨[],s7 _ _ w4,.nil⟩,⟨[],s7 _ _ w5,.nil⟩⟩,
  ne_of_none g1 hlt,ne_of_none w1 hll,ne_of_none w2 hll,hlp,s1.free hlt,Same.free (H':=H6) (fun b u e=>s6 b u e) hll,hdeH⟩
 refine ⟨_,rfl,_,rfl,_,_,rfl,rfl,a,ns,at0 + 1,rfl,I0.sm.seq hS,h63,fun more H8 s8 _=>?_⟩
 have I8:=I0.same s8
 refine ⟨_,rfl,_,rfl,a,ns,at0,rfl,I8.sm.seq hS,h63,fun c0 H9 s9 _=>?_⟩
 have I9:=I8.same s9
 have hm1:(0:Int) < (most:Int) + 1:=by omega
 have b0 : 0<=c0 % ((most:Int) + 1):=Int.emod_nonneg _ (by omega)
 have b1:c0 % ((most:Int) + 1) < (most:Int) + 1:=Int.emod_lt_of_pos _ hm1
 refine ⟨_,rfl,_,_,rfl,rfl,_,_,rfl,rfl,hm1,c0 % ((most:Int) + 1),rfl,by omega,by omega,?_⟩
 clear I0 I8 s8 s9
 generalize hn:(c0 % ((most:Int) + 1)).toNat = n
 have hn24:n<=most:=by omega
 refine for_range (n:=n) (fun i σ H'=>∃ (S:FS) (v9 v10 v11 v12 v13:Option V),σ = [some (.ref a),some (.int (at0:Nat)),some (.ref pa),some (.int (most:Nat)),some (.ref lp),some (.ref lt),some (.ref de),some (.ref ll),some (.int more),v9,v10,v11,v12,v13]/\FI H H' lp lt ll de S/\FM i S)
  ⟨⟨[],[],[],[],[]⟩,_,_,_,_,_,rfl,I9,FM.zero⟩ ?_ ?_
 ·rintro i σ H1 hi ⟨S,v9,v10,v11,v12,v13,rfl,I1,M1⟩
  have hi':i < n:=hi
  refine ⟨_,rfl,_,rfl,_,rfl,_,rfl,_,_,rfl,rfl,a,ns,at0 + 2,rfl,I1.sm.seq hS,h63,fun c2 H2 s2 _=>?_⟩
  have I2:=I1.same s2
  refine ⟨_,_,rfl,rfl,.inl ⟨by omega,by omega⟩,_,_,rfl,rfl,_,rfl,_,_,rfl,?_⟩
  generalize mixF (more + ((0:Int) + (i:Int)) * c2) ((0:Int) + (i:Int)) = mm
  refine ⟨(by show 8<=sizeLine; decide),fun l8 hl8=>?_⟩
  have s3:=same_new hl8 (.lst [.str "both",.str "seat",.str "both",.str "tag",.str "tag",.str "tail",.str "bag",.str "both"])
  have g3:upd H2 l8 (.lst [.str "both",.str "seat",.str "both",.str "tag",.str "tag",.str "tail",.str "bag",.str "both"]) l8 = some (.lst [.str "both",.str "seat",.str "both",.str "tag",.str "tag",.str "tail",.str "bag",.str "both"]):=upd_same
  generalize upd H2 l8 (.lst [.str "both",.str "seat",.str "both",.str "tag",.str "tag",.str "tail",.str "bag",.str "both"]) = H3 at s3 g3 |-
  have I3:=I2.same s3
  have e0 : 0<=mm % 8:=Int.emod_nonneg _ (by decide)
  have e1:mm % 8 < 8:=Int.emod_lt_of_pos _ (by decide)
  obtain ⟨d,hd⟩:=Int.eq_ofNat_of_zero_le e0
  have hk0:=kd8_lt d
  refine ⟨_,rfl,_,_,rfl,rfl,(by show (0:Int) < 8; decide),l8,_,_,.str (kw (kd8 d)),rfl,rfl,SqL.of g3,(by rw [hd]; exact kd8_at d (by omega)),?_⟩
  obtain ⟨dd,hdd,hd0,hd24⟩:∃ dd:Int,dd = (if (most:Int) - 2 < 24 then (most:Int) - 2 else 24)/\0 < dd/\dd<=24:=⟨_,rfl,by split <;> omega,by split <;> omega⟩
  have f0 : 0<=mm / 8 % dd:=Int.emod_nonneg _ (by omega)
  have f1:mm / 8 % dd < dd:=Int.emod_lt_of_pos _ hd0
  obtain ⟨j,hj⟩:=Int.eq_ofNat_of_zero_le f0
  have hj26:j < 26:=by omega
  have hpa3:=I3.sm _ _ hpa
  refine ⟨_,rfl,_,rfl,_,_,rfl,rfl,⟨by decide,by decide⟩,_,rfl,_,_,rfl,rfl,_,_,rfl,_,_,rfl,rfl,(by rw [<- hdd]; exact hd0),pa,_,_,.str (poolN c j),rfl,rfl,SqL.of hpa3,(by rw [<- hdd,hj]; exact atI_nat (by rw [List.getElem?_map,poolL_get hj26]; rfl)),?_⟩
  have hz:=pool_name c j
  generalize poolN c j = z at hz |-
  generalize kd8 d = k0 at hk0 |-
  clear e0 e1 hd f0 f1 hj hd0 hd24 hdd hj26 s2 s3 g3 hl8 I1 I2
  try dsimp only
  refine seq_via (fun σ' H'=>∃ k:Nat,k < 5/\σ' = [some (.ref a),some (.int (at0:Nat)),some (.ref pa),some (.int (most:Nat)),some (.ref lp),some (.ref lt),some (.ref de),some (.ref ll),some (.int more),some (.int ((0:Int) + (i:Int))),some (.int mm),some (.str (kw k)),some (.str z),v13]/\FI H H' lp lt ll de S/\(byNm k = true->z ∉ S.L)) ?_ (fun key=>?_)
  rotate_left
  ·refine ⟨_,rfl,(by show 2<=sizeLine; decide),fun l hl=>?_⟩
   have s4:=same_new hl (.lst [.str "both",.str "tag"])
   refine ⟨l,_,rfl,.inl (SqL.of upd_same),rfl,rfl,_,rfl,?_⟩
   generalize upd H3 l (.lst [.str "both",.str "tag"]) = H4 at s4 |-
   have I4:=I3.same s4
   cases en:byNm k0 with
   | false=>
    refine iteC (show inV (.str (kw k0)) [.str "both",.str "tag"] = false from (in_nm k0 hk0).trans en) ?_
    refine iteF ?_
    exact key _ _ ⟨k0,hk0,rfl,I4,fun e=>by rw [en] at e; cases e⟩
   | true=>
    refine iteB (show inV (.str (kw k0)) [.str "both",.str "tag"] = true from (in_nm k0 hk0).trans en) ?_
    refine ⟨_,rfl,_,rfl,ll,_,rfl,.inl (SqL.of I4.hl),rfl,flatStrs,_,rfl,?_⟩
    by_cases hz1:z ∈ S.L
    ·refine iteB (inStrs.trans (decide_eq_true hz1)) ?_
     exact key _ _ ⟨0,by decide,rfl,I4,fun e=>by cases e⟩
    ·refine iteC (inStrs.trans (decide_eq_false hz1)) ?_
     exact key _ _ ⟨k0,hk0,rfl,I4,fun _=>hz1⟩
  clear I3
  rintro σ4 H4 ⟨k,hk,rfl,I4,hn4⟩
  try dsimp only
  refine seq_via (fun σ' H'=>σ' = [some (.ref a),some (.int (at0:Nat)),some (.ref pa),some (.int (most:Nat)),some (.ref lp),some (.ref lt),some (.ref de),some (.ref ll),some (.int more),some (.int ((0:Int) + (i:Int))),some (.int mm),some (.str (kw k)),some (.str z),v13]/\FI H H' lp lt ll de (if byNm k = true then { S with L:=S.L ++ [z] } else S)) ?_ (fun key=>?_)
  rotate_left
  ·refine ⟨_,rfl,(by show 2<=sizeLine; decide),fun l hl=>?_⟩
   have s5:=same_new hl (.lst [.str "both",.str "tag"])
   refine ⟨l,_,rfl,.inl (SqL.of upd_same),rfl,rfl,_,rfl,?_⟩
   generalize upd H4 l (.lst [.str "both",.str "tag"]) = H5 at s5 |-
   have I5:=I4.same s5
   cases en:byNm k with
   | false=>
    refine iteC (show inV (.str (kw k)) [.str "both",.str "tag"] = false from (in_nm k hk).trans en) ?_
    exact key _ _ ⟨rfl,by rw [en,if_neg Bool.false_ne_true]; exact I5⟩
   | true=>
    refine iteB (show inV (.str (kw k)) [.str "both",.str "tag"] = true from (in_nm k hk).trans en) ?_
    have lL:=M1.lL
    refine ⟨_,rfl,.inl ⟨rfl,_,SqL.of I5.hl⟩,_,rfl,ll,_,_,rfl,rfl,I5.hl,small1000 (by rw [List.length_map]; omega),?_⟩
    exact key _ _ ⟨rfl,by rw [en,if_pos rfl]; exact I5.addL⟩
  clear I4
  rintro σ5 H5 ⟨rfl,I5⟩
  have lP:S.P.length<=24:=by have:=M1.ln; omega
  have lG:S.G.length<=24:=by have:=M1.ln; omega
  have nextM:=fun b=>M1.add (b:=b) hk hz hn4
  rcases lt5 hk with rfl | rfl | rfl | rfl | rfl
  ·have I5:FI H H5 lp lt ll de S:=I5
   refine ⟨_,rfl,rfl,_,rfl,?_⟩
   refine dF (by decide +kernel) ?_
   refine ⟨_,rfl,(by show 2<=sizeLine; decide),fun l hl=>?_⟩
   have s6:=same_new hl (.lst [.str "tail",.str "bag"])
   refine ⟨l,_,rfl,.inl (SqL.of upd_same),rfl,rfl,_,rfl,?_⟩
   generalize upd H5 l (.lst [.str "tail",.str "bag"]) = H6 at s6 |-
   have I6:=I5.same s6
   refine iteC (by decide +kernel) ?_
   obtain ⟨us,h1,h2⟩:=I6.hp
   have hlu:us.length<=24:=by rw [h2.length]; exact lP
   refine ⟨_,rfl,.inl ⟨rfl,_,SqL.of h1⟩,_,rfl,_,rfl,_,rfl,_,_,rfl,rfl,⟨by decide,by decide⟩,_,_,rfl,rfl,(by show (0:Int) < 2; decide),rfl,(by show 3<=sizeLine; decide),fun u hu=>?_⟩
   generalize decide (V.int (mm / 200 % 2) = V.int 1) = fb
   have s7:=same_new hu (.tup [.str "seat",.str z,.bl fb])
   have tu:TAt (upd H6 u (.tup [.str "seat",.str z,.bl fb])) u ⟨0,z,fb⟩:=upd_same
   refine ⟨lp,_,_,rfl,rfl,s7 _ _ h1,small1000 (by rw [List.length_map]; omega),?_⟩
   exact ⟨S.add 0 z fb,_,_,_,_,_,rfl,(I6.same s7).addP (s7 _ _ h1) (tats_same s7 h2) tu,nextM fb⟩
  ·have I5:FI H H5 lp lt ll de { S with L:=S.L ++ [z] }:=I5
   refine ⟨_,rfl,rfl,_,rfl,?_⟩
   refine dF (by decide +kernel) ?_
   refine ⟨_,rfl,(by show 2<=sizeLine; decide),fun l hl=>?_⟩
   have s6:=same_new hl (.lst [.str "tail",.str "bag"])
   refine ⟨l,_,rfl,.inl (SqL.of upd_same),rfl,rfl,_,rfl,?_⟩
   generalize upd H5 l (.lst [.str "tail",.str "bag"]) = H6 at s6 |-
   have I6:=I5.same s6
   refine iteC (by decide +kernel) ?_
   obtain ⟨us,h1,h2⟩:=I6.hp
   have hlu:us.length<=24:=by rw [h2.length]; exact lP
   refine ⟨_,rfl,.inl ⟨rfl,_,SqL.of h1⟩,_,rfl,_,rfl,_,rfl,_,_,rfl,rfl,⟨by decide,by decide⟩,_,_,rfl,rfl,(by show (0:Int) < 2; decide),rfl,(by show 3<=sizeLine; decide),fun u hu=>?_⟩
   generalize decide (V.int (mm / 200 % 2) = V.int 1) = fb
   have s7:=same_new hu (.tup [.str "both",.str z,.bl fb])
   have tu:TAt (upd H6 u (.tup [.str "both",.str z,.bl fb])) u ⟨1,z,fb⟩:=upd_same
   refine ⟨lp,_,_,rfl,rfl,s7 _ _ h1,small1000 (by rw [List.length_map]; omega),?_⟩
   exact ⟨S.add 1 z fb,_,_,_,_,_,rfl,(I6.same s7).addP (s7 _ _ h1) (tats_same s7 h2) tu,nextM fb⟩
  ·have I5:FI H H5 lp lt ll de S:=I5
   refine ⟨_,rfl,rfl,_,rfl,?_⟩
   refine dF (by decide +kernel) ?_
   refine ⟨_,rfl,(by show 2<=sizeLine; decide),fun l hl=>?_⟩
   have s6:=same_new hl (.lst [.str "tail",.str "bag"])
   refine ⟨l,_,rfl,.inl (SqL.of upd_same),rfl,rfl,_,rfl,?_⟩
   generalize upd H5 l (.lst [.str "tail",.str "bag"]) = H6 at s6 |-
   have I6:=I5.same s6
   refine iteB (by decide +kernel) ?_
   refine ⟨_,rfl,_,rfl,(by show 2<=sizeLine; decide),fun u hu=>?_⟩
   have s7:=same_new hu (.tup [.str "tail",.str z])
   have tu:TAt (upd H6 u (.tup [.str "tail",.str z])) u ⟨2,z,true⟩:=upd_same
   refine ⟨(by show 1<=sizeLine; decide),fun ln hln=>?_⟩
   have s8:=same_new hln (.lst [.ref u])
   have I8:=I6.same (s7.trans s8)
   obtain ⟨ta',ba',e1,e2,e3,e4,e5,e6,e7,e8,e9⟩:=I8.he
   obtain ⟨us1,p1,_⟩:=(I6.same s7).hp
   obtain ⟨us2,p2,_⟩:=(I6.same s7).ht
   have p3:=(I6.same s7).hl
   refine ⟨_,rfl,_,rfl,de,_,rfl,DPut.k (k:=Sum.inr "tail") e1 (by show 2 < sizeLine; decide),?_⟩
   have hnew:LsAt (upd (upd H6 u (.tup [.str "tail",.str z])) ln (.lst [.ref u])) ln [⟨2,z,true⟩]:=⟨[u],upd_same,.cons (tu.same s8) .nil⟩
   rw [ends_T]
   exact ⟨S.add 2 z true,_,_,_,_,_,rfl,I8.set (S':=S.add 2 z true) rfl rfl rfl ⟨(ne_of_none p1 hln).symm,(ne_of_none p2 hln).symm,(ne_of_none p3 hln).symm,e5,e6,e7⟩ hnew e9,nextM true⟩
  ·have I5:FI H H5 lp lt ll de { S with L:=S.L ++ [z] }:=I5
   refine ⟨_,rfl,rfl,_,rfl,?_⟩
   refine dT rfl ?_
   have I6:=I5
   have H6:=H5
   obtain ⟨us,h1,h2⟩:=I6.ht
   have hlu:us.length<=24:=by rw [h2.length]; exact lG
   refine ⟨_,rfl,.inl ⟨rfl,_,SqL.of h1⟩,_,rfl,_,rfl,_,_,rfl,rfl,⟨by decide,by decide⟩,_,_,rfl,rfl,(by show (0:Int) < 2; decide),rfl,(by show 3<=sizeLine; decide),fun u hu=>?_⟩
   generalize decide (V.int (mm / 200 % 2) = V.int 1) = fb
   have s7:=same_new hu (.tup [.str "tag",.str z,.bl fb])
   have tu:TAt (upd H5 u (.tup [.str "tag",.str z,.bl fb])) u ⟨3,z,fb⟩:=upd_same
   refine ⟨lt,_,_,rfl,rfl,s7 _ _ h1,small1000 (by rw [List.length_map]; omega),?_⟩
   exact ⟨S.add 3 z fb,_,_,_,_,_,rfl,(I6.same s7).addG (s7 _ _ h1) (tats_same s7 h2) tu,nextM fb⟩
  ·have I5:FI H H5 lp lt ll de S:=I5
   refine ⟨_,rfl,rfl,_,rfl,?_⟩
   refine dF (by decide +kernel) ?_
   refine ⟨_,rfl,(by show 2<=sizeLine; decide),fun l hl=>?_⟩
   have s6:=same_new hl (.lst [.str "tail",.str "bag"])
   refine ⟨l,_,rfl,.inl (SqL.of upd_same),rfl,rfl,_,rfl,?_⟩
   generalize upd H5 l (.lst [.str "tail",.str "bag"]) = H6 at s6 |-
   have I6:=I5.same s6
   refine iteB (by decide +kernel) ?_
   refine ⟨_,rfl,_,rfl,(by show 2<=sizeLine; decide),fun u hu=>?_⟩
   have s7:=same_new hu (.tup [.str "bag",.str z])
   have tu:TAt (upd H6 u (.tup [.str "bag",.str z])) u ⟨4,z,true⟩:=upd_same
   refine ⟨(by show 1<=sizeLine; decide),fun ln hln=>?_⟩
   have s8:=same_new hln (.lst [.ref u])
   have I8:=I6.same (s7.trans s8)
   obtain ⟨ta',ba',e1,e2,e3,e4,e5,e6,e7,e8,e9⟩:=I8.he
   obtain ⟨us1,p1,_⟩:=(I6.same s7).hp
   obtain ⟨us2,p2,_⟩:=(I6.same s7).ht
   have p3:=(I6.same s7).hl
   refine ⟨_,rfl,_,rfl,de,_,rfl,DPut.k (k:=Sum.inr "bag") e1 (by show 2 < sizeLine; decide),?_⟩
   have hnew:LsAt (upd (upd H6 u (.tup [.str "bag",.str z])) ln (.lst [.ref u])) ln [⟨4,z,true⟩]:=⟨[u],upd_same,.cons (tu.same s8) .nil⟩
   rw [ends_B]
   exact ⟨S.add 4 z true,_,_,_,_,_,rfl,I8.set (S':=S.add 4 z true) rfl rfl rfl ⟨e2,e3,e4,(ne_of_none p1 hln).symm,(ne_of_none p2 hln).symm,(ne_of_none p3 hln).symm⟩ e8 hnew,nextM true⟩
 ·rintro σ H1 ⟨S,v9,v10,v11,v12,v13,rfl,I1,M1⟩
  have hpa1:=I1.sm _ _ hpa
  refine ⟨_,rfl,pa,rfl,⟨_,SqL.of hpa1⟩,fun D hD=>?_⟩
  refine lc_sele (K:=K) (xs:=(poolL c).map V.str) ((List.range 26).map fun k=>(k,poolN c k)) (fun p=>decide (p.2 ∉ S.L) && decide (mixF more ((p.1:Int) + 30) % 6 = 0)) (fun p=>V.str p.2) hD (SqL.of hpa1) (by rw [List.length_map,poolL_len,List.length_map,List.length_range]) (by rw [List.length_map,poolL_len]; decide) ?_ ?_
  ·rintro k x y p H2 N Sk hx hy hp sH qN qS
   obtain ⟨z,hz,rfl⟩:=strs_at hx
   obtain ⟨hk,rfl⟩:=poolL_at hz
   rw [List.getElem?_map,List.getElem?_range hk] at hy
   cases hy
   have sp:=same_new hp (.tup [.int (k:Nat),.str (poolN c k)])
   refine ⟨p,_,rfl,SqT.of upd_same,rfl,_,_,rfl,_,_,rfl,rfl,?_⟩
   have I3:=(I1.same sH).same sp
   generalize upd H2 p (.tup [.int (k:Nat),.str (poolN c k)]) = H3 at sp I3 |-
   refine ⟨_,rfl,_,rfl,ll,_,rfl,.inl (SqL.of I3.hl),rfl,flatStrs,_,rfl,?_⟩
   by_cases hz1:poolN c k ∈ S.L
   ·refine iteC (by rw [if_pos rfl,inStrs,decide_eq_true hz1]; rfl) ?_
    refine ⟨fun e=>Bool.noConfusion e,fun _=>qS _ sp ?_⟩
    show (decide (poolN c k ∉ S.L) && _) = false
    rw [decide_eq_false (fun h=>h hz1)]
    rfl
   ·refine iteB (by rw [if_pos rfl,inStrs,decide_eq_false hz1]; rfl) ?_
    refine ⟨_,rfl,_,rfl,_,_,rfl,rfl,_,_,rfl,_,_,rfl,rfl,(by show (0:Int) < 6; decide),rfl,_,rfl,?_⟩
    refine ⟨fun e=>⟨_,rfl,qN _ sp ?_⟩,fun e=>qS _ sp ?_⟩
    ·show (decide (poolN c k ∉ S.L) && decide (mixF more ((k:Int) + 30) % 6 = 0)) = true
     rw [decide_eq_true hz1,Bool.true_and]
     exact decide_eq_true (V.int.inj (of_decide_eq_true e))
    ·show (decide (poolN c k ∉ S.L) && decide (mixF more ((k:Int) + 30) % 6 = 0)) = false
     rw [decide_eq_true hz1,Bool.true_and]
     exact decide_eq_false fun h=>of_decide_eq_false e (congrArg V.int h)
  ·intro H2 s2 hDv
   obtain ⟨bars,hbars⟩:∃ bars:List Str,bars = ((((List.range 26).map fun k=>(k,poolN c k)).filter (fun p=>decide (p.2 ∉ S.L) && decide (mixF more ((p.1:Int) + 30) % 6 = 0))).map (·.2)):=⟨_,rfl⟩
   have hDv:H2 D = some (.lst (bars.map V.str)):=by rw [hDv,hbars,List.map_map]; rfl
   have sub:List.Sublist bars (poolL c):=by
    rw [hbars]
    have:=(List.filter_sublist (l:=(List.range 26).map fun k=>(k,poolN c k)) (p:=fun p=>decide (p.2 ∉ S.L) && decide (mixF more ((p.1:Int) + 30) % 6 = 0))).map (·.2)
    rw [List.map_map] at this
    exact this
   have lb:bars.length<=60:=by
    have:=sub.length_le
    rw [poolL_len] at this
    omega
   have V1:Valid S.rows bars:=M1.valid (by omega) lb (fun z hz=>poolL_name (sub.subset hz)) ((poolL_nd c).sublist sub) (fun z hz=>by
    rw [hbars] at hz
    obtain ⟨p,hp,rfl⟩:=List.mem_map.mp hz
    have:=(List.mem_filter.mp hp).2
    rw [Bool.and_eq_true] at this
    exact of_decide_eq_true this.1)
   clear hbars
   have I2:=I1.same s2
   obtain ⟨us1,h11,h12⟩:=I2.hp
   obtain ⟨us3,h31,h32⟩:=I2.ht
   obtain ⟨ta',ba',e1,e2,e3,e4,e5,e6,e7,⟨us2,h21,h22⟩,⟨us4,h41,h42⟩⟩:=I2.he
   have lP:=M1.ln
   have l1:us1.length = S.P.length:=h12.length
   have l2:us2.length = S.T.length:=h22.length
   have l3:us3.length = S.G.length:=h32.length
   have l4:us4.length = S.B.length:=h42.length
   refine ⟨_,rfl,_,rfl,de,.ref ta',rfl,.inl ⟨_,.inr "tail",.inl e1,rfl,(ends_vT ta' ba').symm⟩,lp,ta',_,_,rfl,rfl,h11,h21,le1000 (by rw [List.length_map,List.length_map]; omega),fun x1 hx1=>?_⟩
   rw [<- List.map_append]
   have s3:=same_new hx1 (.lst ((us1 ++ us2).map V.ref))
   have g3:upd H2 x1 (.lst ((us1 ++ us2).map V.ref)) x1 = some (.lst ((us1 ++ us2).map V.ref)):=upd_same
   generalize upd H2 x1 (.lst ((us1 ++ us2).map V.ref)) = H3 at s3 g3 |-
   refine ⟨_,rfl,x1,lt,_,_,rfl,rfl,g3,s3 _ _ h31,le1000 (by rw [List.length_map,List.length_map,List.length_append]; omega),fun x2 hx2=>?_⟩
   rw [<- List.map_append]
   have s4:=same_new hx2 (.lst ((us1 ++ us2 ++ us3).map V.ref))
   have g4:upd H3 x2 (.lst ((us1 ++ us2 ++ us3).map V.ref)) x2 = some (.lst ((us1 ++ us2 ++ us3).map V.ref)):=upd_same
   generalize upd H3 x2 (.lst ((us1 ++ us2 ++ us3).map V.ref)) = H4 at s4 g4 |-
   have s24:=s3.trans s4
   refine ⟨_,rfl,de,.ref ba',rfl,.inl ⟨_,.inr "bag",.inl (s24 _ _ e1),rfl,(ends_vB ta' ba').symm⟩,x2,ba',_,_,rfl,rfl,g4,s24 _ _ h41,le1000 (by rw [List.length_map,List.length_map,List.length_append,List.length_append]; omega),fun x3 hx3=>?_⟩
   rw [<- List.map_append]
   have s5:=same_new hx3 (.lst ((us1 ++ us2 ++ us3 ++ us4).map V.ref))
   have g5:upd H4 x3 (.lst ((us1 ++ us2 ++ us3 ++ us4).map V.ref)) x3 = some (.lst ((us1 ++ us2 ++ us3 ++ us4).map V.ref)):=upd_same
   generalize upd H4 x3 (.lst ((us1 ++ us2 ++ us3 ++ us4).map V.ref)) = H5 at s5 g5 |-
   have s25:=s24.trans s5
   refine ⟨_,rfl,(by show 2<=sizeLine; decide),fun t ht=>?_⟩
   have s6:=same_new ht (.tup [.ref x3,.ref D])
   have s26:=s25.trans s6
   exact q t x3 D _ S.rows bars _ (I2.sm.trans s26) upd_same (s6 _ _ g5) (tats_same s26 (paired_app (paired_app (paired_app h12 h22) h32) h42)) (s26 _ _ hDv) V1
end
section
variable {K:PySem.W.Frag} {c:C5}
theorem TAt.upd {H:Hp} {v D:Addr} {r:Rw} {ys:List V} {o:HO} (h:TAt H v r) (hD:H D = some (.lst ys)):TAt (upd H D o) v r:=by
 show L2.upd H D o v = _
 rw [upd_ne (fun e=>by rw [e] at h; rw [TAt,hD] at h; cases h)]
 exact h
theorem PAt.upd {c:C5} {H:Hp} {v D:Addr} {r:Rw} {ys:List V} {o:HO} (h:PAt c H v r) (hD:H D = some (.lst ys)):PAt c (upd H D o) v r:=by
 obtain ⟨dx,h⟩:=h
 refine ⟨dx,?_⟩
 rw [upd_ne (fun e=>by rw [e,hD] at h; cases h)]
 exact h
end
section
variable {K:PySem.W.Frag} {ok:Addr->Prop} {H:Hp} {n:Nat}
end
theorem ndOn:([Str.ofString "_law_one"]:List Str).Nodup:=by decide +kernel
end K54
namespace L2
open PySem PySem.Spec PyProof.Rows
end L2
namespace K54
open PySem L2 PyProof.Rows
theorem cut_takeN {xs:List V} {n:Nat}:cutV xs none (some (n:Int)) = xs.take n:=by
 unfold cutV
 rw [HT.sIx_nat,HT.sIx_none,List.drop_zero,Nat.sub_zero]
 by_cases h:n<=xs.length
 ·rw [Nat.min_eq_left h]
 ·rw [Nat.min_eq_right (by omega),List.take_of_length_le (Nat.le_refl _),List.take_of_length_le (by omega)]
theorem pairedTake {α β : Type} {R : α->β->Prop} {a:List α} {c:List β} (h:Paired R a c):∀ n,Paired R (a.take n) (c.take n):=by
 induction h with
 | nil=>intro n; rw [List.take_nil,List.take_nil]; exact .nil
 | cons r _ ih=>
  intro n
  cases n with
  | zero=>exact .nil
  | succ n=>exact .cons r (ih n)
theorem cut_dropN {xs:List V} {n:Nat}:cutV xs (some (n:Int)) none = xs.drop n:=by
 unfold cutV
 rw [HT.sIx_nat,HT.sIx_none]
 by_cases h:n<=xs.length
 ·rw [Nat.min_eq_left h]
  exact List.take_of_length_le (by rw [List.length_drop]; exact Nat.le_refl _)
 ·rw [Nat.min_eq_right (by omega),List.drop_of_length_le (Nat.le_refl _),List.drop_of_length_le (by omega)]
  simp
end K54
namespace L2
open PySem PySem.Spec PyProof.Rows PySem.Builtin
section
variable {prog:Program} {w:World} {A:Around} {E:Value->Shared->Prop} {s:Shared} {it l ea C t:Addr} {od:Option Addr} {tb:Value} {i:Nat} {items:Array Value} {Q:Option Value->Shared->Prop}
end
section
variable {prog:Program} {w:World} {A:Around} {E:Value->Shared->Prop} {s:Shared} {ea C tt:Addr} {od:Option Addr} {tb:Value}
end
end L2
namespace L2
open PySem PySem.Spec PyProof.Rows
section
variable {X:Cx} {tg:Expr}
end
theorem zip_sel {α : Type} {R:Addr->α->Prop} {us:List Addr} {rows:List α} (h:Paired R us rows) (keep : α->Bool):∃ vs:List Addr,((us.zip rows).filter fun p=>keep p.2).map (fun p=>V.ref p.1) = vs.map V.ref/\Paired R vs (rows.filter keep):=by
 induction h with
 | nil=>exact ⟨[],rfl,.nil⟩
 | cons r t ih=>
  rename_i u y us ys
  obtain ⟨vs,e,p⟩:=ih
  rw [List.zip_cons_cons,List.filter_cons,List.filter_cons]
  cases hk:keep y with
  | true=>
   refine ⟨u :: vs,?_,?_⟩
   ·rw [if_pos rfl,List.map_cons,e]
    rfl
   ·rw [if_pos rfl]
    exact .cons r p
  | false=>exact ⟨vs,by rw [if_neg Bool.false_ne_true,e],by rw [if_neg Bool.false_ne_true]; exact p⟩
theorem zip_out {α : Type} {R:Addr->α->Prop} {us:List Addr} {rows:List α} (h:Paired R us rows) (keep : α->Bool) (out : α->V):((us.zip rows).filter fun p=>keep p.2).map (fun p=>out p.2) = (rows.filter keep).map out:=by
 induction h with
 | nil=>rfl
 | cons r t ih=>
  rename_i u y us ys
  rw [List.zip_cons_cons,List.filter_cons,List.filter_cons]
  cases hk:keep y with
  | true=>rw [if_pos rfl,if_pos rfl,List.map_cons,List.map_cons,ih]
  | false=>rw [if_neg Bool.false_ne_true,if_neg Bool.false_ne_true,ih]
theorem lc_zip {α : Type} {K:PySem.W.Frag} {a:Addr} {us:List Addr} {rows:List α} {caps:List (Option Nat)} {g:TG} {tt:TT} {te:TE} {σ : L2.St} {H1:Hp} {Q:VK} {D:Addr} (R:Hp->Addr->α->Prop) (keep : α->Bool) (out:Addr->α->V) (hD:H1 D = none) (ha:H1 a = some (.lst (us.map V.ref))) (hu:Paired (R H1) us rows) (hn:rows.length<=1000)
  (hs:∀ (i:Nat) (u:Addr) (y : α) (H:Hp) (N:VK) (S:Hp->Prop),us[i]? = some u->rows[i]? = some y->R H1 u y->Same H1 H->(∀ H',Same H H'->keep y = true->N (out u y) H')->(∀ H',Same H H'->keep y = false->S H')->g (.ref u) (capS caps σ) H fun σ2 H2=>tt σ2 H2 fun ok H3=>(ok = true->te σ2 H3 N)/\(ok = false->S H3))
  (hd:∀ H,Same H1 H->H D = some (.lst (((us.zip rows).filter fun p=>keep p.2).map fun p=>out p.1 p.2))->Q (.ref D) H):LCr (Itl K a) caps g tt te σ H1 Q D:=by
 have hl:us.length = rows.length:=hu.length
 have lz:(us.zip rows).length = rows.length:=by rw [List.length_zip,hl,Nat.min_self]
 refine lc_sel (K:=K) (xs:=us.map V.ref) (us.zip rows) (fun p=>keep p.2) (fun p=>out p.1 p.2) hD (SqL.of ha) (by rw [List.length_map,lz,hl]) (by rw [List.length_map,hl]; exact hn) (fun i x y H N S hx hy sH n1 s1=>?_) hd
 have hi:i < rows.length:=by rw [<- lz]; exact (List.getElem?_eq_some_iff.mp hy).1
 have e1:(us.zip rows)[i]? = some (us[i],rows[i]):=by
  rw [List.getElem?_eq_getElem (by omega),List.getElem_zip]
 rw [e1] at hy
 cases hy
 have hu1:us[i]? = some us[i]:=List.getElem?_eq_getElem (by omega)
 rw [List.getElem?_map,hu1] at hx
 cases hx
 obtain ⟨d,hd',hr⟩:=Paired.get hu hu1
 have e2:rows[i]? = some rows[i]:=List.getElem?_eq_getElem hi
 rw [e2] at hd'
 cases hd'
 exact hs i us[i] rows[i] H N S hu1 e2 hr sH n1 s1
section
variable {X:Cx} {pins:List (Addr × Obj)} {σ : St} {e o:Expr} {es:List Expr} {ta:TE} {t:TA} {E:XK} {m:Str} {pos apos:Pos} {k:Nat} {f C:Addr} {fd:FuncData} {ps:List Str} {sp:Sp}
end
section
variable {X:Cx} {elts:List Expr} {x1:Nat} {tpos:Pos}
end
theorem wpAny_pyHash_bool {prog:Program} {w:World} {A:Around} {E:Value->Shared->Prop} {s:Shared} {b:Bool} {Q:Int->Shared->Prop} (h:Q (hashInt (if b then 1 else 0)) { s with toks:=s.toks + 1 }) :
  wpAny (model prog w) A (pyHash (.bool b)) Q E s:=by
 have hr:=rawHash_range (if b then 1 else 0)
 have hT:s.TypeIs (.bool b) "bool":=rfl
 unfold pyHash
 have hv:[Value.bool b].any Value.onHeap = false:=rfl
 refine wpAny_bind ?_
 rw [cRoomFor,if_neg (by rw [hv]; exact Bool.false_ne_true)]; refine wpAny_pure ?_
 refine wpAny_bind (wpAny_specialOf hT PySem.F.slot_bool_hash.lookup ?_)
 show wpAny _ _ (if (some (Value.builtin "int.__hash__") == some Value.none) = true then _ else _) Q E s
 rw [if_neg (by rw [beq_builtin_none]; exact Bool.false_ne_true)]
 refine wpAny_bind (wpAny_specialOf hT PySem.F.slot_bool_hash.lookup ?_)
 show wpAny _ _ (callSpecialIfBoundUnlessNone? (.bool b) "__hash__" _ >>= _) Q E s
 refine wpAny_bind (wpAny_callSpecialIfBoundUnlessNone?_slot hT PySem.F.slot_bool_hash
  (wpAny_call_entry PySem.F.slot_bool_hash hT entry_int_hash
   (show wpAny _ _ (do ret (<- mkInt (rawHash (if b then 1 else 0)))) _ _ s from wpAny_ret_mkInt ?_) (args_int_hash _)))
 show wpAny _ _ (if (decide (-(2:Int) ^ 63<=rawHash (if b then 1 else 0)) && decide (rawHash (if b then 1 else 0) < 2 ^ 63)) = true then _ else _) Q E _
 rw [if_pos (by rw [decide_eq_true hr.1,decide_eq_true hr.2]; rfl)]
 exact wpAny_pure h
abbrev SB:=Str ⊕ Bool
def sbV:SB->V
 | .inl x=>.str x
 | .inr b=>.bl b
def sbIs:SB->Value->Bool
 | .inl x,.str y _=>y == x
 | .inr b,.bool c=>c == b
 | _,_=>false
theorem sbIs_shape {k:SB} {v:Value} (h:sbIs k v = true):(∃ x t,k = .inl x/\v = .str x t)\/∃ b,k = .inr b/\v = .bool b:=by
 cases k with
 | inl x=>
  cases v with
  | str y t=>
   have h':(y == x) = true:=h
   exact .inl ⟨x,t,rfl,by rw [eq_of_beq h']⟩
  | _=>cases h
 | inr b=>
  cases v with
  | bool c=>
   have h':(c == b) = true:=h
   exact .inr ⟨b,rfl,by rw [eq_of_beq h']⟩
  | _=>cases h
def sbH (w:World):SB->Int
 | .inl x=>hashStr w x
 | .inr b=>hashInt (if b then 1 else 0)
def sbKind (prog:Program) (w:World):PySem.KeyKind prog w SB where
 is:=sbIs
 hash:=sbH w
 inj:=fun v a b ha hb=>by
  rcases sbIs_shape ha with ⟨x,t,rfl,rfl⟩ | ⟨c,rfl,rfl⟩
  ·rcases sbIs_shape hb with ⟨y,u,rfl,e⟩ | ⟨d,rfl,e⟩
   ·injection e with e1 _; rw [e1]
   ·exact nomatch e
  ·rcases sbIs_shape hb with ⟨y,u,rfl,e⟩ | ⟨d,rfl,e⟩
   ·exact nomatch e
   ·injection e with e1; rw [e1]
 byValue:=fun k v h=>by
  rcases sbIs_shape h with ⟨x,t,rfl,rfl⟩ | ⟨b,rfl,rfl⟩ <;> rfl
 pyHash:=fun hv h=>by
  rcases sbIs_shape hv with ⟨x,t,rfl,rfl⟩ | ⟨b,rfl,rfl⟩
  ·exact wpAny_pyHash_str h
  ·exact wpAny_pyHash_bool h
 eqBool:=fun hu hv h=>by
  rcases sbIs_shape hu with ⟨x,t,rfl,rfl⟩ | ⟨b,rfl,rfl⟩
  ·rcases sbIs_shape hv with ⟨y,u,rfl,rfl⟩ | ⟨d,rfl,rfl⟩
   ·refine wpAny_eqBool_str ?_
    have e:decide ((Sum.inl x:SB) = Sum.inl y) = decide (x = y):=by simp
    rwa [e] at h
   ·refine SeqAt.EqAt.str_bool x t d _ _ _ _ ?_
    have e:decide ((Sum.inl x:SB) = Sum.inr d) = false:=decide_eq_false (fun q=>nomatch q)
    rwa [e] at h
  ·rcases sbIs_shape hv with ⟨y,u,rfl,rfl⟩ | ⟨d,rfl,rfl⟩
   ·refine SeqAt.EqAt.bool_str b y u _ _ _ _ ?_
    have e:decide ((Sum.inr b:SB) = Sum.inl y) = false:=decide_eq_false (fun q=>nomatch q)
    rwa [e] at h
   ·refine SeqAt.EqAt.bool_bool b d _ _ _ _ ?_
    have e:decide ((Sum.inr b:SB) = Sum.inr d) = (b == d):=by cases b <;> cases d <;> decide
    rwa [e] at h
 «strs»:=fun k x t v h=>by
  rcases sbIs_shape h with ⟨y,u,rfl,e⟩ | ⟨b,rfl,e⟩
  ·injection e with e1 _
   subst e1
   cases v <;> rfl
  ·exact nomatch e
theorem sbV_is {P:Program} {w:World} {k:SB} {u:Value} (r:RelV (sbV k) u):(sbKind P w).is k u = true:=by
 cases k with
 | inl x=>
  obtain ⟨t,e⟩:=(show ∃ t,u = Value.str x t from r)
  subst e
  show (x == x) = true
  exact beq_self_eq_true x
 | inr b=>
  have e:u = Value.bool b:=r
  subst e
  show (b == b) = true
  exact beq_self_eq_true b
theorem sb_items {P:Program} {w:World}:∀ {ks:List SB} {us:List Value},Vals (ks.map sbV) us->ItemsAre (sbKind P w) ks us
 | [],_,r=>by rw [List.map_nil] at r; cases r; exact .nil
 | k :: ks,_,r=>by
  rw [List.map_cons] at r
  cases r with
  | cons h t=>exact .cons (sbV_is h) (sb_items t)
theorem sb_key {P:Program} {w:World} {H:Hp} {h:Heap} {a:Addr} {ks:List SB} (ok:HOk P w H h) (e:H a = some (.tup (ks.map sbV))):(tupleKind (sbKind P w)).is h ks a:=by
 obtain ⟨_,its,r,o,h1,h2,n,h3⟩:=(show ObjOk P w H h a (.tup (ks.map sbV)) from ok a _ e)
 exact ⟨o,its.toArray,n,h1,h2,h3,by simpa using sb_items r⟩
def dBφ (P:Program) (w:World) (a:Addr) (xs:List (List SB × Addr × Value)):Heap->Prop:=fun h=>∃ o es ep,h.get? a = some o/\o.ExactDict/\o.data = .dict es ep/\es.toList = xs.map (entryOfKey (tupleKind (sbKind P w)))/\(xs.map (·.1)).Nodup
abbrev KB (H:Hp):List (List SB × V)->List (List SB × Addr × Value)->Prop:=Paired fun p q=>p.1 = q.1/\H q.2.1 = some (.tup (p.1.map sbV))/\RelV p.2 q.2.2
def DB (P:Program) (w:World) (H:Hp) (a:Addr) (kvs:List (List SB × V)):Prop:=∃ xs,H a = some (.ext (dBφ P w a xs))/\KB H kvs xs
theorem DB.same {P:Program} {w:World} {H H':Hp} {a:Addr} {kvs:List (List SB × V)} (h:DB P w H a kvs) (s:Same H H'):DB P w H' a kvs:=by
 obtain ⟨xs,h1,h2⟩:=h
 exact ⟨xs,s _ _ h1,Paired.mapP h2 fun _ _ z=>⟨z.1,s _ _ z.2.1,z.2.2⟩⟩
theorem KB.val {H:Hp} {kvs:List (List SB × V)} {xs:List (List SB × Addr × Value)} (r:KB H kvs xs) (k:List SB):RelO (valV kvs k) ((atKey xs k).map (·.2)):=by
 induction r with
 | nil=>exact True.intro
 | @cons p q ps qs h t ih=>
  obtain ⟨h1,_,h2⟩:=h
  by_cases e:p.1 = k
  ·have e':q.1 = k:=h1.symm.trans e
   have b:atKey (q :: qs) k = some q.2:=by simp [atKey,List.find?_cons,e']
   rw [valV_pos e,b]; exact h2
  ·have e':¬ q.1 = k:=fun z=>e (h1.trans z)
   have b:atKey (q :: qs) k = atKey qs k:=by simp [atKey,List.find?_cons,e']
   rw [valV_neg e,b]; exact ih
theorem KB.repl {H:Hp} {kvs:List (List SB × V)} {xs:List (List SB × Addr × Value)} (r:KB H kvs xs) (k:List SB) {y:V} {u:Value} (ry:RelV y u) :
  KB H (kvs.map fun kv=>if kv.1 = k then (kv.1,y) else kv) (xs.map (putAt k u)):=by
 induction r with
 | nil=>exact .nil
 | @cons p q ps qs h t ih=>
  rw [List.map_cons,List.map_cons]
  refine .cons ?_ ih
  obtain ⟨h1,h2,h3⟩:=h
  unfold putAt
  by_cases e:p.1 = k
  ·rw [if_pos e,if_pos (h1.symm.trans e)]; exact ⟨h1,h2,ry⟩
  ·rw [if_neg e,if_neg (fun z=>e (h1.trans z))]; exact ⟨h1,h2,h3⟩
theorem KB.put {H:Hp} {kvs:List (List SB × V)} {xs:List (List SB × Addr × Value)} (r:KB H kvs xs) (k:List SB) {b:Addr} {y:V} {u:Value} (hb:H b = some (.tup (k.map sbV))) (ry:RelV y u) :
  KB H (putK kvs k y) (storedH xs k b u):=by
 have e:(kvs.any fun kv=>decide (kv.1 = k)) = (atKey xs k).isSome:=by
  rw [valV_any,(r.val k).isSome_eq,Option.isSome_map]
 unfold putK storedH
 rw [e]
 by_cases q:(atKey xs k).isSome = true
 ·rw [if_pos q,if_pos q]; exact r.repl k ry
 ·rw [if_neg q,if_neg q]; exact Paired.snoc r ⟨rfl,hb,ry⟩
theorem KB.keys {P:Program} {w:World} {H:Hp} {h:Heap} (ok:HOk P w H h):∀ {kvs:List (List SB × V)} {xs:List (List SB × Addr × Value)},KB H kvs xs->∀ x ∈ xs,(tupleKind (sbKind P w)).is h x.1 x.2.1:=by
 intro kvs xs r
 induction r with
 | nil=>intro x hx; exact nomatch hx
 | @cons p q ps qs hq t ih=>
  intro x hx
  rcases List.mem_cons.mp hx with e | hx
  ·subst e
   exact sb_key ok (by rw [<- hq.1]; exact hq.2.1)
  ·exact ih x hx
theorem db_of {P:Program} {w:World} {H:Hp} {h:Heap} {a:Addr} {xs:List (List SB × Addr × Value)} {kvs:List (List SB × V)} (ok:HOk P w H h) (e:H a = some (.ext (dBφ P w a xs))) (r:KB H kvs xs):h.DictOfH (tupleKind (sbKind P w)) a xs:=by
 obtain ⟨⟨o,es,ep,h1,h2,h3,h4,h5⟩,_⟩:=(show ObjOk P w H h a (.ext (dBφ P w a xs)) from ok a _ e)
 exact ⟨o,es,ep,h1,h2,h3,h4,r.keys ok,h5⟩
theorem keys_none {prog:Program} {w:World} {A:Around} {E:Value->Shared->Prop} {s:Shared} {a:Addr} {o:Obj} {xs:Array Value} {k:Nat} {Q:Option Value->Shared->Prop}
  (hx:s.heap.get? a = some o) (hc:o.cls = .type "list") (hdat:o.data = .seq xs k) (hd:o.dict = none) (hA:A.handled = none)
  (h:∀ h' tk,(∀ b o,s.heap.get? b = some o->h'.get? b = some o)->Q none { s with heap:=h',toks:=tk }) :
  wpAny (model prog w) A (getAttr? (.ref a) "keys") Q E s:=by
 obtain ⟨c,dct,dat,sl⟩:=o
 simp only at hc hdat hd
 subst hc hdat hd
 obtain ⟨hp,g,d,tk,os⟩:=s
 have hT:∀ tk',(⟨hp,g,d,tk',os⟩:Shared).TypeIs (.ref a) "list":=fun _=>⟨_,hx,rfl⟩
 have f1:=sub_AttributeError
 have f3:=F.slot_list_getattribute.lookup
 have f4:=F.slot_list_getattribute.bind (.ref a)
 have f5:=am_list_getattr_none
 have hmiss:typeLookup (.type "list") "keys" = pure none:=am_miss_of_fast (by decide +kernel)
 unfold getAttr? getAttrBy? getAttrBy
 repeat (any_goals (first | assumption | exact hT _ | ((with_reducible show wpAny _ _ (call (Value.builtin "list.__getattribute__") _ _) _ _ _); refine call_meets F.slot_list_getattribute (hT _) am_entry_list_getattribute (F.args_list_getattribute_2 _ _) (meets_getattribute_miss_list a xs k sl "keys" _ hmiss (by decide +kernel) (by decide +kernel)) ⟨hx,hA,fun h' tk' e hx'=>?_⟩) | wp_step))
 obtain ⟨t',u',he⟩:=hx'.there
 show wpAny _ _ (getattributeRaised _ _ _ _ _ _ _) _ _ _
 unfold getattributeRaised
 repeat (any_goals (first | assumption | wp_step))
 exact h _ _ hx'.of.1
theorem entry_dul:entryFor table "dict.update.loop" = some Builtin.«dict.update.loop»:=entryFor_of_tree (by kernel_rfl)
theorem plain_dul:plainId "dict.update.loop" = true:=by decide +kernel
abbrev PKA:=List SB × Addr × Value
def accH (tk:Nat->PKA):Nat->Nat->List PKA->List PKA
 | _,0,xs=>xs
 | i,k + 1,xs=>accH tk (i + 1) k (storedH xs (tk i).1 (tk i).2.1 (tk i).2.2)
theorem storedH_len (xs:List PKA) (k:List SB) (a:Addr) (v:Value):(storedH xs k a v).length<=xs.length + 1:=by
 unfold storedH
 split
 ·rw [List.length_map]; omega
 ·rw [List.length_append,List.length_cons,List.length_nil]; omega
def GoodP (P:Program) (w:World) (wr:List Addr) (Pr:Nat->Value->Prop) (tk:Nat->PKA) (h:Heap):Prop:=
 ∀ i v,Pr i v->∃ T o m,v = .ref T/\T ∉ wr/\h.get? T = some o/\o.cls = .type "tuple"/\o.data = .seq #[.ref (tk i).2.1,(tk i).2.2] m/\(tk i).2.1 ∉ wr/\(tupleKind (sbKind P w)).is h (tk i).1 (tk i).2.1
theorem GoodP.keep {P:Program} {w:World} {wr:List Addr} {Pr:Nat->Value->Prop} {tk:Nat->PKA} {h h':Heap} (g:GoodP P w wr Pr tk h) (k:∀ b o,b ∉ wr->h.get? b = some o->h'.get? b = some o):GoodP P w wr Pr tk h':=fun i v p=>by
 obtain ⟨T,o,m,e,n1,h1,h2,h3,n2,o2,its,n,q1,q2,q3,q4⟩:=g i v p
 exact ⟨T,o,m,e,n1,k _ _ n1 h1,h2,h3,n2,o2,its,n,k _ _ n2 q1,q2,q3,q4⟩
section
variable {P:Program} {w:World} {A:Around} {R:Result->Shared->Prop} {I:Addr} {fp wr:List Addr} {G:Array GenState->Array GenState->Prop} {n:Nat} {Pr:Nat->Value->Prop} {Sg:Nat->Shared->Prop}
theorem pairs_loop (W:WalksS P w A.in1 I fp wr G n Pr Sg) (hu:A.units + 2 < cLine) (a:Addr) (ha:a ∉ fp) (tk:Nat->PKA) (hb:n<=sizeLine) :
  ∀ (k i:Nat) (j:Int) (s:Shared) (xs:List PKA),n - i = k->i<=n->Sg i s->xs.length<=i->s.heap.DictOfH (tupleKind (sbKind P w)) a xs->GoodP P w (a :: wr) Pr tk s.heap->(∀ x ∈ xs,x.2.1 ∉ a :: wr)->(∀ i,(tk i).2.1 ∉ a :: wr)->
   (∀ s',Moved (a :: wr) G s s'->s'.heap.DictOfH (tupleKind (sbKind P w)) a (accH tk i k xs)->R (.ok (.ret .none)) s')->
   codeAny (model P w) A (.builtin "dict.update.loop" ⟨[.ref a,.ref I,rawInt j,.none],[]⟩) R s
 | 0,i,j,s,xs,hk,hi,hg,hc,hT,hgood,hx,htk,hR=>by
  have hw:a ∉ wr:=fun z=>ha (W.sub _ z)
  have ei:i = n:=by omega
  subst ei
  refine codeAny_builtin entry_dul ?_; rw [Around.under_plainId plain_dul _]
  show wpAny _ A.in1 (pyNext (.ref I) >>= _) _ _ _; refine wpAny_bind (W.done s _ _ hg fun s' hm=>?_)
  show wpAny _ A.in1 (Builtin.Dict.addKeywords a [] >>= fun _=>ret Value.none) _ _ _
  refine wpAny_bind (wpAny_pure (wpAny_pure (hR s' (hm.mono fun b z=>List.mem_cons_of_mem _ z) ?_)))
  obtain ⟨ob,es,ep,h1,h2,h3,h4,h5,h6⟩:=hT
  refine ⟨ob,es,ep,hm.heap a _ hw h1,h2,h3,h4,fun x hx'=>?_,h6⟩
  obtain ⟨o2,its,n,q1,q2⟩:=h5 x hx'
  exact ⟨o2,its,n,hm.heap _ _ (fun z=>hx x hx' (List.mem_cons_of_mem _ z)) q1,q2⟩
 | k + 1,i,j,s,xs,hk,hi,hg,hc,hT,hgood,hx,htk,hR=>by
  have hw:a ∉ wr:=fun z=>ha (W.sub _ z)
  have hlt:i < n:=by omega
  refine codeAny_builtin entry_dul ?_; rw [Around.under_plainId plain_dul _]
  show wpAny _ A.in1 (pyNext (.ref I) >>= _) _ _ _; refine wpAny_bind (W.item i s _ _ hlt hg fun v s' hP hg' hm=>?_)
  have hgood':GoodP P w (a :: wr) Pr tk s'.heap:=hgood.keep fun b o nb e=>hm.heap b o (fun z=>nb (List.mem_cons_of_mem _ z)) e
  obtain ⟨T,o,mm,rfl,nT,hTo,hTc,hTd,nk,hkey⟩:=hgood' i v hP
  have hD':s'.heap.DictOfH (tupleKind (sbKind P w)) a xs:=by
   obtain ⟨ob,es,ep,h1,h2,h3,h4,h5,h6⟩:=hT
   refine ⟨ob,es,ep,hm.heap a _ hw h1,h2,h3,h4,fun x hx'=>?_,h6⟩
   obtain ⟨o2,its,n,q1,q2⟩:=h5 x hx'
   exact ⟨o2,its,n,hm.heap _ _ (fun z=>hx x hx' (List.mem_cons_of_mem _ z)) q1,q2⟩
  have hTT:s'.TypeIs (.ref T) "tuple":=⟨o,hTo,hTc⟩
  show wpAny _ A.in1 (holding [Value.ref T] _ >>= _) _ _ s'
  refine wpAny_bind (wpAny_holding ?_)
  refine wpAny_bind (wpAny_tryCatch ?_)
  unfold Builtin.Dict.pairItems
  refine wpAny_bind (wpAny_typeOf hTT ?_)
  rw [if_pos (by decide)]
  refine wpAny_bind (wpAny_seqItems hTo hTd (wpAny_pure ?_))
  show wpAny _ A.in1 (holding [Value.ref (tk i).2.1,(tk i).2.2] (dictSet a (.ref (tk i).2.1) (tk i).2.2)) _ _ s'
  refine wpAny_holding ?_
  refine wpAny_dictSet_heap (knd:=tupleKind (sbKind P w)) (show A.in1.units < cLine by show A.units + 1 < cLine; omega) hkey hD' (fun h' hD2 hsb=>?_) (by omega)
  have hl2:=storedH_len xs (tk i).1 (tk i).2.1 (tk i).2.2
  refine wpAny_pure ⟨plainId_quiet plain_dul _,pairs_loop W hu a ha tk hb k (i + 1) (j + 1) _ _ (by omega) hlt (W.frame _ s' _ _ hg' (Nat.le_add_right _ _) fun b hb' o e=>?_) (by omega) hD2 (hgood'.keep fun b o nb e=>?_) (fun x hx'=>?_) htk fun s2 hm2 h4=>?_⟩
  ·have:b ≠ a:=fun z=>ha (z ▸ hb')
   rw [hsb.2 b this]; exact e
  ·have:b ≠ a:=fun z=>nb (z ▸ List.mem_cons_self)
   rw [hsb.2 b this]; exact e
  ·unfold storedH at hx'
   split at hx'
   ·obtain ⟨y,hy,rfl⟩:=List.mem_map.mp hx'
    unfold putAt
    split
    ·exact hx y hy
    ·exact hx y hy
   ·rcases List.mem_append.mp hx' with hx' | hx'
    ·exact hx x hx'
    ·rw [List.mem_singleton.mp hx']
     exact htk i
  ·refine hR s2 (Moved.trans W.gtrans ((hm.mono fun b z=>List.mem_cons_of_mem _ z).then_heap (Nat.le_add_right _ _) fun b o hb' e=>?_) hm2) h4
   have:b ≠ a:=fun z=>hb' (z ▸ List.mem_cons_self)
   rw [hsb.2 b this]; exact e
end
theorem call_dict_pairs {P:Program} {w:World} {A:Around} {E:Value->Shared->Prop} {s:Shared} {l:Addr} {items:List Value} {Q:Value->Shared->Prop} (tk:Nat->PKA)
  (hh:A.handled = none) (hu:A.units + 3 < cLine) (hl:PlainL s.heap l items.toArray) (hz:items.length<=sizeLine) (hS:sysModules < s.heap.objs.size)
  (hv:∀ (i:Nat) (v:Value),items[i]? = some v->∃ T o m,v = .ref T/\s.heap.get? T = some o/\o.cls = .type "tuple"/\o.data = .seq #[.ref (tk i).2.1,(tk i).2.2] m/\(tupleKind (sbKind P w)).is s.heap (tk i).1 (tk i).2.1) (htk:∀ i,(tk i).2.1 < s.heap.objs.size)
  (h:∀ (h':Heap) (t:Nat),h'.DictOfH (tupleKind (sbKind P w)) s.heap.objs.size (accH tk 0 items.length [])->(∀ b o,s.heap.get? b = some o->h'.get? b = some o)->Q (.ref s.heap.objs.size) { s with heap:=h',toks:=t }) :
  wpAny (model P w) A (call (.type "dict") [.ref l]) Q E s:=by
 refine callType_codes (Q₁:=fun obj s₁=>obj = .ref s.heap.objs.size/\s₁ = { s with heap:=s.heap.push { cls:=.type "dict",data:=.dict #[] } }) F.kt_called_dict (F.kt_typeCall_dict_1 _) F.entry_dict_init (kt_code_dict_new _ ⟨rfl,rfl⟩) ?_
 rintro obj s₁ ⟨rfl,rfl⟩
 have hD:(s.heap.push { cls:=.type "dict",data:=.dict #[] }).DictOfH (tupleKind (sbKind P w)) s.heap.objs.size []:=⟨{ cls:=.type "dict",data:=.dict #[] },#[],_,Heap.get?_push_size _ rfl,⟨rfl,rfl,rfl⟩,rfl,rfl,(fun x hx=>by cases hx),List.nodup_nil⟩
 have hT:Shared.TypeIs { s with heap:=s.heap.push { cls:=.type "dict",data:=.dict #[] } } (.ref s.heap.objs.size) "dict":=⟨_,Heap.get?_push_size _ rfl,rfl⟩
 refine ⟨hT,F.args_dict_init_2 _ _,?_⟩
 obtain ⟨ol,nl,hol,hcl,hdl,hdd⟩:=id hl
 have hlt:l < s.heap.objs.size:=Heap.lt_size hol
 have hol1:(s.heap.push { cls:=.type "dict",data:=.dict #[] }).get? l = some ol:=Heap.get?_push_of_some _ hol
 unfold Builtin.«dict.__init__»
 refine wpAny_bind ?_
 unfold Builtin.Dict.selfAndRest
 refine wpAny_bind (wpAny_notOrdered_dict hT ?_)
 show wpAny _ _ (pure (s.heap.objs.size,[Value.ref l])) _ _ _
 refine wpAny_pure ?_
 show wpAny _ _ (Builtin.Dict.updateFrom "dict.__init__" s.heap.objs.size (.ref l) [] .none) _ _ _
 unfold Builtin.Dict.updateFrom
 refine wpAny_bind (wpAny_typeOf (T:="list") ⟨ol,hol1,hcl⟩ ?_)
 rw [if_pos (by decide)]
 refine wpAny_bind (keys_none hol1 hcl hdd hdl (by simp [hh]) fun h1 t1 k1=>?_)
 rw [if_pos (show (none:Option Value).isNone = true from rfl)]
 refine wpAny_bind (wpAny_rule ?_)
 have hl1:h1.IsList l items.toArray:=⟨ol,k1 _ _ hol1,hcl,nl,hdd⟩
 have hD1:h1.DictOfH (tupleKind (sbKind P w)) s.heap.objs.size []:=by
  obtain ⟨ob,es,ep,q1,q2,q3,q4,q5,q6⟩:=hD
  exact ⟨ob,es,ep,k1 _ _ q1,q2,q3,q4,(fun x hx=>by cases hx),q6⟩
 have hz1:s.heap.objs.size < h1.objs.size:=Heap.lt_size (k1 _ _ (Heap.get?_push_size s.heap (o:={ cls:=.type "dict",data:=.dict #[] }) rfl))
 refine wpAny_bind (wpAny_pyIter_list hl1 ?_)
 have n1:l ≠ h1.objs.size:=Nat.ne_of_lt (Nat.lt_trans hlt hz1)
 have n3:s.heap.objs.size ∉ [h1.objs.size,l]:=fun z=>by
  rcases List.mem_cons.mp z with e | e
  ·exact Nat.ne_of_lt hz1 e
  ·exact Nat.ne_of_gt hlt (List.mem_singleton.mp e)
 have nw:∀ b:Addr,b < s.heap.objs.size->b ∉ [s.heap.objs.size,h1.objs.size]:=fun b hb z=>by
  rcases List.mem_cons.mp z with e | e
  ·exact Nat.ne_of_lt hb e
  ·exact Nat.ne_of_lt (Nat.lt_trans hb hz1) (List.mem_singleton.mp e)
 refine wpAny_pure ⟨plainId_quiet plain_dul _,pairs_loop ((Walks.list (by simp [hh]) _ l n1 items.toArray).toS) (by show A.units + 1 + 2 < cLine; omega) s.heap.objs.size n3 tk (by simpa using hz) items.toArray.size 0 0 _ [] (by omega) (Nat.zero_le _) ⟨⟨_,Heap.get?_push_size _ rfl,rfl,rfl⟩,hl1.push _⟩ (Nat.le_refl _) ?_ ?_ (fun x hx=>by cases hx) (fun i=>nw _ (htk i)) ?_⟩
 ·obtain ⟨ob,es,ep,q1,q2,q3,q4,q5,q6⟩:=hD1
  exact ⟨ob,es,ep,Heap.get?_push_of_some _ q1,q2,q3,q4,(fun x hx=>by cases hx),q6⟩
 ·intro i v hp
  have kk:∀ b o,s.heap.get? b = some o->(h1.push { cls:=.type "list_iterator",data:=.fields #[.ref l,.int 0 0] }).get? b = some o:=fun b o e=>Heap.get?_push_of_some _ (k1 _ _ (Heap.get?_push_of_some _ e))
  obtain ⟨T,o,m,rfl,q1,q2,q3,o2,its,n,r1,r2,r3,r4⟩:=hv i v (by simpa using hp)
  exact ⟨T,o,m,rfl,nw _ (Heap.lt_size q1),kk _ _ q1,q2,q3,nw _ (htk i),o2,its,n,kk _ _ r1,r2,r3,r4⟩
 ·rintro ⟨h',g',d',tk',os'⟩ hm hS'
  have e1:g' = s.gens:=hm.gens
  have e2:d' = s.drawn:=hm.drawn
  have e3:os' = s.os:=hm.os
  subst e1 e2 e3
  rw [List.size_toArray] at hS'
  exact ⟨rfl,h h' tk' hS' fun b o e=>hm.heap b o (nw b (Heap.lt_size e)) (Heap.get?_push_of_some _ (k1 _ _ (Heap.get?_push_of_some _ e)))⟩
abbrev PV:=List SB × Addr × V
def dftP:PKA:=([],0,.none)
def foldV (ps:List PV) (kvs:List (List SB × V)):List (List SB × V):=ps.foldl (fun kv p=>putK kv p.1 p.2.2) kvs
def foldU (qs:List PKA) (xs:List PKA):List PKA:=qs.foldl (fun xs q=>storedH xs q.1 q.2.1 q.2.2) xs
theorem accH_fold:∀ (rest pre:List PKA) (xs:List PKA),accH (fun i=>(pre ++ rest).getD i dftP) pre.length rest.length xs = foldU rest xs
 | [],_,_=>rfl
 | q :: qs,pre,xs=>by
  show accH _ (pre.length + 1) qs.length (storedH xs ((pre ++ q :: qs).getD pre.length dftP).1 ((pre ++ q :: qs).getD pre.length dftP).2.1 ((pre ++ q :: qs).getD pre.length dftP).2.2) = _
  have e:(pre ++ q :: qs).getD pre.length dftP = q:=by
   rw [List.getD_eq_getElem?_getD,List.getElem?_append_right (Nat.le_refl _),Nat.sub_self]
   rfl
  rw [e]
  have ih:=accH_fold qs (pre ++ [q]) (storedH xs q.1 q.2.1 q.2.2)
  rw [List.append_assoc,List.length_append] at ih
  exact ih
def PQ (H:Hp) (p:PV) (q:PKA):Prop:=q.1 = p.1/\q.2.1 = p.2.1/\H p.2.1 = some (.tup (p.1.map sbV))/\RelV p.2.2 q.2.2
theorem KB.fold {H:Hp}:∀ {ps:List PV} {qs:List PKA} {kvs:List (List SB × V)} {xs:List PKA},Paired (PQ H) ps qs->KB H kvs xs->KB H (foldV ps kvs) (foldU qs xs)
 | _,_,_,_,.nil,k=>k
 | p :: ps,q :: qs,kvs,xs,.cons h t,k=>by
  obtain ⟨e1,e2,e3,e4⟩:=h
  have k2:KB H (putK kvs p.1 p.2.2) (storedH xs q.1 q.2.1 q.2.2):=by
   rw [e1,e2]
   exact k.put p.1 e3 e4
  have k3:=KB.fold t k2
  exact k3
def PairAt (H:Hp) (t:Addr) (p:PV):Prop:=H t = some (.tup [.ref p.2.1,p.2.2])/\H p.2.1 = some (.tup (p.1.map sbV))
theorem call_dictB {X:Cx} (hc:X.calm = true) (hu:X.A.units + 64 < cLine):CallR X (.type "dict") (fun xs H Q=>∃ (l:Addr) (ts:List Addr) (ps:List PV),xs = [.ref l]/\H l = some (.lst (ts.map V.ref))/\Paired (PairAt H) ts ps/\∀ (d:Addr) (o:HO),H d = none->DB X.prog X.w (upd H d o) d (foldV ps [])->Q (.ref d) (upd H d o)):=by
 intro pins s σ H xs us Q I r h
 obtain ⟨l,ts,ps,rfl,hl,hp,q⟩:=h
 obtain ⟨u,rfl,ru⟩:=vals1 r
 cases ru
 obtain ⟨its,rv,hpl,hz⟩:=I.list (SqL.of hl)
 have eits:=vals_refs rv
 subst eits
 obtain ⟨qs,hqs,hob⟩:∃ qs:List PKA,Paired (PQ H) ps qs/\∀ (i:Nat) t,ts[i]? = some t->∃ q o m,qs[i]? = some q/\s.heap.get? t = some o/\o.cls = .type "tuple"/\o.data = .seq #[.ref q.2.1,q.2.2] m/\(tupleKind (sbKind X.prog X.w)).is s.heap q.1 q.2.1:=by
  clear q hl hpl rv hz
  induction hp with
  | nil=>exact ⟨[],.nil,fun i t h=>by simp at h⟩
  | @cons t p ts ps h tl ih=>
   obtain ⟨qs,h1,h2⟩:=ih
   obtain ⟨g1,g2⟩:=h
   obtain ⟨_,vs,rr,o,o1,o2,n,o3⟩:=(show ObjOk X.prog X.w H s.heap t (.tup [.ref p.2.1,p.2.2]) from I.hok t _ g1)
   obtain ⟨u1,u2,rfl,r1,r2⟩:=vals2 rr
   have r1:u1 = Value.ref p.2.1:=r1
   subst r1
   refine ⟨(p.1,p.2.1,u2) :: qs,.cons ⟨rfl,rfl,g2,r2⟩ h1,fun i t' ht=>?_⟩
   cases i with
   | zero=>
    cases ht
    exact ⟨(p.1,p.2.1,u2),o,n,rfl,o1,o2,o3,sb_key I.hok g2⟩
   | succ i=>
    obtain ⟨q',o',m',e1,e2⟩:=h2 i t' (by simpa using ht)
    exact ⟨q',o',m',by simpa using e1,e2⟩
 have lq:qs.length = ts.length:=by rw [<- hqs.length,hp.length]
 refine call_dict_pairs (items:=ts.map Value.ref) (fun i=>qs.getD i dftP) (I.ok.hd hc) (by omega) hpl (by rw [List.length_map]; rw [List.length_map] at hz; exact hz) I.big (fun i v hv=>?_) (fun i=>?_) fun h' t hD hk=>?_
 ·rw [List.getElem?_map] at hv
  cases ht:ts[i]? with
  | none=>rw [ht] at hv; cases hv
  | some t=>
   rw [ht] at hv
   cases hv
   obtain ⟨q',o,m,e1,e2,e3,e4,e5⟩:=hob i t ht
   have e:qs.getD i dftP = q':=by rw [List.getD_eq_getElem?_getD,e1]; rfl
   rw [e]
   exact ⟨t,o,m,rfl,e2,e3,e4,e5⟩
 ·show (qs.getD i dftP).2.1 < s.heap.objs.size
  cases e:qs[i]? with
  | none=>
   rw [List.getD_eq_getElem?_getD,e]
   exact Nat.lt_of_le_of_lt (Nat.zero_le _) I.big
  | some q'=>
   rw [List.getD_eq_getElem?_getD,e]
   have hi:i < ts.length:=by rw [<- lq]; exact (List.getElem?_eq_some_iff.mp e).1
   obtain ⟨q2,o,m,e1,_,_,_,o2,its',n,r1,_⟩:=hob i ts[i] (List.getElem?_eq_getElem hi)
   rw [e] at e1
   cases e1
   exact Heap.lt_size r1
 ·rw [List.length_map,<- lq] at hD
  have ef:=accH_fold qs [] []
  rw [List.nil_append,List.length_nil] at ef
  rw [ef] at hD
  have hfr:H s.heap.objs.size = none:=I.hok.fresh (Nat.le_refl _)
  have kb:KB H (foldV ps []) (foldU qs []):=KB.fold hqs .nil
  obtain ⟨ob,es,ep,h1,h2,h3,h4,h5,h6⟩:=hD
  have hφ : dBφ X.prog X.w s.heap.objs.size (foldU qs []) h':=⟨ob,es,ep,h1,h2,h3,h4,h6⟩
  refine ⟨.ref s.heap.objs.size,_,I.laid (t':=t) (o:=.ext (dBφ X.prog X.w s.heap.objs.size (foldU qs []))) hk (Nat.le_refl _) ⟨hφ,⟨_,h1⟩,fun a b ha hab=>?_⟩,rfl,q _ _ hfr ⟨_,upd_same,Paired.mapP kb fun _ _ z=>⟨z.1,by rw [upd_ne (ne_of_none z.2.1 hfr)]; exact z.2.1,z.2.2⟩⟩⟩
  obtain ⟨ob',es',ep',g1,g2⟩:=ha
  exact ⟨ob',es',ep',hab _ g1,g2⟩
def tDGetB (P:Program) (w:World) (td ty:TE):TE:=fun σ H Q=>td σ H fun x H1=>ty σ H1 fun y H2=>∃ (a b:Addr) (kvs:List (List SB × V)) (k:List SB) (v:V),x = .ref a/\y = .ref b/\DB P w H2 a kvs/\H2 b = some (.tup (k.map sbV))/\valV kvs k = some v/\Q v H2
theorem pe_dgetB {X:Cx} {P:Program} {w:World} {o i:Expr} {td ty:TE} {pos:Pos} (hP:X.prog = P) (hw:X.w = w) (hu:X.A.units + 1 < cLine) (ho:PE X o td) (hi:PE X i ty) (hs:NoSl i):PE X (.Subscript o i pos) (tDGetB P w td ty):=by
 subst hP
 subst hw
 refine ⟨?_⟩
 intro pins s σ H Q I h
 refine subD_of PySem.F.slot_dict_getitem.lookup hs (thn (ho pins s σ H _ I h) fun u s1 ⟨x,H1,I1,rx,q1⟩=>thn (hi pins s1 σ H1 _ I1 q1) fun iv s2 ⟨y,H2,I2,ry,a,b,kvs,k,v,ex,ey,db,eb,ev,q2⟩=>?_)
 subst ex
 subst ey
 obtain rfl:u = Value.ref a:=rx
 obtain rfl:iv = Value.ref b:=ry
 obtain ⟨xs,e,kb⟩:=db
 have dd:=db_of I2.hok e kb
 obtain ⟨w',hw',rw'⟩:=RelO.some_of (v:=v) (o:=(atKey xs k).map (·.2)) (by rw [<- ev]; exact kb.val k)
 obtain ⟨p,hp,hp2⟩:=Option.map_eq_some_iff.mp hw'
 refine ⟨dd.typeIs,wpAny_getItem_heap (tupleKind_room_in1 hu) (sb_key I2.hok eb) dd hp ?_⟩
 rw [hp2]
 exact ⟨v,H2,I2.tok _,rw',q2⟩
theorem foldV_has {ps:List PV} {R:List SB->V->Prop}:∀ {kvs:List (List SB × V)},(∀ p ∈ ps,R p.1 p.2.2)->(∀ k v,valV kvs k = some v->R k v)->∀ k,(k ∈ ps.map (·.1)\/(valV kvs k).isSome = true)->∃ v,valV (foldV ps kvs) k = some v/\R k v:=by
 induction ps with
 | nil=>
  intro kvs _ h2 k hk
  rcases hk with hk | hk
  ·cases hk
  ·obtain ⟨v,hv⟩:=Option.isSome_iff_exists.mp hk
   exact ⟨v,hv,h2 k v hv⟩
 | cons p ps ih=>
  intro kvs h1 h2 k hk
  refine ih (kvs:=putK kvs p.1 p.2.2) (fun q hq=>h1 q (List.mem_cons_of_mem _ hq)) (fun k' v' hv=>?_) k ?_
  ·rw [valV_put] at hv
   by_cases e:k' = p.1
   ·rw [if_pos e] at hv
    cases hv
    rw [e]
    exact h1 p List.mem_cons_self
   ·rw [if_neg e] at hv
    exact h2 k' v' hv
  ·by_cases e:k = p.1
   ·right
    rw [valV_put,if_pos e]
    rfl
   ·rcases hk with hk | hk
    ·rw [List.map_cons] at hk
     rcases List.mem_cons.mp hk with hk | hk
     ·exact absurd hk e
     ·exact .inl hk
    ·right
     rw [valV_put,if_neg e]
     exact hk
def rNil (n:Bool):R2:=fun x y H Q=>∃ (a c:Addr) (xs:List V),x = .ref a/\y = .ref c/\H a = some (.lst xs)/\H c = some (.lst [])/\Q (.bl (n != xs.isEmpty)) H
theorem op_eqNil {X:Cx} (hu:X.A.units + 64 < cLine):OpR X (compareOp .Eq) (rNil false):=by
 intro pins s σ H x y v u Q I rx ry h
 obtain ⟨a,c,xs,rfl,rfl,ha,hc,q⟩:=h
 cases xs with
 | nil=>exact op_eqS hu pins s σ H _ _ v u Q I rx ry ⟨a,c,0,.lst [],fun _=>True,fun _=>True,rfl,rfl,by decide,Says.lst True.intro ha .nil,Says.lst True.intro hc .nil,q⟩
 | cons z zs=>exact op_eqLen (by omega) pins s σ H _ _ v u Q I rx ry ⟨a,c,_,_,rfl,rfl,ha,hc,by simp,q⟩
theorem lc_mapV {β : Type} {K:PySem.W.Frag} {a:Addr} {xs:List V} {bs:List β} {caps:List (Option Nat)} {g:TG} {tt:TT} {te:TE} {σ : L2.St} {H1:Hp} {Q:VK} {D:Addr} (R':Hp->Addr->β->Prop)
  (sR':∀ {H H' v r},R' H v r->Same H H'->R' H' v r) (uR':∀ {H v r D ys o},R' H v r->H D = some (.lst ys)->R' (upd H D o) v r)
  (ha:SqL K H1 a xs) (hl:xs.length = bs.length) (hn:bs.length<=500) (hD:H1 D = none)
  (hs:∀ (i:Nat) x b H (Qf:VK) (Qs:Hp->Prop),xs[i]? = some x->bs[i]? = some b->Same H1 H->(∀ v H',Same H H'->R' H' v b->Qf (.ref v) H')->
   g x (capS caps σ) H fun σ2 H2=>tt σ2 H2 fun ok H3=>(ok = true->te σ2 H3 Qf)/\(ok = false->Qs H3))
  (hd:∀ vs H,Same H1 H->H D = some (.lst (vs.map V.ref))->Paired (R' H) vs bs->Q (.ref D) H):LCr (Itl K a) caps g tt te σ H1 Q D:=by
 refine lc_list (K:=K) (xs:=xs) (fun i ys H'=>∃ vs,ys = vs.map V.ref/\Same H1 H'/\H' D = some (.lst ys)/\Paired (R' H') vs (bs.take i)) ⟨[],rfl,same_new hD _,upd_same,.nil⟩ (fun i ys H' ⟨_,_,h,_⟩=>h.seq ha) ?_ ?_
 ·rintro i x ys H' hlt hx ⟨vs,rfl,sH,hDy,fv⟩
  have hi:i < bs.length:=by omega
  have hb:bs[i]? = some bs[i]:=List.getElem?_eq_getElem hi
  have nl:(vs.map V.ref).length<=i:=by
   rw [List.length_map,fv.length,List.length_take]
   omega
  refine hs i x _ H' _ _ hx hb sH (fun v H2 s2 r2=>?_)
  have s3:Same H1 (upd H2 D (.lst (vs.map V.ref ++ [.ref v]))):=fun b o z=>by
   rw [upd_ne (ne_of_none z hD)]
   exact s2 _ _ (sH b o z)
  refine lcN.mk hlt (Nat.le_of_lt (small1000 (by omega))) (s2 _ _ hDy) nl ⟨vs ++ [v],by rw [List.map_append]; rfl,s3,upd_same,?_⟩
  rw [List.take_succ_eq_append_getElem hi]
  exact Paired.snoc (Paired.imp' (fun w r' z=>uR' (sR' z s2) (s2 _ _ hDy)) fv) (uR' r2 (s2 _ _ hDy))
 ·rintro ys H ⟨vs,rfl,sH,hDy,fv⟩
  rw [hl,List.take_length] at fv
  exact hd vs H sH hDy fv
end L2
namespace K54
open PySem L2 PyProof.Rows
theorem grp0 {k:Nat} (h:k < 5):byPl k = decide (grp k = 0):=by rcases lt5 h with rfl | rfl | rfl | rfl | rfl <;> rfl
theorem ord_weak:∀ (rows:List Rw) {l l':Nat},l'<=l->ordOk l rows = true->ordOk l' rows = true
 | [],_,_,_,_=>rfl
 | r :: rs,l,l',hl,h=>by
  have h':(!badAt l (grp r.k) && ordOk (grp r.k) rs) = true:=h
  show (!badAt l' (grp r.k) && ordOk (grp r.k) rs) = true
  rw [Bool.and_eq_true,Bool.not_eq_true'] at h' |-
  refine ⟨?_,h'.2⟩
  have hb:=h'.1
  unfold badAt at hb |-
  simp only [Bool.or_eq_false_iff,decide_eq_false_iff_not,Bool.and_eq_false_iff,beq_eq_false_iff_ne] at hb |-
  omega
theorem ord_none:∀ (rows:List Rw) {l:Nat},0 < l->(∀ r ∈ rows,r.ok)->ordOk l rows = true->∀ r ∈ rows,byPl r.k = false
 | [],_,_,_,_,r,hr=>by cases hr
 | x :: xs,l,hl,hok,h,r,hr=>by
  have h':(!badAt l (grp x.k) && ordOk (grp x.k) xs) = true:=h
  rw [Bool.and_eq_true,Bool.not_eq_true'] at h'
  have hb:=h'.1
  unfold badAt at hb
  simp only [Bool.or_eq_false_iff,decide_eq_false_iff_not] at hb
  have hg : 0 < grp x.k:=by omega
  rcases List.mem_cons.mp hr with rfl | hr
  ·rw [grp0 (hok _ List.mem_cons_self).1,decide_eq_false (by omega)]
  ·exact ord_none xs hg (fun r hr=>hok r (List.mem_cons_of_mem _ hr)) h'.2 r hr
theorem plN_none {rows:List Rw} (h:∀ r ∈ rows,byPl r.k = false):plN rows = 0:=by
 unfold plN
 rw [List.length_eq_zero_iff,List.filter_eq_nil_iff]
 exact fun r hr=>by rw [h r hr]; decide
theorem split_pl:∀ rows:List Rw,(∀ r ∈ rows,r.ok)->ordOk 0 rows = true->∃ A B,rows = A ++ B/\A.length = plN rows/\(∀ r ∈ A,grp r.k = 0)/\ordOk 0 B = true
 | [],_,_=>⟨[],[],rfl,rfl,(fun r hr=>by cases hr),rfl⟩
 | r :: rs,hok,h=>by
  have h':(!badAt 0 (grp r.k) && ordOk (grp r.k) rs) = true:=h
  rw [Bool.and_eq_true,Bool.not_eq_true'] at h'
  by_cases hg:grp r.k = 0
  ·have h2:=h'.2
   rw [hg] at h2
   obtain ⟨A,B,e,hl,hA,hB⟩:=split_pl rs (fun x hx=>hok x (List.mem_cons_of_mem _ hx)) h2
   refine ⟨r :: A,B,by rw [e]; rfl,?_,fun x hx=>?_,hB⟩
   ·have hp:byPl r.k = true:=by rw [grp0 (hok r List.mem_cons_self).1,hg]; rfl
    unfold plN at hl |-
    rw [List.filter_cons,if_pos hp,List.length_cons,List.length_cons,hl]
   ·rcases List.mem_cons.mp hx with rfl | hx
    ·exact hg
    ·exact hA x hx
  ·refine ⟨[],r :: rs,rfl,?_,(fun x hx=>by cases hx),h⟩
   rw [plN_none]
   ·rfl
   ·intro x hx
    rcases List.mem_cons.mp hx with rfl | hx
    ·rw [grp0 (hok _ List.mem_cons_self).1,decide_eq_false hg]
    ·exact ord_none rs (by omega) (fun x hx=>hok x (List.mem_cons_of_mem _ hx)) h'.2 x hx
theorem Paired.takeP {α β : Type} {R : α->β->Prop}:∀ {xs:List α} {ys:List β} (n:Nat),Paired R xs ys->Paired R (xs.take n) (ys.take n)
 | _,_,0,_=>.nil
 | _,_,_ + 1,.nil=>.nil
 | _,_,n + 1,.cons r t=>.cons r (Paired.takeP n t)
theorem Paired.dropP {α β : Type} {R : α->β->Prop}:∀ {xs:List α} {ys:List β} (n:Nat),Paired R xs ys->Paired R (xs.drop n) (ys.drop n)
 | _,_,0,r=>r
 | _,_,_ + 1,.nil=>.nil
 | _,_,n + 1,.cons _ t=>Paired.dropP n t
theorem Paired.appP {α β : Type} {R : α->β->Prop}:∀ {xs xs':List α} {ys ys':List β},Paired R xs ys->Paired R xs' ys'->Paired R (xs ++ xs') (ys ++ ys')
 | _,_,_,_,.nil,s=>s
 | _,_,_,_,.cons r t,s=>.cons r (Paired.appP t s)
def dblR (rows:List Rw) (r:Rw):List Rw:=rows.take (plN rows) ++ [r] ++ rows.drop (plN rows)
theorem dbl_valid {rows:List Rw} {bars:List Str} (V1:Valid rows bars) {r:Rw} (hr:r ∈ rows) (hk:r.k = 0) (h23:rows.length<=23):Valid (dblR rows r) bars:=by
 obtain ⟨A,B,e,hl,hA,hB⟩:=split_pl rows V1.ok V1.ord
 have ed:dblR rows r = A ++ [r] ++ B:=by
  unfold dblR
  rw [<- hl,e,List.take_left',List.drop_left' rfl]
  rfl
 rw [ed]
 have hg:grp r.k = 0:=by rw [hk]; rfl
 refine ⟨fun x hx=>?_,?_,V1.l60,?_,V1.bn,?_⟩
 ·rcases List.mem_append.mp hx with hx | hx
  ·rcases List.mem_append.mp hx with hx | hx
   ·exact V1.ok x (by rw [e]; exact List.mem_append_left _ hx)
   ·rw [List.mem_singleton.mp hx]; exact V1.ok r hr
  ·exact V1.ok x (by rw [e]; exact List.mem_append_right _ hx)
 ·rw [e,List.length_append] at h23
  rw [List.length_append,List.length_append,List.length_cons,List.length_nil]
  omega
 ·refine ord_even (g:=0) rfl (A ++ [r]) B 0 rfl (fun x hx=>?_) hB hB
  rcases List.mem_append.mp hx with hx | hx
  ·exact hA x hx
  ·rw [List.mem_singleton.mp hx]; exact hg
 ·have en:nms (A ++ [r] ++ B) = nms rows:=by
   rw [e,nms_app,nms_app,nms_app,nms_one,hk]
   simp [byNm]
  rw [en]
  exact V1.nd
theorem in_pl' {k:Nat} (h:k < 5):inV (.str (kw k)) [.str "seat",.str "both"] = byPl k:=in_pl k h
theorem zip_pl {R:Addr->Rw->Prop}:∀ {us:List Addr} {rows:List Rw},Paired R us rows->∀ (keep:Rw->Bool) (out:Addr->Rw->V),(((us.zip rows).filter fun p=>keep p.2).map fun p=>out p.1 p.2).length = (rows.filter keep).length
 | _,_,.nil,_,_=>rfl
 | _,_,.cons (a:=u) (b:=r) _ t,keep,out=>by
  have ih:=zip_pl t keep out
  rw [List.length_map] at ih |-
  rw [List.zip_cons_cons,List.filter_cons,List.filter_cons]
  cases h:keep r
  ·simpa [h] using ih
  ·simpa [h] using ih
theorem cut_last {xs:List V} (h:xs ≠ []):cutV xs (some (-1)) none = [xs.getLast h]:=by
 unfold cutV
 rw [HT.sIx_none]
 have hl : 0 < xs.length:=List.length_pos_iff.mpr h
 have e:HT.sIx xs.length 0 (some (-1)) = xs.length - 1:=by
  show (if (-1:Int) < 0 then ((-1:Int) + (xs.length:Int)).toNat else min (-1:Int).toNat xs.length) = _
  rw [if_pos (by decide)]
  omega
 rw [e,List.drop_eq_getElem_cons (by omega),List.drop_of_length_le (by omega),List.getLast_eq_getElem]
 rw [show xs.length - (xs.length - 1) = 1 by omega]
 rfl
def spLDbl:Sp:=fun vs H Q _=>∃ (t la lb:Addr) (us:List Addr) (rows:List Rw) (bars:List Str),vs = [.ref t]/\H t = some (.tup [.ref la,.ref lb])/\H la = some (.lst (us.map V.ref))/\Paired (TAt H) us rows/\H lb = some (.lst (bars.map V.str))/\Valid rows bars/\
 ∀ (t' la':Addr) (us':List Addr) (rows':List Rw) (H':Hp),Same H H'->H' t' = some (.tup [.ref la',.ref lb])->H' la' = some (.lst (us'.map V.ref))->Paired (TAt H') us' rows'->Valid rows' bars->Q (.ref t') H'
theorem seat_is:∀ k:Nat,k < 5->decide (V.str (kw k) = V.str "seat") = (k == 0):=by decide +kernel
section
variable {P:Program} {w:World} {K:PySem.W.Frag} {mg:Str->Option Value} {base:Heap} {f CF N:Addr} {fd:FuncData} {c:C5}
theorem scLDbl:FnScope ["_law_told","_law_rows","_law_bars","_law_seats","_law_many"] ["_law_told"] (defScope sLDbl):=⟨rfl,rfl,rfl,by decide +kernel,rfl,by decide +kernel,by decide +kernel⟩
theorem ok_ldbl (F:Fun K "_law_doubled" "_law_doubled" sLDbl f fd) (hlen:mg "len" = none):FnOk P w K mg base CX0 1 f fd ["_law_told"] spLDbl:=by
 refine F.ok scLDbl (fun vs H Q E h=>?_) (fun cdv A outer s H vs Q E hr h=>?_)
 ·obtain ⟨t,la,lb,us,rows,bars,rfl,_⟩:=h
  rfl
 obtain ⟨t,la,lb,us,rows,bars,rfl,ht,hla,hu,hlb,V1,q⟩:=h
 have hU:=hr.units
 have l24:=V1.l24
 have lu:us.length = rows.length:=hu.length
 refine ⟨_,pss_cons (ps_asg (pv 0) (pg_tup rfl (pgs_cons (pg_name (i:=1) scLDbl.nd rfl (Or.inl rfl)) (pgs_cons (pg_name (i:=2) scLDbl.nd rfl (Or.inl rfl)) pgs_nil))))
  (pss_cons (ps_lc (i:=3) [] ["_law_one"] [none] scLDbl.nd rfl (Or.inl rfl) rfl ⟨rfl,rfl,rfl,rfl⟩ (pi_list (pv 1)) (gown_name 0) rfl rfl rfl
   (fun pins fp s H C=>⟨pg_name (i:=0) ndOn rfl (Or.inl rfl) (.inr rfl),pif_one (pt_cmpR op_eq (pe_ix (r:=rIxT K) ix_tup (pv 0) pe_int (fun _ _=>rfl)) pe_str (nomark _)),pv 0⟩))
  (pss_cons (ps_set (i:=4) scLDbl.nd rfl (Or.inl rfl) (cB call_len_seq hlen PySem.boot_len (ac (pe_lc [] ["_law_one"] [none] rfl ⟨rfl,rfl,rfl,rfl⟩ (pi_list (pv 1)) (gown_name 0) rfl rfl rfl
   (fun pins fp s H C=>⟨pg_name (i:=0) ndOn rfl (Or.inl rfl) (.inr rfl),pif_one (pt_cmpR (r:=rIn K false) op_in_seq (pe_ix (r:=rIxT K) ix_tup (pv 0) pe_int (fun _ _=>rfl)) (pe_lst (ac pe_str (ac pe_str pa_nil))) (by with_unfolding_all rfl)),pv 0⟩)) pa_nil)))
  (pss_cons (ps_if (PW.pt (pw_or (pt_cmpR (op_eqNil hU) (pv 3) (pe_lst pa_nil) (nomark _)) (pw_or1 (pt_cmpR op_gt (cB call_len_seq hlen PySem.boot_len (ac (pv 1) pa_nil)) pe_int (nomark _))))) (pss_one (ps_ret (pv 0))) pss_nil)
  (pss_one (ps_ret (pe_tup (ac (pe_op op_cat (pe_op op_cat (pe_slice sl_list (pv 1) po_none (po_some (pv 4))) (pe_slice sl_list (pv 3) (po_some (pe_un un_neg pe_int)) po_none)) (pe_slice sl_list (pv 1) (po_some (pv 4)) po_none)) (ac (pv 2) pa_nil)))))))),?_⟩
 refine ⟨_,rfl,t,_,rfl,SqT.of ht,rfl,_,_,rfl,_,_,rfl,rfl,?_⟩
 refine ⟨_,rfl,la,rfl,⟨_,SqL.of hla⟩,fun D1 hD1=>?_⟩
 refine lc_zip (K:=K) TAt (fun r=>r.k == 0) (fun u _=>.ref u) hD1 hla hu (by omega) (fun i u r H' Nn S hu' hr' tr sH n1 s1=>?_) (fun H1 s1 hS1=>?_)
 ·have rk:=V1.ok r (List.mem_of_getElem? hr')
  refine ⟨_,rfl,u,_,0,_,rfl,rfl,SqT.of (sH _ _ tr),lk_0 rk.1,rfl,_,rfl,?_⟩
  rw [seat_is _ rk.1]
  exact ⟨fun e=>⟨_,rfl,n1 _ (Same.refl _) e⟩,fun e=>s1 _ (Same.refl _) e⟩
 have hla1:=s1 _ _ hla
 have hu1:=tats_same s1 hu
 refine ⟨_,rfl,la,rfl,⟨_,SqL.of hla1⟩,fun D hD=>?_⟩
 refine lc_zip (K:=K) TAt (fun r=>byPl r.k) (fun u _=>.ref u) hD hla1 hu1 (by omega) (fun i u r H' Nn S hu' hr' tr sH n1 s1=>?_) (fun H2 s2 hD1'=>?_)
 ·have rk:=V1.ok r (List.mem_of_getElem? hr')
  have tu:=sH _ _ tr
  refine ⟨_,rfl,u,_,0,_,rfl,rfl,SqT.of tu,lk_0 rk.1,(by show 2<=sizeLine; decide),fun l hl=>?_⟩
  have s2:=same_new hl (.lst [.str "seat",.str "both"])
  refine ⟨l,_,rfl,.inl (SqL.of upd_same),rfl,rfl,_,rfl,?_⟩
  rw [if_neg Bool.false_ne_true,in_pl' rk.1]
  exact ⟨fun e=>⟨_,rfl,n1 _ s2 e⟩,fun e=>s1 _ s2 e⟩
 obtain ⟨ys,hys,hDy⟩:∃ ys:List V,ys.length = plN rows/\H2 D = some (.lst ys):=⟨_,zip_pl hu1 (fun r=>byPl r.k) (fun u _=>.ref u),hD1'⟩
 refine ⟨D,ys,rfl,.inl (SqL.of hDy),?_⟩
 rw [hys]
 clear hys hDy hD1' ys
 have s12:=s1.trans s2
 have hS2:=s2 _ _ hS1
 refine ⟨_,rfl,(by show 0<=sizeLine; decide),fun l0 hl0=>?_⟩
 have s3:=same_new hl0 (.lst [])
 have g3:upd H2 l0 (.lst []) l0 = some (.lst []):=upd_same
 show rNil false _ _ (upd H2 l0 (.lst [])) _
 generalize upd H2 l0 (.lst []) = H3 at s3 g3 |-
 have s13:=s12.trans s3
 have ht3:=s13 _ _ ht
 have hla3:=s13 _ _ hla
 have hu3:=tats_same s13 hu
 refine ⟨D1,l0,_,rfl,rfl,s3 _ _ hS2,g3,_,rfl,?_⟩
 generalize hzs:((us.zip rows).filter fun p=>p.2.k == 0) = zs at hS2
 cases hz:zs with
 | nil=>
  refine iteB (by rfl) ?_
  refine iteT ?_
  exact ⟨_,rfl,q t la us rows H3 s13 ht3 hla3 hu3 V1⟩
 | cons z0 zs0=>
  refine iteC (by rfl) ?_
  refine ⟨_,rfl,la,_,rfl,.inl (SqL.of hla3),_,_,rfl,rfl,_,rfl,?_⟩
  by_cases h23:rows.length<=23
  rotate_left
  ·refine dT (by show ((us.map V.ref).length:Int) > 23; rw [List.length_map]; omega) ?_
   exact ⟨_,rfl,q t la us rows H3 s13 ht3 hla3 hu3 V1⟩
  refine dF (by show ¬ ((us.map V.ref).length:Int) > 23; rw [List.length_map]; omega) ?_
  rw [hz] at hzs hS2
  have hne:(z0 :: zs0) ≠ []:=List.cons_ne_nil _ _
  have hmem:(z0 :: zs0).getLast hne ∈ (us.zip rows).filter fun p=>p.2.k == 0:=by rw [hzs]; exact List.getLast_mem hne
  generalize hlast:(z0 :: zs0).getLast hne = pr at hmem
  obtain ⟨u,r⟩:=pr
  obtain ⟨hm1,hm2⟩:=List.mem_filter.mp hmem
  have hrm:r ∈ rows:=(List.of_mem_zip hm1).2
  have hrk:r.k = 0:=beq_iff_eq.mp hm2
  obtain ⟨j,hj,ej⟩:=List.getElem_of_mem hm1
  have ej2:(us.zip rows)[j]? = some (u,r):=by rw [<- ej]; exact List.getElem?_eq_getElem hj
  rw [List.getElem?_zip_eq_some] at ej2
  have tur:TAt H3 u r:=by
   obtain ⟨r2,hr2,tr2⟩:=paired_at hu3 ej2.1
   rw [ej2.2] at hr2
   cases hr2
   exact tr2
  have elast:cutV ((z0 :: zs0).map fun p=>V.ref p.1) (some (-1)) none = [V.ref u]:=by
   rw [cut_last (by simp),List.getLast_map,hlast]
  have ln:plN rows<=24:=Nat.le_trans (List.length_filter_le _ _) l24
  refine ⟨_,rfl,_,rfl,_,rfl,la,_,rfl,SqL.of hla3,fun p4 hp4=>?_⟩
  rw [cut_takeN,<- List.map_take]
  have s4:=same_new hp4 (.lst ((us.take (plN rows)).map V.ref))
  have g4:upd H3 p4 (.lst ((us.take (plN rows)).map V.ref)) p4 = some (.lst ((us.take (plN rows)).map V.ref)):=upd_same
  generalize upd H3 p4 (.lst ((us.take (plN rows)).map V.ref)) = H4 at s4 g4 |-
  refine ⟨_,rfl,_,rfl,_,rfl,D1,_,rfl,SqL.of (s4 _ _ (s3 _ _ hS2)),fun p5 hp5=>?_⟩
  rw [show cutV ((z0 :: zs0).map fun p=>V.ref p.1) (some (-1)) none = [V.ref u] from elast]
  have s5:=same_new hp5 (.lst [.ref u])
  have g5:upd H4 p5 (.lst [.ref u]) p5 = some (.lst [.ref u]):=upd_same
  generalize upd H4 p5 (.lst [.ref u]) = H5 at s5 g5 |-
  refine ⟨p4,p5,_,_,rfl,rfl,s5 _ _ g4,g5,le1000 (by rw [List.length_map,List.length_take]; show min (plN rows) us.length + 1<=1000; omega),fun p6 hp6=>?_⟩
  have s6:=same_new hp6 (.lst ((us.take (plN rows)).map V.ref ++ [.ref u]))
  have g6:upd H5 p6 (.lst ((us.take (plN rows)).map V.ref ++ [.ref u])) p6 = some (.lst ((us.take (plN rows)).map V.ref ++ [.ref u])):=upd_same
  generalize upd H5 p6 (.lst ((us.take (plN rows)).map V.ref ++ [.ref u])) = H6 at s6 g6 |-
  have s36:=s4.trans (s5.trans s6)
  refine ⟨_,rfl,_,rfl,_,rfl,la,_,rfl,SqL.of (s36 _ _ hla3),fun p7 hp7=>?_⟩
  rw [cut_dropN,<- List.map_drop]
  have s7:=same_new hp7 (.lst ((us.drop (plN rows)).map V.ref))
  have g7:upd H6 p7 (.lst ((us.drop (plN rows)).map V.ref)) p7 = some (.lst ((us.drop (plN rows)).map V.ref)):=upd_same
  generalize upd H6 p7 (.lst ((us.drop (plN rows)).map V.ref)) = H7 at s7 g7 |-
  refine ⟨p6,p7,_,_,rfl,rfl,s7 _ _ g6,g7,le1000 (by rw [List.length_append,List.length_map,List.length_map,List.length_take,List.length_drop]; show min (plN rows) us.length + 1 + (us.length - plN rows)<=1000; omega),fun p8 hp8=>?_⟩
  have s8:=same_new hp8 (.lst ((us.take (plN rows)).map V.ref ++ [.ref u] ++ (us.drop (plN rows)).map V.ref))
  have g8:upd H7 p8 (.lst ((us.take (plN rows)).map V.ref ++ [.ref u] ++ (us.drop (plN rows)).map V.ref)) p8 = some (.lst ((us.take (plN rows) ++ [u] ++ us.drop (plN rows)).map V.ref)):=by rw [upd_same,List.map_append,List.map_append]; rfl
  generalize upd H7 p8 (.lst ((us.take (plN rows)).map V.ref ++ [.ref u] ++ (us.drop (plN rows)).map V.ref)) = H8 at s8 g8 |-
  have s38:=s36.trans (s7.trans s8)
  refine ⟨_,rfl,(by show 2<=sizeLine; decide),fun t9 ht9=>?_⟩
  have s9:=same_new ht9 (.tup [.ref p8,.ref lb])
  have s39:=s38.trans s9
  refine q t9 p8 _ (dblR rows r) _ (s13.trans s39) upd_same (s9 _ _ g8) ?_ (dbl_valid V1 hrm hrk h23)
  have hu9:=tats_same s39 hu3
  exact Paired.appP (Paired.appP (Paired.takeP _ hu9) (.cons (s39 _ _ tur) .nil)) (Paired.dropP _ hu9)
end
def isBoth (names:List Str) (r:Rw):Bool:=byNm r.k && decide (r.z ∈ names)
def fbF (names:List Str):Nat->List Rw->Option Nat
 | _,[]=>none
 | i,r :: rs=>if isBoth names r = true then some i else fbF names (i + 1) rs
def spFB (c:C5) (CF:Addr):Sp:=fun vs H Q _=>∃ (f a:Addr) (rows:List Rw) (bars names:List Str),vs = [.ref f,.ref a]/\FormOk c CF H f rows bars/\H a = some (.lst (names.map V.str))/\∀ H',Same H H'->Q (numV (fbF names 0 (rows.take (plN rows)))) H'
def needR (names:List Str) (r:Rw):Bool:=!fr r.k r.b && !isBoth names r
def fewF (names:List Str) (rows:List Rw):Nat->Nat
 | 0=>0
 | n + 1=>match rows[n]? with
  | some r=>if needR names r = true then n + 1 else fewF names rows n
  | none=>fewF names rows n
def mostF (names:List Str) (rows:List Rw):Option Nat:=match fbF names 0 (rows.take (plN rows)) with
 | some i=>some i
 | none=>if (firstK 2 0 rows).isSome = true then none else some (plN rows)
def neverF (rows:List Rw) (bars names:List Str):Bool:=(missF rows bars 0 names).any fun m=>m.1 != "lacking" || decide (plN rows<=m.2)
def roomF (rows:List Rw) (bars names:List Str):Option (Nat × Option Nat):=
 if neverF rows bars names = true then none
 else match mostF names rows with
  | some h=>if h < fewF names rows (plN rows) then none else some (fewF names rows (plN rows),some h)
  | none=>some (fewF names rows (plN rows),none)
def RoomAt (H:Hp) (v:V):Option (Nat × Option Nat)->Prop
 | none=>v = .non
 | some (l,h)=>∃ p,v = .ref p/\H p = some (.tup [.int (l:Nat),numV h])
def spFew (c:C5) (CF:Addr):Sp:=fun vs H Q _=>∃ (f a:Addr) (rows:List Rw) (bars names:List Str),vs = [.ref f,.ref a]/\FormOk c CF H f rows bars/\H a = some (.lst (names.map V.str))/\∀ H',Same H H'->Q (.int (fewF names rows (plN rows):Nat)) H'
def spMost (c:C5) (CF:Addr):Sp:=fun vs H Q _=>∃ (f a:Addr) (rows:List Rw) (bars names:List Str),vs = [.ref f,.ref a]/\FormOk c CF H f rows bars/\H a = some (.lst (names.map V.str))/\∀ H',Same H H'->Q (numV (mostF names rows)) H'
def spNever (c:C5) (CF:Addr):Sp:=fun vs H Q _=>∃ (f a:Addr) (rows:List Rw) (bars names:List Str),vs = [.ref f,.ref a]/\FormOk c CF H f rows bars/\H a = some (.lst (names.map V.str))/\names.length<=100/\∀ H',Same H H'->Q (.bl (neverF rows bars names)) H'
def spRoom (c:C5) (CF:Addr):Sp:=fun vs H Q _=>∃ (f a:Addr) (rows:List Rw) (bars names:List Str),vs = [.ref f,.ref a]/\FormOk c CF H f rows bars/\H a = some (.lst (names.map V.str))/\names.length<=100/\∀ (v:V) (H':Hp),Same H H'->RoomAt H' v (roomF rows bars names)->Q v H'
section
variable {P:Program} {w:World} {K:PySem.W.Frag} {mg:Str->Option Value} {base:Heap} {f CF:Addr} {fd:FuncData} {c:C5} {m:MA}
theorem scFB:FnScope ["form","names","number","parameter"] ["form","names"] (defScope sFBoth):=⟨rfl,rfl,rfl,by decide +kernel,rfl,by decide +kernel,by decide +kernel⟩
theorem ok_fb {gP gL:Addr} {eP eL gb:FuncData} (F:Fun K "first_both" "first_both" sFBoth f fd) (hen:mg "enumerate" = none) (FK:FC K CF) (PP:Pcs K m c) (mP:Meth K CF "parameters" gP) (GP:FnOk P w K mg base CX0 1 gP eP ["self"] (spPars c CF)) (bP:Binds K eP ["self"] []) (mL:Meth K CF "places" gL) (GL:FnOk P w K mg base CX0 1 gL eL ["self"] (spPlaces c CF)) (bL:Binds K eL ["self"] [])
  (GB:FnOk P w K mg base CX0 1 m.fB gb ["self"] (spIn K m bnL)) (bB:Binds K gb ["self"] []):FnOk P w K mg base CX0 2 f fd ["form","names"] (spFB c CF):=by
 refine F.ok scFB (fun vs H Q E h=>?_) (fun cdv A outer s H vs Q E hr h=>?_)
 ·obtain ⟨f,a,rows,bars,names,rfl,_⟩:=h
  rfl
 obtain ⟨f,a,rows,bars,names,rfl,hF,ha,q⟩:=h
 have hB:∀ C,Cs5 c C->Cls K C/\Meth K C "by_name" m.fB:=fun C ⟨k,hk,e⟩=>by rw [e]; exact ⟨(PP k hk).cl,(PP k hk).mB⟩
 refine ⟨_,pss_cons (ps_for PassesOwn.never rfl (pi_enum rfl hen (ac (pe_slice sl_list (pe_meth0 (pv 0) FK.cl mP GP hr bP .nil pass0) po_none (po_some (pe_meth0 (pv 0) FK.cl mL GL hr bL .nil pass0))) pa_nil)) (pg_tup rfl (pgs_cons (pg_name (i:=2) scFB.nd rfl (Or.inl rfl)) (pgs_cons (pg_name (i:=3) scFB.nd rfl (Or.inl rfl)) pgs_nil)))
   (pss_one (ps_if (PW.pt (pw_and (pt_val (pe_methP (pv 3) hB GB hr bB pass0)) (pw_and1 (pt_cmpR op_in_seq (pe_fld (pv 3) rfl) (pv 1) (by with_unfolding_all rfl))))) (pss_one (ps_ret (pv 2))) pss_nil)))
  (pss_one (ps_ret pe_non)),?_⟩
 obtain ⟨dx,fs,lr,lb,ld,ps0,h1,h2,h3,h4,h5,h6⟩:=id hF.at_
 have nmL:fs.lookup ("places" : Str) = none:=h2.no _ (by decide +kernel)
 have nmP:fs.lookup ("parameters" : Str) = none:=h2.no _ (by decide +kernel)
 refine ⟨_,rfl,f,dx,fs,rfl,h1,nmP,f,rows,bars,rfl,hF.at_,fun lp ps H1 s1 np ep hps=>?_⟩
 refine ⟨_,rfl,f,dx,fs,rfl,s1 _ _ h1,nmL,f,rows,bars,rfl,hF.at_.same s1,_,rfl,lp,_,rfl,SqL.of ep,fun p hp=>?_⟩
 rw [cut_takeN,<- List.map_take]
 have u2:=same_new hp (.lst ((ps.take (plN rows)).map V.ref))
 have e2:upd H1 p (.lst ((ps.take (plN rows)).map V.ref)) p = some (.lst ((ps.take (plN rows)).map V.ref)):=upd_same
 have hp2:=pats_same u2 (pairedTake hps (plN rows))
 have s2:=s1.trans u2
 generalize upd H1 p (.lst ((ps.take (plN rows)).map V.ref)) = H2 at u2 e2 hp2 s2 |-
 have rk:∀ r ∈ rows.take (plN rows),r.ok:=fun r h=>hF.ok r (List.mem_of_mem_take h)
 generalize rows.take (plN rows) = rw' at hp2 rk q
 generalize ps.take (plN rows) = pw at e2 hp2
 refine ⟨p,rfl,⟨_,SqL.of e2⟩,for_enum (K:=K) (a:=p) (xs:=pw.map V.ref) (fun i σ H'=>∃ v2 v3,σ = [some (.ref f),some (.ref a),v2,v3]/\Same H2 H'/\fbF names 0 rw' = fbF names i (rw'.drop i)) ⟨_,_,rfl,Same.refl _,rfl⟩ (fun i σ H' _ ⟨_,_,_,sH,_⟩=>SqL.of (sH _ _ e2)) ?_ ?_⟩
 ·rintro i x t σ H' hx ⟨v2,v3,rfl,sH,hb⟩ htn
  obtain ⟨pa,hpa,rfl⟩:=refs_at hx
  obtain ⟨r,hr',dx',hdx⟩:=paired_at hp2 hpa
  have rok:=rk r (List.mem_of_getElem? hr')
  have C:=PP r.k rok.1
  have hi:i < rw'.length:=(List.getElem?_eq_some_iff.mp hr').1
  have er:rw'[i] = r:=by rw [List.getElem?_eq_getElem hi] at hr'; exact Option.some.inj hr'
  rw [List.drop_eq_getElem_cons hi,er] at hb
  have hb':fbF names 0 rw' = if isBoth names r = true then some i else fbF names (i + 1) (rw'.drop (i + 1)):=hb
  have sp:=same_new htn (.tup [.int (i:Nat),.ref pa])
  refine ⟨t,_,rfl,SqT.of upd_same,rfl,_,_,rfl,_,_,rfl,rfl,?_⟩
  have s3:=sH.trans sp
  generalize upd H' t (.tup [.int (i:Nat),.ref pa]) = H3 at sp s3 |-
  have hd3:=s3 _ _ hdx
  refine ⟨_,rfl,pa,_,dx',_,rfl,⟨r.k,rok.1,rfl⟩,hd3,pf_no (by decide +kernel) (by decide +kernel) (by decide +kernel),pa,dx',_,_,_,_,rfl,C,hd3,_,rfl,?_⟩
  rw [in_nm r.k rok.1]
  cases eb:byNm r.k with
  | false=>
   have:isBoth names r = false:=by unfold isBoth; rw [eb]; rfl
   rw [this,if_neg Bool.false_ne_true] at hb'
   refine iteF ?_
   refine iteF ?_
   exact ⟨_,_,rfl,s3,hb'⟩
  | true=>
   have ei:isBoth names r = decide (r.z ∈ names):=by unfold isBoth; rw [eb]; rfl
   refine iteT ?_
   refine ⟨_,rfl,pa,_,dx',_,_,rfl,hd3,C.cl,C.nN,pf_name,_,rfl,a,_,rfl,.inl (SqL.of (s3 _ _ (s2 _ _ ha))),rfl,flatStrs,_,rfl,?_⟩
   rw [show (if false = true then !inV (V.str r.z) (names.map V.str) else inV (V.str r.z) (names.map V.str)) = decide (r.z ∈ names) from inStrs]
   refine ite2 (fun c1=>?_) (fun c1=>?_)
   ·rw [ei,if_pos c1] at hb'
    refine ⟨_,rfl,?_⟩
    have:=q H3 (s2.trans s3)
    rw [hb'] at this
    exact this
   ·rw [ei,if_neg c1] at hb'
    exact ⟨_,_,rfl,s3,hb'⟩
 ·rintro σ H' ⟨v2,v3,rfl,sH,hb⟩
  rw [List.length_map,hp2.length,List.drop_length] at hb
  have:=q H' (s2.trans sH)
  rw [hb] at this
  exact this
theorem scFew:FnScope ["form","names","parameters","number","parameter"] ["form","names"] (defScope sFewest):=⟨rfl,rfl,rfl,by decide +kernel,rfl,by decide +kernel,by decide +kernel⟩
theorem ok_few {gP gL:Addr} {eP eL gb gf:FuncData} (F:Fun K "fewest_by_place" "fewest_by_place" sFewest f fd) (hrg:mg "range" = none) (hrv:mg "reversed" = none) (FK:FC K CF) (PP:Pcs K m c) (mP:Meth K CF "parameters" gP) (GP:FnOk P w K mg base CX0 1 gP eP ["self"] (spPars c CF)) (bP:Binds K eP ["self"] []) (mL:Meth K CF "places" gL) (GL:FnOk P w K mg base CX0 1 gL eL ["self"] (spPlaces c CF)) (bL:Binds K eL ["self"] [])
  (GB:FnOk P w K mg base CX0 1 m.fB gb ["self"] (spIn K m bnL)) (bB:Binds K gb ["self"] []) (GF:FnOk P w K mg base CX0 1 m.fF gf ["self"] (spFree K m)) (bF:Binds K gf ["self"] []):FnOk P w K mg base CX0 2 f fd ["form","names"] (spFew c CF):=by
 refine F.ok scFew (fun vs H Q E h=>?_) (fun cdv A outer s H vs Q E hr h=>?_)
 ·obtain ⟨f,a,rows,bars,names,rfl,_⟩:=h
  rfl
 obtain ⟨f,a,rows,bars,names,rfl,hF,ha,q⟩:=h
 have hB:∀ C,Cs5 c C->Cls K C/\Meth K C "by_name" m.fB:=fun C ⟨k,hk,e⟩=>by rw [e]; exact ⟨(PP k hk).cl,(PP k hk).mB⟩
 have hFr:∀ C,Cs5 c C->Cls K C/\Meth K C "free" m.fF:=fun C ⟨k,hk,e⟩=>by rw [e]; exact ⟨(PP k hk).cl,(PP k hk).mF⟩
 refine ⟨_,pss_cons (ps_set (i:=2) scFew.nd rfl (Or.inl rfl) (pe_meth0 (pv 0) FK.cl mP GP hr bP .nil pass0))
  (pss_cons (ps_for PassesOwn.never rfl (pi_rev rfl hrg rfl hrv (ac (pe_meth0 (pv 0) FK.cl mL GL hr bL .nil pass0) pa_nil)) (pg_name (i:=3) scFew.nd rfl (Or.inl rfl))
   (pss_cons (ps_set (i:=4) scFew.nd rfl (Or.inl rfl) (pe_ix ix_list (pv 2) (pv 3) (fun _ _=>rfl)))
   (pss_one (ps_if (PW.pt (pw_and (pt_not (pt_val (pe_methP (pv 4) hFr GF hr bF pass0))) (pw_and1 (pt_not (PW.pt (pw_and (pt_val (pe_methP (pv 4) hB GB hr bB pass0)) (pw_and1 (pt_cmpR op_in_seq (pe_fld (pv 4) rfl) (pv 1) (by with_unfolding_all rfl))))))))) (pss_one (ps_ret (pe_op op_add (pv 3) pe_int))) pss_nil))))
  (pss_one (ps_ret pe_int))),?_⟩
 obtain ⟨dx,fs,lr,lb,ld,ps0,h1,h2,h3,h4,h5,h6⟩:=id hF.at_
 have nmL:fs.lookup ("places" : Str) = none:=h2.no _ (by decide +kernel)
 have nmP:fs.lookup ("parameters" : Str) = none:=h2.no _ (by decide +kernel)
 have lpl:plN rows<=rows.length:=List.length_filter_le _ _
 refine ⟨_,rfl,f,dx,fs,rfl,h1,nmP,f,rows,bars,rfl,hF.at_,fun lp ps H1 s1 np ep hps=>?_⟩
 have lps:ps.length = rows.length:=hps.length
 have l5:=hF.lr
 refine ⟨_,rfl,f,dx,fs,rfl,s1 _ _ h1,nmL,f,rows,bars,rfl,hF.at_.same s1,plN rows,rfl,by omega,?_⟩
 refine for_rev (n:=plN rows) (fun i σ H'=>∃ v3 v4,σ = [some (.ref f),some (.ref a),some (.ref lp),v3,v4]/\Same H1 H'/\i<=plN rows/\fewF names rows (plN rows) = fewF names rows (plN rows - i)) ⟨_,_,rfl,Same.refl _,Nat.zero_le _,rfl⟩ ?_ ?_
 ·rintro i σ H2 hi ⟨v3,v4,rfl,s2,_,hb⟩
  have ej:(plN rows:Int) - 1 - (i:Int) = ((plN rows - (i + 1):Nat):Int):=by omega
  rw [ej]
  obtain ⟨j,hj⟩:∃ j,plN rows - (i + 1) = j:=⟨_,rfl⟩
  have hj1:plN rows - i = j + 1:=by omega
  rw [hj]
  rw [hj1] at hb
  have hjr:j < rows.length:=by omega
  have hjp:j < ps.length:=by omega
  obtain ⟨r,hr',tp⟩:=paired_at hps (List.getElem?_eq_getElem hjp)
  have hb':fewF names rows (plN rows) = if needR names r = true then j + 1 else fewF names rows j:=by
   rw [hb]
   show (match rows[j]? with | some r=>if needR names r = true then j + 1 else fewF names rows j | none=>fewF names rows j) = _
   rw [hr']
  have rok:=hF.ok r (List.mem_of_getElem? hr')
  have C:=PP r.k rok.1
  refine ⟨_,rfl,_,rfl,lp,_,_,.ref ps[j],rfl,rfl,SqL.of (s2 _ _ ep),atI_nat (by rw [List.getElem?_map,List.getElem?_eq_getElem hjp]; rfl),?_⟩
  obtain ⟨dx',hdx⟩:=tp.same s2
  refine ⟨_,rfl,ps[j],_,dx',_,rfl,⟨r.k,rok.1,rfl⟩,hdx,pf_no (by decide +kernel) (by decide +kernel) (by decide +kernel),ps[j],dx',_,_,_,_,rfl,C,hdx,_,rfl,?_⟩
  have out:∀ (g:Bool) (b':Bool),needR names r = (g && b')->True:=fun _ _ _=>True.intro
  cases ef:fr r.k r.b with
  | true=>
   have en:needR names r = false:=by unfold needR; rw [ef]; rfl
   rw [en,if_neg Bool.false_ne_true] at hb'
   refine iteF ?_
   refine iteF ?_
   exact ⟨_,_,rfl,s2,by omega,hb'⟩
  | false=>
   refine iteT ?_
   refine ⟨_,rfl,ps[j],_,dx',_,rfl,⟨r.k,rok.1,rfl⟩,hdx,pf_no (by decide +kernel) (by decide +kernel) (by decide +kernel),ps[j],dx',_,_,_,_,rfl,C,hdx,_,rfl,?_⟩
   rw [in_nm r.k rok.1]
   cases eb:byNm r.k with
   | false=>
    have en:needR names r = true:=by unfold needR isBoth; rw [ef,eb]; rfl
    rw [en,if_pos rfl] at hb'
    refine iteF ?_
    refine iteT ?_
    refine ⟨_,rfl,_,_,rfl,rfl,?_⟩
    have:=q H2 (s1.trans s2)
    rw [hb'] at this
    exact this
   | true=>
    refine iteT ?_
    refine ⟨_,rfl,ps[j],_,dx',_,_,rfl,hdx,C.cl,C.nN,pf_name,_,rfl,a,_,rfl,.inl (SqL.of (s2 _ _ (s1 _ _ ha))),rfl,flatStrs,_,rfl,?_⟩
    have en:needR names r = !decide (r.z ∈ names):=by unfold needR isBoth; rw [ef,eb]; rfl
    rw [show (if false = true then !inV (V.str r.z) (names.map V.str) else inV (V.str r.z) (names.map V.str)) = decide (r.z ∈ names) from inStrs]
    by_cases hz:r.z ∈ names
    ·rw [en,decide_eq_true hz,if_neg (by decide)] at hb'
     rw [decide_eq_true hz]
     refine iteF ?_
     exact ⟨_,_,rfl,s2,by omega,hb'⟩
    ·rw [en,decide_eq_false hz,if_pos (by decide)] at hb'
     rw [decide_eq_false hz]
     refine iteT ?_
     refine ⟨_,rfl,_,_,rfl,rfl,?_⟩
     have:=q H2 (s1.trans s2)
     rw [hb'] at this
     exact this
 ·rintro σ H2 ⟨v3,v4,rfl,s2,_,hb⟩
  rw [Nat.sub_self] at hb
  have:=q H2 (s1.trans s2)
  rw [hb] at this
  exact this
end
theorem zip_out {α : Type} {R:Addr->α->Prop} {us:List Addr} {ms:List α} (h:Paired R us ms) (g : α->V):(((us.zip ms).filter fun _=>true).map fun p=>g p.2) = ms.map g:=by
 induction h with
 | nil=>rfl
 | cons r t ih=>
  rw [List.zip_cons_cons,List.filter_cons,if_pos rfl,List.map_cons,List.map_cons,ih]
def nevB (rows:List Rw) (m:Str × Nat):Bool:=m.1 != "lacking" || decide (plN rows<=m.2)
section
variable {P:Program} {w:World} {K:PySem.W.Frag} {mg:Str->Option Value} {base:Heap} {f CF:Addr} {fd:FuncData} {c:C5} {m:MA}
theorem scMost:FnScope ["form","names","told"] ["form","names"] (defScope sMost):=⟨rfl,rfl,rfl,by decide +kernel,rfl,by decide +kernel,by decide +kernel⟩
theorem ok_most {gB gT gL:Addr} {eB eT eL:FuncData} (F:Fun K "most_by_place" "most_by_place" sMost f fd) (cB':Callee P w K mg base 2 "first_both" gB eB ["form","names"] (spFB c CF)) (FK:FC K CF) (mT:Meth K CF "tail" gT) (GT:FnOk P w K mg base CX0 1 gT eT ["self"] (spWord c CF 2)) (bT:Binds K eT ["self"] []) (mL:Meth K CF "places" gL) (GL:FnOk P w K mg base CX0 1 gL eL ["self"] (spPlaces c CF)) (bL:Binds K eL ["self"] []):FnOk P w K mg base CX0 3 f fd ["form","names"] (spMost c CF):=by
 refine F.ok scMost (fun vs H Q E h=>?_) (fun cdv A outer s H vs Q E hr h=>?_)
 ·obtain ⟨f,a,rows,bars,names,rfl,_⟩:=h
  rfl
 obtain ⟨f,a,rows,bars,names,rfl,hF,ha,q⟩:=h
 have hr1:Room 1 _:=hr.mono (by decide)
 refine ⟨_,pss_cons (ps_set (i:=2) scMost.nd rfl (Or.inl rfl) (cF cB' hr (ac (pv 0) (ac (pv 1) pa_nil))))
  (pss_cons (ps_if (pt_cmp (pc_notN (pv 2))) (pss_one (ps_ret (pv 2))) pss_nil)
  (pss_cons (ps_if (pt_cmp (pc_notN (pe_meth0 (pv 0) FK.cl mT GT hr1 bT .nil pass0))) (pss_one (ps_ret pe_non)) pss_nil)
  (pss_one (ps_ret (pe_meth0 (pv 0) FK.cl mL GL hr1 bL .nil pass0))))),?_⟩
 refine ⟨_,rfl,_,rfl,f,a,rows,bars,names,rfl,hF,ha,fun H1 s1=>?_⟩
 have hF1:=hF.same s1
 obtain ⟨dx,fs,lr,lb,ld,ps0,h1,h2,h3,h4,h5,h6⟩:=id hF1.at_
 have nmL:fs.lookup ("places" : Str) = none:=h2.no _ (by decide +kernel)
 have nmT:fs.lookup ("tail" : Str) = none:=h2.no _ (by decide +kernel)
 have q:=q H1 s1
 unfold mostF at q
 cases e:fbF names 0 (rows.take (plN rows)) with
 | some i=>
  rw [e] at q
  refine ⟨_,rfl,_,rfl,?_⟩
  refine iteT ?_
  exact ⟨_,rfl,q⟩
 | none=>
  rw [e] at q
  refine ⟨_,rfl,_,rfl,?_⟩
  refine iteF ?_
  refine ⟨_,rfl,f,dx,fs,rfl,h1,nmT,f,rows,bars,rfl,hF1.at_,_,rfl,?_⟩
  cases e2:firstK 2 0 rows with
  | none=>
   rw [e2] at q
   refine iteF ?_
   exact ⟨_,rfl,f,dx,fs,rfl,h1,nmL,f,rows,bars,rfl,hF1.at_,q⟩
  | some j=>
   rw [e2] at q
   refine iteT ?_
   exact q
theorem ndN3:([Str.ofString "word",Str.ofString "number",Str.ofString "form"]:List Str).Nodup:=by decide +kernel
theorem scNever:FnScope ["form","names"] ["form","names"] (defScope sNever):=⟨rfl,rfl,rfl,by decide +kernel,rfl,by decide +kernel,by decide +kernel⟩
theorem ok_never {gM gL:Addr} {eM eL:FuncData} (F:Fun K "names_never_fit" "names_never_fit" sNever f fd) (hany:mg "any" = none) (cM:Callee P w K mg base 4 "misfits_of" gM eM ["form","many","names"] (spMOf c CF)) (FK:FC K CF) (mL:Meth K CF "places" gL) (GL:FnOk P w K mg base CX0 1 gL eL ["self"] (spPlaces c CF)) (bL:Binds K eL ["self"] []):FnOk P w K mg base CX0 5 f fd ["form","names"] (spNever c CF):=by
 refine F.ok scNever (fun vs H Q E h=>?_) (fun cdv A outer s H vs Q E hr h=>?_)
 ·obtain ⟨f,a,rows,bars,names,rfl,_⟩:=h
  rfl
 obtain ⟨f,a,rows,bars,names,rfl,hF,ha,l9,q⟩:=h
 have hr1:Room 1 _:=hr.mono (by decide)
 refine ⟨_,pss_one (ps_ret (cB (call_anyB rfl) hany PyProof.Rows.boot_any (ac (pe_lc ["form"] ["word","number","form"] [none,none,some 0] rfl ⟨rfl,rfl,rfl,rfl⟩ (pi_list (cF cM hr (ac (pv 0) (ac pe_int (ac (pv 1) pa_nil))))) (gown_tup2 (K:=K) (n:=2) 0 1) rfl rfl rfl
   (fun pins fp s H C=>⟨pg_tup rfl (pgs_cons (pg_name (i:=0) ndN3 rfl (Or.inl rfl) (.inr rfl)) (pgs_cons (pg_name (i:=1) ndN3 rfl (Or.inl rfl) (.inr rfl)) pgs_nil)),pif_nil,pe_or (pe_cmpR op_ne (pv 0) pe_str (nomark _)) (pe_one (pe_cmpR op_ge (pv 1) (pe_meth0 (pv 2) FK.cl mL GL hr1 bL .nil pass0) (nomark _)))⟩)) pa_nil))),?_⟩
 refine ⟨_,rfl,_,rfl,f,a,0,rows,bars,names,rfl,hF.lr,hF.lb,by decide,by omega,hF.ok,hF.at_,ha,fun l H1 s1 ⟨us,nl,el,ml⟩=>?_⟩
 have hF1:=hF.same s1
 obtain ⟨dx,fs,lr,lb,ld,ps0,h1,h2,h3,h4,h5,h6⟩:=id hF1.at_
 have nmL:fs.lookup ("places" : Str) = none:=h2.no _ (by decide +kernel)
 have lm:(missF rows bars 0 names).length<=1000:=by
  unfold missF
  have g1:=dblF_len (kvP (fpZ names)) names 0
  have g2:(overF rows 0).length<=0:=by
   unfold overF
   split
   ·exact Nat.le_refl _
   ·rw [List.length_map,List.length_range]; omega
  have g3:=unwF_len rows bars 0 (fpZ names)
  have g4:=lackF_len 0 (kvP (fpZ names)) rows 0
  have g6:(fpZ names).length<=names.length:=by
   have:=fpF_len names 0 []
   show (fpF 0 [] names).length<=_
   simpa using this
  have g5:=hF.lr
  simp only [List.length_append]
  omega
 refine ⟨l,rfl,⟨_,SqL.of el⟩,fun D hD=>?_⟩
 refine lc_zip (K:=K) MA1 (fun _=>true) (fun _ m'=>.bl (nevB rows m')) hD el ml lm (fun i u m' H' Nn S hu' hm' tr sH n1 s1'=>?_) (fun H2 s2 hD2=>?_)
 ·have tu:H' u = some (.tup [.str m'.1,.int (m'.2:Nat)]):=sH _ _ tr
  refine ⟨u,_,rfl,SqT.of tu,rfl,_,_,rfl,_,_,rfl,rfl,fun _=>?_,fun e=>Bool.noConfusion e⟩
  refine ⟨_,rfl,rfl,_,rfl,?_⟩
  by_cases hw:m'.1 = "lacking"
  ·refine iteNS (congrArg V.str hw) ?_
   have en:nevB rows m' = decide (((plN rows:Nat):Int)<=((m'.2:Nat):Int)):=by
    unfold nevB
    rw [hw,bne_self_eq_false,Bool.false_or,Bool.eq_iff_iff,decide_eq_true_eq,decide_eq_true_eq]
    omega
   refine ⟨_,rfl,_,rfl,f,dx,fs,rfl,sH _ _ h1,nmL,f,rows,bars,rfl,hF1.at_.same sH,_,_,rfl,rfl,?_⟩
   have:=n1 H' (Same.refl _) rfl
   rw [en] at this
   exact this
  ·refine iteB (by rw [decide_eq_false (fun e=>hw (V.str.inj e))]; rfl) ?_
   have en:nevB rows m' = true:=by
    unfold nevB
    rw [bne_iff_ne.mpr hw,Bool.true_or]
   have:=n1 H' (Same.refl _) rfl
   rw [en] at this
   exact this
 rw [zip_out ml (fun m'=>V.bl (nevB rows m'))] at hD2
 refine ⟨D,(missF rows bars 0 names).map (nevB rows),rfl,SqL.of (by rw [hD2,List.map_map]; rfl),?_⟩
 have:=q H2 (s1.trans s2)
 unfold neverF at this
 rw [show ((missF rows bars 0 names).map (nevB rows)).any id = (missF rows bars 0 names).any (nevB rows) by rw [List.any_map]; rfl]
 exact this
theorem scRoom:FnScope ["form","names","low","high"] ["form","names"] (defScope sRoom):=⟨rfl,rfl,rfl,by decide +kernel,rfl,by decide +kernel,by decide +kernel⟩
theorem ok_room {g1 g2 g3:Addr} {e1 e2 e3:FuncData} (F:Fun K "room" "room" sRoom f fd) (c1:Callee P w K mg base 5 "names_never_fit" g1 e1 ["form","names"] (spNever c CF)) (c2:Callee P w K mg base 2 "fewest_by_place" g2 e2 ["form","names"] (spFew c CF)) (c3:Callee P w K mg base 3 "most_by_place" g3 e3 ["form","names"] (spMost c CF)):FnOk P w K mg base CX0 6 f fd ["form","names"] (spRoom c CF):=by
 refine F.ok scRoom (fun vs H Q E h=>?_) (fun cdv A outer s H vs Q E hr h=>?_)
 ·obtain ⟨f,a,rows,bars,names,rfl,_⟩:=h
  rfl
 obtain ⟨f,a,rows,bars,names,rfl,hF,ha,l9,q⟩:=h
 have hr2:Room 2 _:=hr.mono (by decide)
 have hr3:Room 3 _:=hr.mono (by decide)
 refine ⟨_,pss_cons (ps_if (pt_val (cF c1 hr (ac (pv 0) (ac (pv 1) pa_nil)))) (pss_one (ps_ret pe_non)) pss_nil)
  (pss_cons (ps_set (i:=2) scRoom.nd rfl (Or.inl rfl) (cF c2 hr2 (ac (pv 0) (ac (pv 1) pa_nil))))
  (pss_cons (ps_set (i:=3) scRoom.nd rfl (Or.inl rfl) (cF c3 hr3 (ac (pv 0) (ac (pv 1) pa_nil))))
  (pss_cons (ps_if (PW.pt (pw_and (pt_cmp (pc_notN (pv 3))) (pw_and1 (pt_cmpR op_lt (pv 3) (pv 2) (nomark _))))) (pss_one (ps_ret pe_non)) pss_nil)
  (pss_one (ps_ret (pe_tup (ac (pv 2) (ac (pv 3) pa_nil)))))))),?_⟩
 refine ⟨_,rfl,_,rfl,f,a,rows,bars,names,rfl,hF,ha,l9,fun H1 s1=>⟨_,rfl,?_⟩⟩
 unfold roomF at q
 cases en:neverF rows bars names with
 | true=>
  rw [en,if_pos rfl] at q
  refine iteT ?_
  exact q .non H1 s1 rfl
 | false=>
  rw [en,if_neg Bool.false_ne_true] at q
  refine iteF ?_
  refine ⟨_,rfl,_,rfl,f,a,rows,bars,names,rfl,hF.same s1,s1 _ _ ha,fun H2 s2=>?_⟩
  have s02:=s1.trans s2
  refine ⟨_,rfl,_,rfl,f,a,rows,bars,names,rfl,hF.same s02,s02 _ _ ha,fun H3 s3=>?_⟩
  have s03:=s02.trans s3
  generalize fewF names rows (plN rows) = lo at q |-
  cases em:mostF names rows with
  | none=>
   rw [em] at q
   refine ⟨_,rfl,_,rfl,?_⟩
   refine iteF ?_
   refine iteF ?_
   refine ⟨_,rfl,_,rfl,(by show 2<=sizeLine; decide),fun p hp=>?_⟩
   exact q (.ref p) _ (s03.trans (same_new hp _)) ⟨p,rfl,upd_same⟩
  | some hi=>
   rw [em] at q
   refine ⟨_,rfl,_,rfl,?_⟩
   refine iteT ?_
   refine ⟨_,rfl,_,rfl,_,_,rfl,rfl,_,rfl,?_⟩
   have q:∀ (v:V) (H':Hp),Same H H'->RoomAt H' v (if hi < lo then none else some (lo,some hi))->Q v H':=q
   by_cases hl:hi < lo
   ·rw [if_pos hl] at q
    refine dT (by omega) ?_
    exact q .non H3 s03 rfl
   ·rw [if_neg hl] at q
    refine dF (by omega) ?_
    refine ⟨_,rfl,_,rfl,(by show 2<=sizeLine; decide),fun p hp=>?_⟩
    exact q (.ref p) _ (s03.trans (same_new hp _)) ⟨p,rfl,upd_same⟩
end
theorem val_put {κ : Type} [DecidableEq κ] {kvs:List (κ × V)} {k k' : κ} {v:V}:valV (putK kvs k v) k' = if k' = k then some v else valV kvs k':=valV_put kvs k k' v
theorem nms_cons (r:Rw) (rs:List Rw):nms (r :: rs) = (if byNm r.k = true then [r.z] else []) ++ nms rs:=by
 have:=nms_app [r] rs
 rw [nms_one] at this
 exact this
theorem doors_no {z:Str}:∀ (rows:List Rw) (i:Nat) (acc:List (Key × V)),z ∉ nms rows->valV (doorsF i acc rows) (.inr z) = valV acc (.inr z)
 | [],_,_,_=>rfl
 | r :: rs,i,acc,h=>by
  rw [nms_cons] at h
  have h2:z ∉ nms rs:=fun e=>h (List.mem_append_right _ e)
  show valV (doorsF (i + 1) _ rs) (.inr z) = _
  rw [doors_no rs (i + 1) _ h2]
  split
  next e=>
   rw [val_put,if_neg]
   intro e2
   rw [if_pos e] at h
   exact h (by rw [Sum.inr.inj e2]; exact List.mem_append_left _ (List.mem_singleton.mpr rfl))
  ·rfl
theorem doors_at {r:Rw} (hb:byNm r.k = true):∀ (rows:List Rw) (i j:Nat) (acc:List (Key × V)),rows[j]? = some r->(nms rows).Nodup->valV (doorsF i acc rows) (.inr r.z) = some (.int ((i + j:Nat):Int))
 | [],_,_,_,h,_=>by simp at h
 | y :: ys,i,0,acc,h,nd=>by
  have e:y = r:=by simpa using h
  subst e
  rw [nms_cons,if_pos hb] at nd
  have hz:y.z ∉ nms ys:=(List.nodup_cons.mp nd).1
  show valV (doorsF (i + 1) (if byNm y.k = true then putK acc (.inr y.z) (.int i) else acc) ys) (.inr y.z) = _
  rw [doors_no ys (i + 1) _ hz,if_pos hb,val_put,if_pos rfl]
  rfl
 | y :: ys,i,j + 1,acc,h,nd=>by
  rw [nms_cons] at nd
  have nd2:=(List.nodup_append.mp nd).2.1
  show valV (doorsF (i + 1) _ ys) (.inr r.z) = _
  rw [doors_at hb ys (i + 1) j _ (by simpa using h) nd2,show i + 1 + j = i + (j + 1) by omega]
theorem val_app {a b:List (Str × Nat)} {z:Str} {v:V} (h:valV (kvP a) (.inr z) = some v):valV (kvP (a ++ b)) (.inr z) = some v:=by
 unfold valV at h |-
 unfold kvP at h |-
 rw [List.map_append,List.find?_append]
 cases e:(a.map fun p=>((Sum.inr p.1:Key),V.int (p.2:Nat))).find? fun kv=>decide (kv.1 = .inr z) with
 | none=>rw [e] at h; cases h
 | some kv=>rw [e] at h; exact h
theorem val_new {a:List (Str × Nat)} {z:Str} {i:Nat} (h:(a.any fun p=>decide (p.1 = z)) = false):valV (kvP (a ++ [(z,i)])) (.inr z) = some (.int (i:Nat)):=by
 have e0:valV (kvP a) (.inr z) = none:=by
  rw [<- kvP_any] at h
  exact Option.not_isSome_iff_eq_none.mp (by rw [h]; exact Bool.false_ne_true)
 unfold valV at e0 |-
 unfold kvP at e0 |-
 rw [List.map_append,List.find?_append]
 cases e:(a.map fun p=>((Sum.inr p.1:Key),V.int (p.2:Nat))).find? fun kv=>decide (kv.1 = .inr z) with
 | none=>
  rw [Option.none_or,List.map_cons,List.find?_cons,decide_eq_true rfl]
  rfl
 | some kv=>rw [e] at e0; cases e0
theorem val_fp {z:Str} {v:V}:∀ (zs:List Str) (i:Nat) (acc:List (Str × Nat)),valV (kvP acc) (.inr z) = some v->valV (kvP (fpF i acc zs)) (.inr z) = some v
 | [],_,_,h=>h
 | y :: ys,i,acc,h=>by
  show valV (kvP (fpF (i + 1) (if (acc.any fun p=>decide (p.1 = y)) = true then acc else acc ++ [(y,i)]) ys)) _ = _
  split
  ·exact val_fp ys (i + 1) acc h
  ·exact val_fp ys (i + 1) _ (val_app h)
theorem any_mem {acc:List (Str × Nat)} {z:Str}:(acc.any fun p=>decide (p.1 = z)) = decide (z ∈ acc.map (·.1)):=by
 rw [Bool.eq_iff_iff,List.any_eq_true,decide_eq_true_eq,List.mem_map]
 exact ⟨fun ⟨p,h1,h2⟩=>⟨p,h1,of_decide_eq_true h2⟩,fun ⟨p,h1,h2⟩=>⟨p,h1,decide_eq_true h2⟩⟩
theorem nms_at {rows:List Rw} {z:Str} (h:z ∈ nms rows):∃ (l:Nat) (r:Rw),rows[l]? = some r/\byNm r.k = true/\r.z = z:=by
 unfold nms at h
 obtain ⟨r,hr,rfl⟩:=List.mem_map.mp h
 rw [List.mem_filter] at hr
 obtain ⟨l,hl⟩:=List.mem_iff_getElem?.mp hr.1
 exact ⟨l,r,hl,hr.2,rfl⟩
theorem unw_no {rows:List Rw} {bars:List Str} {many:Nat} {z:Str} (h:z ∉ bars) (hk:z ∉ nms rows):unwW rows bars many z = if (firstK 4 0 rows).isSome = true then none else some ("strange" : Str):=by
 have hv:=doors_no (z:=z) rows 0 [] hk
 have e1:unwW.lastD' z rows = none:=by unfold unwW.lastD'; rw [hv]; rfl
 unfold unwW
 rw [if_neg h,e1]
theorem firstK_some (kk:Nat):∀ (rows:List Rw) (i:Nat),(firstK kk i rows).isSome = rows.any fun r=>decide (r.k = kk)
 | [],_=>rfl
 | r :: rs,i=>by
  show (if r.k = kk then some i else firstK kk (i + 1) rs).isSome = (decide (r.k = kk) || rs.any _)
  by_cases h:r.k = kk
  ·rw [if_pos h,decide_eq_true h]; rfl
  ·rw [if_neg h,decide_eq_false h,Bool.false_or]; exact firstK_some kk rs (i + 1)
def sortsL (rows:List Rw):List Str:=rows.map fun r=>kw r.k
theorem kw_injE:∀ a,a < 5->∀ b,b < 5->kw a = kw b->a = b:=by decide +kernel
theorem sorts_in {rows:List Rw} (hok:∀ r ∈ rows,r.ok) {kk:Nat} (h:kk < 5):decide (kw kk ∈ sortsL rows) = (firstK kk 0 rows).isSome:=by
 rw [firstK_some,Bool.eq_iff_iff,decide_eq_true_eq,List.any_eq_true]
 unfold sortsL
 rw [List.mem_map]
 exact ⟨fun ⟨r,h1,h2⟩=>⟨r,h1,decide_eq_true (kw_injE _ (hok r h1).1 _ h h2)⟩,fun ⟨r,h1,h2⟩=>⟨r,h1,by rw [of_decide_eq_true h2]⟩⟩
theorem fp_app:∀ (a b:List Str) (j:Nat) (acc:List (Str × Nat)),fpF j acc (a ++ b) = fpF (j + a.length) (fpF j acc a) b
 | [],_,_,_=>rfl
 | z :: zs,b,j,acc=>by
  show fpF (j + 1) _ (zs ++ b) = fpF (j + (zs.length + 1)) (fpF (j + 1) _ zs) b
  rw [fp_app zs b (j + 1),show j + 1 + zs.length = j + (zs.length + 1) by omega]
theorem fp_lt:∀ (zs:List Str) (j:Nat) (acc:List (Str × Nat)),(∀ p ∈ acc,p.2 < j)->∀ p ∈ fpF j acc zs,p.2 < j + zs.length
 | [],_,_,h,p,hp=>h p hp
 | z :: zs,j,acc,h,p,hp=>by
  have h2:=fp_lt zs (j + 1) _ (fun q hq=>?_) p hp
  ·rw [List.length_cons]; omega
  ·split at hq
   ·have:=h q hq; omega
   ·rcases List.mem_append.mp hq with hq | hq
    ·have:=h q hq; omega
    ·rw [List.mem_singleton.mp hq]; exact Nat.lt_succ_self _
theorem take_snocS {zs:List Str} {i:Nat} {z:Str} (h:zs[i]? = some z):zs.take (i + 1) = zs.take i ++ [z]:=by
 have hi:i < zs.length:=(List.getElem?_eq_some_iff.mp h).1
 have e:zs[i] = z:=(List.getElem?_eq_some_iff.mp h).2
 rw [List.take_succ_eq_append_getElem hi,e]
theorem fp_snoc {zs:List Str} {i:Nat} {z:Str} (h:zs[i]? = some z):fpF 0 [] (zs.take (i + 1)) = if ((fpF 0 [] (zs.take i)).any fun p=>decide (p.1 = z)) = true then fpF 0 [] (zs.take i) else fpF 0 [] (zs.take i) ++ [(z,i)]:=by
 have hi:i < zs.length:=(List.getElem?_eq_some_iff.mp h).1
 rw [take_snocS h,fp_app]
 have el : 0 + (zs.take i).length = i:=by rw [List.length_take]; omega
 rw [el]
 rfl
theorem dbl_is {zs:List Str} {i:Nat} {z:Str} (h:zs[i]? = some z):decide (valV (kvP (fpZ zs)) (.inr z) = some (.int (i:Nat))) = !((fpF 0 [] (zs.take i)).any fun p=>decide (p.1 = z)):=by
 have hi:i < zs.length:=(List.getElem?_eq_some_iff.mp h).1
 have e:fpZ zs = fpF (i + 1) (fpF 0 [] (zs.take (i + 1))) (zs.drop (i + 1)):=by
  unfold fpZ
  conv=>lhs; rw [<- List.take_append_drop (i + 1) zs,fp_app]
  rw [show 0 + (zs.take (i + 1)).length = i + 1 by rw [List.length_take]; omega]
 cases hb:(fpF 0 [] (zs.take i)).any fun p=>decide (p.1 = z) with
 | true=>
  have hs:(valV (kvP (fpF 0 [] (zs.take i))) (.inr z)).isSome = true:=by rw [kvP_any]; exact hb
  obtain ⟨v,hv⟩:=Option.isSome_iff_exists.mp hs
  obtain ⟨z',j,ez,ev,hm⟩:=kvP_val hv
  have hj:=fp_lt (zs.take i) 0 [] (fun p hp=>by cases hp) _ hm
  rw [List.length_take] at hj
  have h2:=fp_snoc h
  rw [hb,if_pos rfl] at h2
  have h3:=val_fp (z:=z) (v:=v) (zs.drop (i + 1)) (i + 1) (fpF 0 [] (zs.take (i + 1))) (by rw [h2]; exact hv)
  rw [e,h3,ev]
  refine decide_eq_false fun e2=>?_
  have:(j:Int) = (i:Int):=V.int.inj (Option.some.inj e2)
  have hj':j < 0 + min i zs.length:=hj
  omega
 | false=>
  have h2:=fp_snoc h
  rw [hb,if_neg (by decide)] at h2
  have h3:=val_fp (z:=z) (v:=.int (i:Nat)) (zs.drop (i + 1)) (i + 1) (fpF 0 [] (zs.take (i + 1))) (by rw [h2]; exact val_new hb)
  rw [e,h3]
  exact decide_eq_true rfl
def wrongW (rows:List Rw) (bars:List Str) (many:Nat) (z:Str):Str:=(unwW rows bars many z).getD ""
theorem wrong_at {rows:List Rw} {bars:List Str} {many:Nat} {z:Str} (nd:(nms rows).Nodup) (h:z ∉ bars) {l:Nat} {r:Rw} (hl:rows[l]? = some r) (hb:byNm r.k = true) (he:r.z = z):wrongW rows bars many z = if l < min many (plN rows) then "again" else "":=by
 have hv:=doors_at hb rows 0 l [] hl nd
 rw [he] at hv
 have e1:unwW.lastD' z rows = some l:=by unfold unwW.lastD'; rw [hv,Nat.zero_add]; rfl
 unfold wrongW unwW
 rw [if_neg h,e1]
 show (if l < plN rows/\l < many then some ("again" : Str) else none).getD "" = _
 by_cases hc:l < plN rows/\l < many
 ·rw [if_pos hc,if_pos (by omega)]; rfl
 ·rw [if_neg hc,if_neg (by omega)]; rfl
theorem unw_words {rows:List Rw} {bars:List Str} {many:Nat} {z:Str}:unwW rows bars many z = if wrongW rows bars many z = "" then none else some (wrongW rows bars many z):=by
 unfold wrongW
 cases h:unwW rows bars many z with
 | none=>rfl
 | some x=>
  have hx:x ≠ "":=by
   unfold unwW at h
   split at h
   ·cases h; decide +kernel
   ·split at h
    ·split at h
     ·cases h
     ·cases h; decide +kernel
    ·split at h
     ·cases h; decide +kernel
     ·cases h
  rw [if_neg (show ¬ (some x).getD "" = "" from hx)]
  rfl
theorem lack_is {r:Rw} {i many:Nat} {fk:List (Key × V)}:isLack r i many fk = (!fr r.k r.b && !(byPl r.k && decide (i < many)) && !(byNm r.k && (valV fk (.inr r.z)).isSome)):=by
 unfold isLack oneE
 by_cases h1:byPl r.k = true/\i < many
 ·rw [if_pos h1,h1.1,decide_eq_true h1.2]
  have e:L2.eqT [.str "place",.int (i:Nat)] [.str "free"] = false:=rfl
  rw [e]
  simp
 ·rw [if_neg h1]
  have hn:(byPl r.k && decide (i < many)) = false:=by
   cases hp:byPl r.k with
   | false=>rfl
   | true=>exact decide_eq_false fun h=>h1 ⟨hp,h⟩
  rw [hn]
  by_cases h2:byNm r.k = true/\(valV fk (.inr r.z)).isSome = true
  ·rw [if_pos h2,h2.1,h2.2]
   have e:∀ v,L2.eqT [.str "name",v] [.str "free"] = false:=fun v=>by unfold L2.eqT; simp
   rw [e]
   simp
  ·rw [if_neg h2]
   have hn2:(byNm r.k && (valV fk (.inr r.z)).isSome) = false:=by
    cases hp:byNm r.k with
    | false=>rfl
    | true=>
     cases hq:(valV fk (.inr r.z)).isSome with
     | false=>rfl
     | true=>exact absurd ⟨hp,hq⟩ h2
   rw [hn2]
   have e:L2.eqT [.str "free"] [.str "free"] = true:=by unfold L2.eqT; simp [List.range_succ,eqV]
   rw [e]
   simp
theorem pl_at {rows:List Rw} (hok:∀ r ∈ rows,r.ok) (ho:ordOk 0 rows = true) {i:Nat} {r:Rw} (h:rows[i]? = some r):byPl r.k = decide (i < plN rows):=by
 obtain ⟨A,B,e,hl,hA,hB⟩:=split_pl rows hok ho
 have hn:plN rows = plN A + plN B:=by
  unfold plN
  rw [e,List.filter_append,List.length_append]
 have hA2:plN A = A.length:=by
  unfold plN
  rw [List.filter_eq_self.mpr fun x hx=>?_]
  rw [grp0 (hok x (by rw [e]; exact List.mem_append_left _ hx)).1,hA x hx]
  rfl
 have hB2:plN B = 0:=by omega
 have hB3:∀ x ∈ B,byPl x.k = false:=fun x hx=>by
  unfold plN at hB2
  rw [List.length_eq_zero_iff,List.filter_eq_nil_iff] at hB2
  have:=hB2 x hx
  simpa using this
 by_cases hi:i < plN rows
 ·rw [decide_eq_true hi]
  rw [e,List.getElem?_append_left (by omega)] at h
  have hm:=List.mem_of_getElem? h
  rw [grp0 (hok r (by rw [e]; exact List.mem_append_left _ hm)).1,hA r hm]
  rfl
 ·rw [decide_eq_false hi]
  rw [e,List.getElem?_append_right (by omega)] at h
  exact hB3 r (List.mem_of_getElem? h)
theorem fpZ_has {zs:List Str} {z:Str}:(valV (kvP (fpZ zs)) (.inr z)).isSome = decide (z ∈ zs):=by
 rw [kvP_any,Bool.eq_iff_iff,decide_eq_true_eq]
 constructor
 ·intro h
  have key:∀ (zs:List Str) (i:Nat) (acc:List (Str × Nat)),((fpF i acc zs).any fun p=>decide (p.1 = z)) = true->(acc.any fun p=>decide (p.1 = z)) = true\/z ∈ zs:=by
   intro zs
   induction zs with
   | nil=>exact fun i acc h=>.inl h
   | cons y ys ih=>
    intro i acc h
    rcases ih (i + 1) _ h with h | h
    ·split at h
     ·exact .inl h
     ·rw [List.any_append,Bool.or_eq_true] at h
      rcases h with h | h
      ·exact .inl h
      ·right
       simp at h
       rw [h]
       exact List.mem_cons_self
    ·exact .inr (List.mem_cons_of_mem _ h)
  rcases key zs 0 [] h with h | h
  ·simp at h
  ·exact h
 ·exact fun h=>fp_mem zs 0 [] h
theorem fpF_fst {zs:List Str} {z:Str}:z ∈ (fpZ zs).map (·.1) ↔ z ∈ zs:=by
 have h1:((fpZ zs).any fun p=>decide (p.1 = z)) = decide (z ∈ zs):=by rw [<- kvP_any,fpZ_has]
 rw [any_mem,Bool.eq_iff_iff,decide_eq_true_eq,decide_eq_true_eq] at h1
 exact h1
theorem unw_nil {rows:List Rw} {bars:List Str} {many:Nat} {zs:List Str}:unwF rows bars many (fpZ zs) = [] ↔ ∀ z ∈ zs,unwW rows bars many z = none:=by
 unfold unwF
 rw [List.filterMap_eq_nil_iff]
 constructor
 ·intro h z hz
  obtain ⟨p,hp,rfl⟩:=List.mem_map.mp (fpF_fst.mpr hz)
  have:=h p hp
  rwa [Option.map_eq_none_iff] at this
 ·intro h p hp
  rw [Option.map_eq_none_iff]
  exact h _ (fpF_fst.mp (List.mem_map.mpr ⟨p,hp,rfl⟩))
theorem dblF_nil {fk:List (Key × V)}:∀ (zs:List Str) (i:Nat),dblF fk i zs = [] ↔ ∀ j z,zs[j]? = some z->valV fk (.inr z) = some (.int ((i + j:Nat):Int))
 | [],i=>by simp [dblF]
 | y :: ys,i=>by
  show (if valV fk (.inr y) = some (.int (i:Nat)) then [] else [(("doubled" : Str),i)]) ++ dblF fk (i + 1) ys = [] ↔ _
  rw [List.append_eq_nil_iff,dblF_nil ys (i + 1)]
  constructor
  ·rintro ⟨h1,h2⟩ j z hj
   cases j with
   | zero=>
    have:y = z:=by simpa using hj
    subst this
    split at h1
    next e=>exact e
    ·cases h1
   | succ j=>
    have:=h2 j z (by simpa using hj)
    rw [this]
    congr 3
    omega
  ·intro h
   refine ⟨?_,fun j z hj=>?_⟩
   ·have h0:=h 0 y rfl
    rw [Nat.add_zero] at h0
    rw [if_pos h0]
   ·have:=h (j + 1) z (by simpa using hj)
    rw [this]
    congr 3
    omega
theorem fpT {zs:List Str} {z:Str}:((fpF 0 [] zs).any fun p=>decide (p.1 = z)) = decide (z ∈ zs):=by
 have:=fpZ_has (zs:=zs) (z:=z)
 rw [kvP_any] at this
 exact this
theorem dbl_nil {zs:List Str}:dblF (kvP (fpZ zs)) 0 zs = [] ↔ zs.Nodup:=by
 rw [dblF_nil,List.nodup_iff_pairwise_ne]
 constructor
 ·intro h
  rw [List.pairwise_iff_getElem]
  intro i j hi hj hij e
  have h1:=dbl_is (zs:=zs) (i:=j) (z:=zs[j]) (List.getElem?_eq_getElem hj)
  have h2:=h j _ (List.getElem?_eq_getElem hj)
  rw [Nat.zero_add] at h2
  rw [decide_eq_true h2,fpT] at h1
  have hm:zs[j] ∈ zs.take j:=by
   rw [<- e]
   rw [List.mem_iff_getElem]
   exact ⟨i,by rw [List.length_take]; omega,by rw [List.getElem_take]⟩
  rw [decide_eq_true hm] at h1
  cases h1
 ·intro h j z hj
  have h1:=dbl_is hj
  rw [fpT] at h1
  have hn:z ∉ zs.take j:=by
   intro hm
   obtain ⟨i,hi,e⟩:=List.mem_iff_getElem.mp hm
   rw [List.length_take] at hi
   rw [List.getElem_take] at e
   have hjl:j < zs.length:=(List.getElem?_eq_some_iff.mp hj).1
   have:=(List.pairwise_iff_getElem.mp h) i j (by omega) hjl (by omega)
   rw [List.getElem?_eq_getElem hjl] at hj
   exact this (e.trans (Option.some.inj hj).symm)
  rw [decide_eq_false hn] at h1
  rw [Nat.zero_add]
  exact of_decide_eq_true h1
theorem over_nil {rows:List Rw} {many:Nat}:overF rows many = [] ↔ ((firstK 2 0 rows).isSome = true\/many<=plN rows):=by
 unfold overF
 split
 next h=>simp [h]
 next h=>
  rw [List.map_eq_nil_iff,List.range_eq_nil]
  constructor
  ·intro e; right; omega
  ·rintro (e | e)
   ·exact absurd e h
   ·omega
theorem lackF_nil {many:Nat} {fk:List (Key × V)}:∀ (rows:List Rw) (i:Nat),lackF many fk i rows = [] ↔ ∀ j r,rows[j]? = some r->isLack r (i + j) many fk = false
 | [],i=>by simp [lackF]
 | y :: ys,i=>by
  show (if isLack y i many fk = true then [(("lacking" : Str),i)] else []) ++ lackF many fk (i + 1) ys = [] ↔ _
  rw [List.append_eq_nil_iff,lackF_nil ys (i + 1)]
  constructor
  ·rintro ⟨h1,h2⟩ j z hj
   cases j with
   | zero=>
    have:y = z:=by simpa using hj
    subst this
    split at h1
    ·cases h1
    next e=>exact Bool.eq_false_iff.mpr e
   | succ j=>
    have:=h2 j z (by simpa using hj)
    rw [show i + (j + 1) = i + 1 + j by omega]
    exact this
  ·intro h
   refine ⟨?_,fun j z hj=>?_⟩
   ·have:=h 0 y rfl
    rw [Nat.add_zero] at this
    rw [if_neg (by rw [this]; decide)]
   ·have:=h (j + 1) z (by simpa using hj)
    rw [show i + 1 + j = i + (j + 1) by omega]
    exact this
theorem lack_mem {many:Nat} {fk:List (Key × V)} {m:Str × Nat}:∀ (rows:List Rw) (i:Nat),m ∈ lackF many fk i rows ↔ m.1 = "lacking"/\∃ j r,rows[j]? = some r/\m.2 = i + j/\isLack r (i + j) many fk = true
 | [],i=>by simp [lackF]
 | y :: ys,i=>by
  show m ∈ (if isLack y i many fk = true then [(("lacking" : Str),i)] else []) ++ lackF many fk (i + 1) ys ↔ _
  rw [List.mem_append,lack_mem ys (i + 1)]
  constructor
  ·rintro (h | ⟨h1,j,r,h2,h3,h4⟩)
   ·split at h
    next e=>
     have:m = (("lacking" : Str),i):=by simpa using h
     subst this
     exact ⟨rfl,0,y,rfl,rfl,e⟩
    ·cases h
   ·exact ⟨h1,j + 1,r,by simpa using h2,by omega,by rw [show i + (j + 1) = i + 1 + j by omega]; exact h4⟩
  ·rintro ⟨h1,j,r,h2,h3,h4⟩
   cases j with
   | zero=>
    have:y = r:=by simpa using h2
    subst this
    left
    rw [Nat.add_zero] at h4
    rw [if_pos h4]
    rw [List.mem_singleton]
    exact Prod.ext h1 h3
   | succ j=>
    right
    exact ⟨h1,j,r,by simpa using h2,by omega,by rw [show i + 1 + j = i + (j + 1) by omega]; exact h4⟩
def Nv (rows:List Rw) (bars names:List Str):Prop:=names.Nodup/\(∀ z ∈ names,unwW rows bars 0 z = none)/\∀ i r,rows[i]? = some r->plN rows<=i->fr r.k r.b = true\/isBoth names r = true
theorem lack_it {names:List Str} {r:Rw} {i many:Nat}:isLack r i many (kvP (fpZ names)) = (needR names r && !(byPl r.k && decide (i < many))):=by
 rw [lack_is,fpZ_has]
 unfold needR isBoth
 cases fr r.k r.b <;> cases byPl r.k <;> cases byNm r.k <;> simp [Bool.and_comm]
theorem need_no {names:List Str} {r:Rw}:needR names r = false ↔ (fr r.k r.b = true\/isBoth names r = true):=by
 unfold needR
 cases fr r.k r.b <;> cases isBoth names r <;> simp
theorem unw_word {rows:List Rw} {bars:List Str} {many:Nat} {z wd:Str} (h:unwW rows bars many z = some wd):wd ≠ "lacking":=by
 unfold unwW at h
 split at h
 ·cases h; decide +kernel
 ·split at h
  ·split at h
   ·cases h
   ·cases h; decide +kernel
  ·split at h
   ·cases h; decide +kernel
   ·cases h
theorem never_iff {rows:List Rw} {bars names:List Str} (V1:Valid rows bars):neverF rows bars names = false ↔ Nv rows bars names:=by
 unfold neverF missF Nv
 have ho:overF rows 0 = []:=over_nil.mpr (.inr (Nat.zero_le _))
 rw [ho,List.append_nil,List.any_append,List.any_append,Bool.or_eq_false_iff,Bool.or_eq_false_iff,and_assoc]
 refine and_congr ?_ (and_congr ?_ ?_)
 ·rw [<- dbl_nil,List.any_eq_false]
  constructor
  ·intro h
   rw [List.eq_nil_iff_forall_not_mem]
   intro m hm
   have h2:=h m hm
   have hw:∀ (zs:List Str) (i:Nat),m ∈ dblF (kvP (fpZ names)) i zs->m.1 = "doubled":=by
    intro zs
    induction zs with
    | nil=>intro i h; cases h
    | cons y ys ih=>
     intro i h
     rcases List.mem_append.mp (show m ∈ (if valV (kvP (fpZ names)) (.inr y) = some (.int (i:Nat)) then [] else [(("doubled" : Str),i)]) ++ dblF (kvP (fpZ names)) (i + 1) ys from h) with h | h
     ·split at h
      ·cases h
      ·rw [List.mem_singleton] at h
       rw [h]
     ·exact ih _ h
   rw [hw names 0 hm] at h2
   exact h2 (by rw [Bool.or_eq_true]; exact .inl (by decide +kernel))
  ·intro e
   rw [e]
   exact fun m hm=>by cases hm
 ·rw [<- unw_nil,List.any_eq_false]
  constructor
  ·intro h
   rw [List.eq_nil_iff_forall_not_mem]
   intro m hm
   have h2:=h m hm
   unfold unwF at hm
   obtain ⟨p,hp,e⟩:=List.mem_filterMap.mp hm
   rw [Option.map_eq_some_iff] at e
   obtain ⟨wd,hwd,rfl⟩:=e
   exact h2 (by rw [Bool.or_eq_true]; exact .inl (bne_iff_ne.mpr (unw_word hwd)))
  ·intro e
   rw [e]
   exact fun m hm=>by cases hm
 ·rw [List.any_eq_false]
  constructor
  ·intro h i r hr hi
   rw [<- need_no,Bool.eq_false_iff]
   intro hn
   have hp:=pl_at V1.ok V1.ord hr
   have hl:isLack r (0 + i) 0 (kvP (fpZ names)) = true:=by
    rw [lack_it,hn,hp,decide_eq_false (by omega)]; rfl
   exact h (("lacking" : Str),0 + i) ((lack_mem rows 0).mpr ⟨rfl,i,r,hr,rfl,hl⟩) (by rw [Bool.or_eq_true]; exact .inr (decide_eq_true (by show plN rows<=0 + i; omega)))
  ·intro h m hm hb
   obtain ⟨h1,j,r,hr,h2,h3⟩:=(lack_mem rows 0).mp hm
   rw [h1,bne_self_eq_false,Bool.false_or,decide_eq_true_eq] at hb
   have:=need_no.mpr (h j r hr (by omega))
   rw [lack_it,this] at h3
   cases h3
theorem unw_zero {rows:List Rw} {bars:List Str} {many:Nat} {z:Str} (V1:Valid rows bars):unwW rows bars many z = none ↔ (unwW rows bars 0 z = none/\∀ l r,rows[l]? = some r->l < plN rows->l < many->byNm r.k = true->r.z ≠ z):=by
 have nd:(nms rows).Nodup:=(List.nodup_append.mp V1.nd).1
 by_cases hb:z ∈ bars
 ·have e:∀ m,unwW rows bars m z = some ("barred" : Str):=fun m=>if_pos hb
  rw [e,e]
  simp
 ·by_cases hk:z ∈ nms rows
  ·obtain ⟨l,r,hl,hbn,he⟩:=nms_at hk
   have hlu:∀ l' r',rows[l']? = some r'->byNm r'.k = true->r'.z = z->l' = l:=fun l' r' hl' hb' he'=>by
    have h1:=doors_at hbn rows 0 l [] hl nd
    have h2:=doors_at hb' rows 0 l' [] hl' nd
    rw [he] at h1
    rw [he',h1] at h2
    have:=V.int.inj (Option.some.inj h2)
    omega
   have w:∀ m,unwW rows bars m z = if l < min m (plN rows) then some ("again" : Str) else none:=fun m=>by
    rw [unw_words,wrong_at nd hb hl hbn he]
    split
    ·rw [if_neg (by decide +kernel)]
    ·rw [if_pos rfl]
   rw [w,w]
   constructor
   ·intro h
    split at h
    ·cases h
    next hn=>
     refine ⟨by rw [if_neg (by omega)],fun l' r' hl' h1 h2 hb' he'=>?_⟩
     have:=hlu l' r' hl' hb' he'
     omega
   ·rintro ⟨_,h⟩
    rw [if_neg]
    intro hlt
    exact h l r hl (by omega) (by omega) hbn he
  ·rw [unw_no hb hk,unw_no hb hk]
   constructor
   ·intro h
    refine ⟨h,fun l r hl _ _ hbn he=>hk ?_⟩
    unfold nms
    exact List.mem_map.mpr ⟨r,List.mem_filter.mpr ⟨List.mem_of_getElem? hl,hbn⟩,he⟩
   ·exact fun h=>h.1
theorem few_le {names:List Str} {rows:List Rw} {many:Nat}:∀ n,fewF names rows n<=many ↔ ∀ i r,i < n->rows[i]? = some r->needR names r = true->i < many
 | 0=>by simp [fewF]
 | n + 1=>by
  have ih:=few_le (names:=names) (rows:=rows) (many:=many) n
  unfold fewF
  split
  next r hr=>
   split
   next hn=>
    constructor
    ·intro h i _ hi _ _; omega
    ·intro h; exact h n r (by omega) hr hn
   next hn=>
    rw [ih]
    constructor
    ·intro h i r' hi hr' hn'
     by_cases e:i = n
     ·subst e
      rw [hr] at hr'
      cases hr'
      exact absurd hn' hn
     ·exact h i r' (by omega) hr' hn'
    ·exact fun h i r' hi=>h i r' (by omega)
  next hr=>
   rw [ih]
   constructor
   ·intro h i r' hi hr' hn'
    by_cases e:i = n
    ·subst e; rw [hr] at hr'; cases hr'
    ·exact h i r' (by omega) hr' hn'
   ·exact fun h i r' hi=>h i r' (by omega)
theorem fb_spec {names:List Str}:∀ (L:List Rw) (i:Nat),(fbF names i L = none/\∀ (j:Nat) (r:Rw),L[j]? = some r->isBoth names r = false)\/∃ (t:Nat) (r:Rw),fbF names i L = some (i + t)/\L[t]? = some r/\isBoth names r = true/\∀ (j:Nat) (r':Rw),j < t->L[j]? = some r'->isBoth names r' = false
 | [],i=>.inl ⟨rfl,fun j r h=>by simp at h⟩
 | y :: ys,i=>by
  by_cases hy:isBoth names y = true
  ·refine .inr ⟨0,y,?_,rfl,hy,fun j r' h=>absurd h (by omega)⟩
   show (if isBoth names y = true then some i else _) = _
   rw [if_pos hy]; rfl
  ·have e:fbF names i (y :: ys) = fbF names (i + 1) ys:=if_neg hy
   rcases fb_spec (names:=names) ys (i + 1) with ⟨h1,h2⟩ | ⟨t,r,h1,h2,h3,h4⟩
   ·refine .inl ⟨by rw [e,h1],fun j r hj=>?_⟩
    cases j with
    | zero=>cases hj; exact Bool.eq_false_iff.mpr hy
    | succ j=>exact h2 j r (by simpa using hj)
   ·refine .inr ⟨t + 1,r,by rw [e,h1]; congr 1; omega,by simpa using h2,h3,fun j r' hj hr=>?_⟩
    cases j with
    | zero=>cases hr; exact Bool.eq_false_iff.mpr hy
    | succ j=>exact h4 j r' (by omega) (by simpa using hr)
theorem miss_iff {rows:List Rw} {bars names:List Str} {many:Nat} (V1:Valid rows bars):missF rows bars many names = [] ↔ (Nv rows bars names/\((firstK 2 0 rows).isSome = true\/many<=plN rows)/\(∀ l r,rows[l]? = some r->l < plN rows->l < many->isBoth names r = false)/\fewF names rows (plN rows)<=many):=by
 unfold missF Nv
 rw [List.append_eq_nil_iff,List.append_eq_nil_iff,List.append_eq_nil_iff,dbl_nil,over_nil,unw_nil,lackF_nil,few_le]
 constructor
 ·rintro ⟨⟨⟨h1,h2⟩,h3⟩,h4⟩
  have u:=fun z hz=>(unw_zero (many:=many) V1).mp (h3 z hz)
  refine ⟨⟨h1,fun z hz=>(u z hz).1,fun i r hr hi=>?_⟩,h2,fun l r hr hl hm=>?_,fun i r hi hr hn=>?_⟩
  ·have:=h4 i r hr
   rw [lack_it,pl_at V1.ok V1.ord hr,decide_eq_false (by omega),Bool.false_and,Bool.not_false,Bool.and_true] at this
   exact need_no.mp this
  ·rw [Bool.eq_false_iff]
   intro hb
   unfold isBoth at hb
   rw [Bool.and_eq_true,decide_eq_true_eq] at hb
   exact (u r.z hb.2).2 l r hr hl hm hb.1 rfl
  ·have:=h4 i r hr
   rw [lack_it,hn,Bool.true_and,pl_at V1.ok V1.ord hr,decide_eq_true hi,Bool.true_and,Bool.not_eq_false',decide_eq_true_eq] at this
   omega
 ·rintro ⟨⟨h1,h2,h3⟩,h4,h5,h6⟩
  refine ⟨⟨⟨h1,h4⟩,fun z hz=>(unw_zero V1).mpr ⟨h2 z hz,fun l r hr hl hm hb he=>?_⟩⟩,fun i r hr=>?_⟩
  ·have:=h5 l r hr hl hm
   unfold isBoth at this
   rw [hb,he,decide_eq_true hz] at this
   cases this
  ·rw [lack_it,Nat.zero_add]
   by_cases hi:i < plN rows
   ·rw [pl_at V1.ok V1.ord hr,decide_eq_true hi,Bool.true_and]
    cases hn:needR names r
    ·rfl
    ·rw [decide_eq_true (h6 i r hi hr hn)]; rfl
   ·rw [need_no.mpr (h3 i r hr (by omega))]; rfl
def withB:Option (Nat × Option Nat)->Nat->Bool
 | none,_=>false
 | some (l,none),many=>decide (l<=many)
 | some (l,some h),many=>decide (l<=many) && decide (many<=h)
theorem room_fits {rows:List Rw} {bars names:List Str} {many:Nat} (V1:Valid rows bars):(missF rows bars many names).isEmpty = withB (roomF rows bars names) many:=by
 rw [Bool.eq_iff_iff,List.isEmpty_iff,miss_iff V1]
 have hnv:=never_iff (names:=names) V1
 have lt:plN rows<=rows.length:=List.length_filter_le _ _
 unfold roomF
 cases en:neverF rows bars names with
 | true=>
  rw [if_pos rfl]
  constructor
  ·rintro ⟨h,_⟩
   rw [hnv.mpr h] at en
   cases en
  ·intro h; cases h
 | false=>
  rw [if_neg Bool.false_ne_true]
  have nv:=hnv.mp en
  unfold mostF
  have tk:∀ {j:Nat} {r:Rw},(rows.take (plN rows))[j]? = some r ↔ j < plN rows/\rows[j]? = some r:=fun {j r}=>by
   rw [List.getElem?_take]
   split
   next h=>simp [h]
   next h=>simp [h]
  rcases fb_spec (names:=names) (rows.take (plN rows)) 0 with ⟨h1,h2⟩ | ⟨t,r,h1,h2,h3,h4⟩
  ·rw [h1]
   have nob:∀ l r,rows[l]? = some r->l < plN rows->l < many->isBoth names r = false:=fun l r hr hl _=>h2 l r (tk.mpr ⟨hl,hr⟩)
   by_cases ht:(firstK 2 0 rows).isSome = true
   ·simp only [if_pos ht]
    show _ ↔ decide _ = true
    rw [decide_eq_true_eq]
    exact ⟨fun h=>h.2.2.2,fun h=>⟨nv,.inl ht,nob,h⟩⟩
   ·simp only [if_neg ht]
    have hf:fewF names rows (plN rows)<=plN rows:=(few_le _).mpr fun i r hi _ _=>hi
    rw [if_neg (by omega)]
    show _ ↔ (decide _ && decide _) = true
    rw [Bool.and_eq_true,decide_eq_true_eq,decide_eq_true_eq]
    exact ⟨fun h=>⟨h.2.2.2,h.2.1.resolve_left ht⟩,fun h=>⟨nv,.inr h.2,nob,h.1⟩⟩
  ·rw [h1,Nat.zero_add]
   obtain ⟨htp,htr⟩:=tk.mp h2
   show _ ↔ withB (if t < fewF names rows (plN rows) then none else some (fewF names rows (plN rows),some t)) many = true
   have iff1:(Nv rows bars names/\((firstK 2 0 rows).isSome = true\/many<=plN rows)/\(∀ l r,rows[l]? = some r->l < plN rows->l < many->isBoth names r = false)/\fewF names rows (plN rows)<=many) ↔ (fewF names rows (plN rows)<=many/\many<=t):=by
    constructor
    ·rintro ⟨_,_,h5,h6⟩
     refine ⟨h6,?_⟩
     apply Nat.le_of_not_lt
     intro hlt
     rw [h5 t r htr htp hlt] at h3
     cases h3
    ·rintro ⟨h5,h6⟩
     exact ⟨nv,.inr (by omega),fun l r' hr' hl hm=>h4 l r' (by omega) (tk.mpr ⟨hl,hr'⟩),h5⟩
   rw [iff1]
   split
   next h=>
    show _ ↔ false = true
    constructor
    ·intro h; omega
    ·intro h; cases h
   next h=>
    show _ ↔ (decide _ && decide _) = true
    rw [Bool.and_eq_true,decide_eq_true_eq,decide_eq_true_eq]
theorem both_rev (names:List Str):isBoth names.reverse = isBoth names:=funext fun r=>by unfold isBoth; simp
theorem few_rev (names:List Str) (rows:List Rw):∀ n,fewF names.reverse rows n = fewF names rows n
 | 0=>rfl
 | n + 1=>by unfold fewF needR; rw [both_rev,few_rev names rows n]
theorem fb_rev (names:List Str):∀ (L:List Rw) (i:Nat),fbF names.reverse i L = fbF names i L
 | [],_=>rfl
 | y :: ys,i=>by unfold fbF; rw [both_rev,fb_rev names ys (i + 1)]
theorem never_rev {rows:List Rw} {bars names:List Str} (V1:Valid rows bars):neverF rows bars names.reverse = neverF rows bars names:=by
 have h1:=never_iff (names:=names) V1
 have h2:=never_iff (names:=names.reverse) V1
 have h3:Nv rows bars names.reverse ↔ Nv rows bars names:=by
  unfold Nv
  rw [both_rev,(List.reverse_perm names).nodup_iff]
  simp only [List.mem_reverse]
 rw [h3,<- h1] at h2
 cases e:neverF rows bars names
 ·exact h2.mpr e
 ·cases e2:neverF rows bars names.reverse
  ·rw [h2.mp e2] at e; cases e
  ·rfl
theorem room_rev {rows:List Rw} {bars names:List Str} (V1:Valid rows bars):roomF rows bars names.reverse = roomF rows bars names:=by
 unfold roomF mostF
 rw [never_rev V1,fb_rev,few_rev]
def endB (rows:List Rw) (names:List Str):Bool:=(rows.filter fun r=>decide (r.k = 1) && decide (r.z ∈ names)).isEmpty && (firstK 2 0 rows).isSome
theorem room_end {rows:List Rw} {bars names:List Str} (V1:Valid rows bars) {l:Nat} {h:Option Nat} (e:roomF rows bars names = some (l,h)):h.isNone = endB rows names:=by
 have hm:mostF names rows = h:=by
  unfold roomF at e
  split at e
  ·cases e
  ·split at e
   next h' hh=>
    split at e
    ·cases e
    ·cases e; exact hh
   next hh=>cases e; exact hh
 have key:(rows.filter fun r=>decide (r.k = 1) && decide (r.z ∈ names)).isEmpty = (fbF names 0 (rows.take (plN rows))).isNone:=by
  have tk:∀ {j:Nat} {r:Rw},(rows.take (plN rows))[j]? = some r ↔ j < plN rows/\rows[j]? = some r:=fun {j r}=>by
   rw [List.getElem?_take]
   split
   next h=>simp [h]
   next h=>simp [h]
  have k1:∀ k,byPl k = true->(byNm k = true ↔ k = 1):=by
   intro k hp
   unfold byPl at hp
   unfold byNm
   simp at hp |-
   omega
  rw [Bool.eq_iff_iff,List.isEmpty_iff,List.filter_eq_nil_iff,Option.isNone_iff_eq_none]
  rcases fb_spec (names:=names) (rows.take (plN rows)) 0 with ⟨h1,h2⟩ | ⟨t,r,h1,h2,h3,h4⟩
  ·rw [h1]
   refine ⟨fun _=>rfl,fun _ r hr hb=>?_⟩
   obtain ⟨j,hj⟩:=List.getElem?_of_mem hr
   rw [Bool.and_eq_true,decide_eq_true_eq,decide_eq_true_eq] at hb
   have hp:=pl_at V1.ok V1.ord hj
   rw [hb.1] at hp
   have hj':j < plN rows:=of_decide_eq_true (by rw [<- hp]; rfl)
   have:=h2 j r (tk.mpr ⟨hj',hj⟩)
   unfold isBoth at this
   rw [hb.1,decide_eq_true hb.2] at this
   cases this
  ·rw [h1]
   refine ⟨fun h=>?_,fun h=>by cases h⟩
   obtain ⟨htp,htr⟩:=tk.mp h2
   have hp:=pl_at V1.ok V1.ord htr
   rw [decide_eq_true htp] at hp
   unfold isBoth at h3
   rw [Bool.and_eq_true] at h3
   exact absurd (by rw [Bool.and_eq_true,decide_eq_true_eq]; exact ⟨(k1 _ hp).mp h3.1,h3.2⟩) (h r (List.mem_of_getElem? htr))
 unfold endB
 rw [key,<- hm]
 unfold mostF
 cases fbF names 0 (rows.take (plN rows)) with
 | some i=>rfl
 | none=>
  show (if (firstK 2 0 rows).isSome = true then none else some (plN rows)).isNone = (true && (firstK 2 0 rows).isSome)
  cases (firstK 2 0 rows).isSome <;> rfl
def rowK (r:Rw):List SB:=match r.k with
 | 0=>[.inl "seat",.inl r.z,.inr r.b] | 1=>[.inl "both",.inl r.z,.inr r.b] | 2=>[.inl "tail",.inl r.z] | 3=>[.inl "tag",.inl r.z,.inr r.b] | _=>[.inl "bag",.inl r.z]
theorem rowK_V {r:Rw}:(rowK r).map sbV = rv r:=by
 obtain ⟨k,z,b⟩:=r
 match k with
 | 0=>rfl
 | 1=>rfl
 | 2=>rfl
 | 3=>rfl
 | n + 4=>rfl
theorem kw_sb:∀ i:Nat,i < 5->∀ j:Nat,j < 5->kw i = kw j->i = j:=by decide +kernel
theorem rowK_hd {r:Rw}:(rowK r)[0]? = some (.inl (kw r.k)):=by
 obtain ⟨k,z,b⟩:=r
 match k with
 | 0=>rfl
 | 1=>rfl
 | 2=>rfl
 | 3=>rfl
 | n + 4=>rfl
theorem rowK_nm {r:Rw}:(rowK r)[1]? = some (.inl r.z):=by
 obtain ⟨k,z,b⟩:=r
 match k with
 | 0=>rfl
 | 1=>rfl
 | 2=>rfl
 | 3=>rfl
 | n + 4=>rfl
def sbB:Option SB->Bool
 | some (.inr b)=>b
 | _=>true
theorem rowK_fr {r:Rw}:fr r.k r.b = sbB ((rowK r)[2]?):=by
 obtain ⟨k,z,b⟩:=r
 match k with
 | 0=>rfl
 | 1=>rfl
 | 2=>rfl
 | 3=>rfl
 | n + 4=>rfl
theorem rowK_pat {c:C5} {H:Hp} {p:Addr} {r r':Rw} (h:rowK r = rowK r') (o:r.ok) (o':r'.ok) (hp:PAt c H p r'):PAt c H p r:=by
 have e1:kw r.k = kw r'.k:=by
  have h1:=rowK_hd (r:=r)
  rw [h,rowK_hd] at h1
  exact (Sum.inl.inj (Option.some.inj h1)).symm
 have e2:r.z = r'.z:=by
  have h1:=rowK_nm (r:=r)
  rw [h,rowK_nm] at h1
  exact (Sum.inl.inj (Option.some.inj h1)).symm
 have e3:fr r.k r.b = fr r'.k r'.b:=by rw [rowK_fr,rowK_fr,h]
 have ek:=kw_sb _ o.1 _ o'.1 e1
 obtain ⟨dx,hp⟩:=hp
 exact ⟨dx,by show H p = some (.ins (c.at r.k) dx (pf (kw r.k) (.str r.z) (fr r.k r.b))); rw [e3,e2,ek]; exact hp⟩
def TP (c:C5) (H:Hp) (t:Addr) (r:Rw):Prop:=∃ u p,H t = some (.tup [.ref u,.ref p])/\TAt H u r/\PAt c H p r
theorem TP.same {c:C5} {H H':Hp} {t:Addr} {r:Rw} (h:TP c H t r) (s:Same H H'):TP c H' t r:=by
 obtain ⟨u,p,h1,h2,h3⟩:=h
 exact ⟨u,p,s _ _ h1,s _ _ h2,h3.same s⟩
theorem TP.upd {c:C5} {H:Hp} {t D:Addr} {r:Rw} {ys:List V} {o:HO} (h:TP c H t r) (hD:H D = some (.lst ys)):TP c (upd H D o) t r:=by
 obtain ⟨u,p,h1,h2,h3⟩:=h
 refine ⟨u,p,?_,TAt.upd h2 hD,PAt.upd h3 hD⟩
 rw [upd_ne (ne_of h1 hD (by intro z; cases z))]
 exact h1
theorem tps_pairs {c:C5} {H:Hp} {ts:List Addr} {rows:List Rw} (h:Paired (TP c H) ts rows):(∀ r ∈ rows,r.ok)->∃ ps:List PV,Paired (PairAt H) ts ps/\ps.map (·.1) = rows.map rowK/\∀ p ∈ ps,∃ r pa,r.ok/\p.1 = rowK r/\p.2.2 = .ref pa/\PAt c H pa r:=by
 induction h with
 | nil=>exact fun _=>⟨[],.nil,rfl,fun p hp=>by cases hp⟩
 | @cons t r ts rows hd tl ih=>
  intro hok
  obtain ⟨ps,h1,h2,h3⟩:=ih fun x hx=>hok x (List.mem_cons_of_mem _ hx)
  obtain ⟨u,p,g1,g2,g3⟩:=hd
  refine ⟨(rowK r,u,.ref p) :: ps,.cons ⟨g1,by rw [rowK_V]; exact g2⟩ h1,by rw [List.map_cons,List.map_cons,h2],fun q hq=>?_⟩
  rcases List.mem_cons.mp hq with rfl | hq
  ·exact ⟨r,p,hok r List.mem_cons_self,rfl,rfl,g3⟩
  ·exact h3 q hq
def spLMade (c:C5) (CF:Addr):Sp:=fun vs H Q _=>∃ (t la lb:Addr) (al:Bool) (us:List Addr) (rows:List Rw) (bars:List Str),vs = [.ref t,.bl al]/\H t = some (.tup [.ref la,.ref lb])/\H la = some (.lst (us.map V.ref))/\Paired (TAt H) us rows/\H lb = some (.lst (bars.map V.str))/\Valid rows bars/\
 ∀ (f:Addr) (H':Hp),Same H H'->FormOk c CF H' f rows bars->Q (.ref f) H'
section
variable {P:Program} {w:World} {K:PySem.W.Frag} {mg:Str->Option Value} {base:Heap} {f CF N:Addr} {fd:FuncData} {c:C5}
theorem ndOAM:([Str.ofString "_law_one",Str.ofString "_law_alike",Str.ofString "_law_made_here"]:List Str).Nodup:=by decide +kernel
theorem scLMade:FnScope ["_law_told","_law_alike","_law_made_here"] ["_law_told","_law_alike"] (defScope sLMade):=⟨rfl,rfl,rfl,by decide +kernel,rfl,by decide +kernel,by decide +kernel⟩
theorem ok_lmade {gF g1:Addr} {eF e1:FuncData} (F:Fun K "_law_made" "_law_made" sLMade f fd) (hdict:mg "dict" = none) (hlst:mg "list" = none) (mCF:mg "Form" = some (.ref CF)) (MF:Mk K CF gF) (GF:FnOk P w K mg base CX0 3 gF eF ["self","parameters","bars"] (spFI c CF)) (bF:Binds K eF ["self","parameters","bars"] []) (cP:CalleeE P w K mg base 5 "parameter_of" g1 e1 ["told"] (spPof K c N)):FnOk P w K mg base CX0 6 f fd ["_law_told","_law_alike"] (spLMade c CF):=by
 refine F.ok scLMade (fun vs H Q E h=>?_) (fun cdv A outer s H vs Q E hr h=>?_)
 ·obtain ⟨t,la,lb,al,us,rows,bars,rfl,_⟩:=h
  rfl
 obtain ⟨t,la,lb,al,us,rows,bars,rfl,ht,hla,hu,hlb,V1,q⟩:=h
 have hr4:Room 4 _:=hr.mono (by decide)
 have hU:=hr.units
 have hu1:=hu_of hr
 have lu:us.length = rows.length:=hu.length
 have l24:=V1.l24
 have l60:=V1.l60
 refine ⟨_,pss_cons (ps_set (i:=2) scLMade.nd rfl (Or.inr rfl) (cTy (call_dictB rfl hU) hdict PyProof.Rows.boot_dict (ac (pe_lc [] ["_law_one"] [none] rfl ⟨rfl,rfl,rfl,rfl⟩ (pi_list (pe_ix ix_tup (pv 0) pe_int (fun _ _=>rfl))) (gown_name 0) rfl rfl rfl
   (fun pins fp s H C=>⟨pg_name (i:=0) ndOn rfl (Or.inl rfl) (.inr rfl),pif_nil,pe_tup (ac (pv 0) (ac (cE (E:=fun _ _ _=>False) cP passF hr (ac (pv 0) pa_nil)) pa_nil))⟩)) pa_nil)))
  (pss_one (ps_ret (pe_make MF GF hr4 rfl mCF bF .nil pass0 (ac (pe_lc ["_law_made_here","_law_alike"] ["_law_one","_law_alike","_law_made_here"] [none,some 1,some 2] rfl ⟨rfl,rfl,rfl,rfl⟩ (pi_list (pe_ix ix_tup (pv 0) pe_int (fun _ _=>rfl))) (gown_name 0) rfl rfl rfl
   (fun pins fp s H C=>⟨pg_name (i:=0) ndOAM rfl (Or.inl rfl) (.inr rfl),pif_nil,pe_ifExp (pt_val (pv 1)) (pe_dgetB (P:=P) (w:=w) rfl rfl hu1 (pv 2) (pv 0) (fun _ _=>rfl)) (cE (E:=fun _ _ _=>False) cP passF hr (ac (pv 0) pa_nil))⟩)) (ac (cTy call_list_of hlst PyProof.Rows.boot_list (ac (pe_ix ix_tup (pv 0) pe_int (fun _ _=>rfl)) pa_nil)) pa_nil))))),?_⟩
 refine ⟨_,rfl,t,_,0,.ref la,rfl,rfl,SqT.of ht,rfl,la,rfl,⟨_,SqL.of hla⟩,fun D hD=>?_⟩
 refine lc_mapV (K:=K) (bs:=rows) (TP c) TP.same TP.upd (SqL.of hla) (by rw [List.length_map,lu]) (by omega) hD (fun i x r H' Qf Qs hx hr' sH qf=>?_) fun ts H1 s1 e1 p1=>?_
 ·obtain ⟨u,hu',rfl⟩:=refs_at hx
  obtain ⟨r2,hr2',tr⟩:=paired_at hu hu'
  rw [hr'] at hr2'
  cases hr2'
  have rk:=V1.ok r (List.mem_of_getElem? hr')
  refine ⟨fun _=>?_,fun e=>Bool.noConfusion e⟩
  refine ⟨_,rfl,_,rfl,u,r.k,.str r.z,r.b,rfl,rk.1,sH _ _ tr,.inl ⟨r.z,rfl,nameB_ok rk.2⟩,fun _ p dx H2 s2 hp=>⟨(by show 2<=sizeLine; decide),fun t' ht'=>?_⟩,fun e=>absurd (show nameB r.z = false from e) (by rw [rk.2]; decide)⟩
  have hp:PAt c H2 p r:=⟨dx,hp⟩
  have s3:=same_new ht' (.tup [.ref u,.ref p])
  exact qf t' _ (s2.trans s3) ⟨u,p,upd_same,(s2.trans s3) _ _ (sH _ _ tr),hp.same s3⟩
 obtain ⟨ps,hps,ekeys,hvals⟩:=tps_pairs p1 V1.ok
 refine ⟨D,ts,ps,rfl,e1,hps,fun d o hd hdb=>?_⟩
 have s2:=same_new hd o
 dsimp only [gName]
 generalize upd H1 d o = H2 at s2 hdb |-
 have s12:=s1.trans s2
 have hla2:=s12 _ _ hla
 have hu2:=tats_same s12 hu
 have hlook:∀ r ∈ rows,∃ pa,valV (foldV ps []) (rowK r) = some (.ref pa)/\PAt c H2 pa r:=fun r hr'=>by
  obtain ⟨v,hv,r',pa,ho',ek,ev,hp⟩:=foldV_has (ps:=ps) (R:=fun k v=>∃ r pa,r.ok/\k = rowK r/\v = .ref pa/\PAt c H2 pa r) (kvs:=[]) (fun p hp=>by
   obtain ⟨r',pa,a1,a2,a3,a4⟩:=hvals p hp
   exact ⟨r',pa,a1,a2,a3,a4.same s2⟩) (fun k v h=>by cases h) (rowK r) (.inl (by rw [ekeys]; exact List.mem_map.mpr ⟨r,hr',rfl⟩))
  exact ⟨pa,by rw [hv,ev],rowK_pat ek (V1.ok r hr') ho' hp⟩
 refine ⟨_,rfl,t,_,0,.ref la,rfl,rfl,SqT.of (s12 _ _ ht),rfl,la,rfl,⟨_,SqL.of hla2⟩,fun D3 hD3=>?_⟩
 refine lc_mapV (K:=K) (bs:=rows) (PAt c) PAt.same PAt.upd (SqL.of hla2) (by rw [List.length_map,lu]) (by omega) hD3 (fun i x r H' Qf Qs hx hr' sH qf=>?_) fun ps' H3 s3 e3 p3=>?_
 ·obtain ⟨u,hu',rfl⟩:=refs_at hx
  obtain ⟨r2,hr2',tr⟩:=paired_at hu2 hu'
  rw [hr'] at hr2'
  cases hr2'
  have hrm:=List.mem_of_getElem? hr'
  have rk:=V1.ok r hrm
  refine ⟨fun _=>?_,fun e=>Bool.noConfusion e⟩
  refine ⟨_,rfl,_,rfl,?_⟩
  cases al with
  | true=>
   refine iteT ?_
   obtain ⟨pa,hv,hp⟩:=hlook r hrm
   exact ⟨_,rfl,_,rfl,d,u,_,rowK r,.ref pa,rfl,rfl,hdb.same sH,by rw [rowK_V]; exact sH _ _ tr,hv,qf pa H' (Same.refl _) (hp.same sH)⟩
  | false=>
   refine iteF ?_
   exact ⟨_,rfl,u,r.k,.str r.z,r.b,rfl,rk.1,sH _ _ tr,.inl ⟨r.z,rfl,nameB_ok rk.2⟩,fun _ o dx H5 s5 ho=>qf o H5 s5 ⟨dx,ho⟩,fun e=>absurd (show nameB r.z = false from e) (by rw [rk.2]; decide)⟩
 have s13:=s12.trans s3
 refine ⟨_,rfl,t,_,1,.ref lb,rfl,rfl,SqT.of (s13 _ _ ht),rfl,lb,_,rfl,.inl (SqL.of (s13 _ _ hlb)),fun l2 hl2=>?_⟩
 have s4:=same_new hl2 (.lst (bars.map V.str))
 have g2:upd H3 l2 (.lst (bars.map V.str)) l2 = some (.lst (bars.map V.str)):=upd_same
 generalize upd H3 l2 (.lst (bars.map V.str)) = H4 at s4 g2 |-
 intro x dx hx hdx hne
 have smk:Same H4 (upd (upd H4 dx (.own x)) x (.ins CF dx [])):=same_make0 hx hdx
 have hx1:upd (upd H4 dx (.own x)) x (.ins CF dx []) x = some (.ins CF dx []):=upd_same
 generalize upd (upd H4 dx (.own x)) x (.ins CF dx []) = H5 at smk hx1 |-
 have s14:=s13.trans s4
 refine ⟨x,D3,dx,.ref l2,ps',rows,bars,rfl,hx1,smk _ _ (s4 _ _ e3),pats_same (s4.trans smk) p3,.inr ⟨l2,rfl,smk _ _ g2⟩,V1,fun H6 sx F6 L6=>?_⟩
 exact ⟨rfl,q x H6 (fun b' u e=>sx b' u (smk _ _ (s14 _ _ e)) (ne_of_none (s14 _ _ e) hx)) ⟨F6.at,by omega,by omega,V1.ok⟩⟩
end
def roomOk:Option (Nat × Option Nat)->Prop
 | some (l,some h)=>l<=h
 | _=>True
theorem room_ok (rows:List Rw) (bars names:List Str):roomOk (roomF rows bars names):=by
 unfold roomF
 split
 ·exact True.intro
 ·split
  ·split
   ·exact True.intro
   next h=>exact Nat.le_of_not_lt h
  ·exact True.intro
def spIsIntP:Sp:=fun vs H Q _=>∃ i:Int,vs = [.int i]/\Q (.bl true) H
def spIsRoom:Sp:=fun vs H Q _=>∃ (v:V) (ro:Option (Nat × Option Nat)),vs = [v]/\RoomAt H v ro/\roomOk ro/\Q (.bl true) H
def spWithin:Sp:=fun vs H Q _=>∃ (v:V) (ro:Option (Nat × Option Nat)) (many:Nat),vs = [v,.int (many:Nat)]/\RoomAt H v ro/\Q (.bl (withB ro many)) H
def spEndless:Sp:=fun vs H Q _=>∃ (t la lb ln:Addr) (us:List Addr) (rows:List Rw) (names:List Str),vs = [.ref t,.ref ln]/\H t = some (.tup [.ref la,.ref lb])/\H la = some (.lst (us.map V.ref))/\Paired (TAt H) us rows/\(∀ r ∈ rows,r.ok)/\rows.length<=24/\H ln = some (.lst (names.map V.str))/\∀ H',Same H H'->Q (.bl (endB rows names)) H'
section
variable {P:Program} {w:World} {K:PySem.W.Frag} {mg:Str->Option Value} {base:Heap} {f CF:Addr} {fd:FuncData} {c:C5}
theorem ok_isInt (F:Fun K "_law_is_int" "_law_is_int" sIsInt f fd) (T:Txt2 K mg):FnOk P w K mg base CX0 1 f fd ["_law_found"] spIsIntP:=by
 refine F.ok scIsInt (fun vs H Q E h=>?_) (fun cdv A outer s H vs Q E hr h=>?_)
 ·obtain ⟨i,rfl,_⟩:=h
  rfl
 obtain ⟨i,rfl,q⟩:=h
 refine ⟨_,pss_one (ps_ret (pe_and (pe_not (cB call_isinst T.isi boot_isinstance (ac (pv 0) (ac (pe_bltn (v:=.ty "bool") rfl T.bool PyProof.Rows.boot_bool rfl) pa_nil)))) (pe_one (cB call_isinst T.isi boot_isinstance (ac (pv 0) (ac (pe_bltn (v:=.ty "int") rfl T.int PyProof.Rows.boot_int rfl) pa_nil)))))),?_⟩
 refine ⟨_,rfl,_,_,_,_,rfl,.int i,kt_int_bool K,_,rfl,_,rfl,?_⟩
 refine iteT ?_
 exact ⟨_,rfl,_,_,_,_,rfl,.int i,kt_int_int K,q⟩
theorem scIsRoom:FnScope ["_law_found"] ["_law_found"] (defScope sIsRoom):=⟨rfl,rfl,rfl,by decide +kernel,rfl,by decide +kernel,by decide +kernel⟩
theorem ok_isRoom {g1:Addr} {d1:FuncData} (F:Fun K "_law_is_room" "_law_is_room" sIsRoom f fd) (T:TxtL mg) (htup:mg "tuple" = none) (cI:Callee P w K mg base 1 "_law_is_int" g1 d1 ["_law_found"] spIsIntP):FnOk P w K mg base CX0 2 f fd ["_law_found"] spIsRoom:=by
 refine F.ok scIsRoom (fun vs H Q E h=>?_) (fun cdv A outer s H vs Q E hr h=>?_)
 ·obtain ⟨v,ro,rfl,_⟩:=h
  rfl
 obtain ⟨v,ro,rfl,hv,ho,q⟩:=h
 refine ⟨_,pss_cons (ps_if (pt_cmp (pc_isN (pv 0))) (pss_one (ps_ret pe_bl)) pss_nil)
  (pss_cons (ps_if (PW.pt (pw_or (pt_not (pt_val (cB (r:=fun xs H Q=>∃ a ys T b,xs = [V.ref a,.ty T]/\SqT K H a ys/\PySem.W.kitOne K (.type "tuple") (.type T) = some b/\Q (.bl b) H) call_isinstT T.isi boot_isinstance (ac (pv 0) (ac (pe_bltn (v:=.ty "tuple") rfl htup PyProof.Rows.boot_tuple rfl) pa_nil))))) (pw_or (pt_cmpR op_ne (cB call_len_seq T.len PySem.boot_len (ac (pv 0) pa_nil)) pe_int (nomark _)) (pw_or (pt_not (pt_val (cF cI hr (ac (pe_ix ix_tup (pv 0) pe_int (fun _ _=>rfl)) pa_nil)))) (pw_or1 (pt_cmpR op_lt (pe_ix ix_tup (pv 0) pe_int (fun _ _=>rfl)) pe_int (nomark _))))))) (pss_one (ps_ret pe_bl)) pss_nil)
  (pss_one (ps_ret (pe_or (pe_cmp (pc_isN (pe_ix ix_tup (pv 0) pe_int (fun _ _=>rfl)))) (pe_one (pe_and (cF cI hr (ac (pe_ix ix_tup (pv 0) pe_int (fun _ _=>rfl)) pa_nil)) (pe_one (pe_cmpR op_le (pe_ix ix_tup (pv 0) pe_int (fun _ _=>rfl)) (pe_ix ix_tup (pv 0) pe_int (fun _ _=>rfl)) (nomark _))))))))),?_⟩
 cases ro with
 | none=>
  have hv:v = .non:=hv
  subst hv
  refine ⟨_,rfl,_,rfl,?_⟩
  refine iteT ?_
  exact q
 | some lh=>
  obtain ⟨l,h⟩:=lh
  obtain ⟨p,rfl,hp⟩:=(show ∃ p,v = .ref p/\H p = some (.tup [.int (l:Nat),numV h]) from hv)
  refine ⟨_,rfl,_,rfl,?_⟩
  refine iteF ?_
  refine ⟨_,rfl,p,_,_,_,rfl,SqT.of hp,kt_tuple_tuple K,_,rfl,?_⟩
  refine iteF ?_
  refine ⟨_,rfl,p,_,rfl,.inr (SqT.of hp),rfl,_,rfl,?_⟩
  refine iteF ?_
  refine ⟨_,rfl,p,_,0,_,rfl,rfl,SqT.of hp,rfl,_,rfl,_,rfl,?_⟩
  refine iteF ?_
  refine ⟨_,rfl,p,_,0,_,rfl,rfl,SqT.of hp,rfl,_,_,rfl,rfl,_,rfl,?_⟩
  refine dF (by omega) ?_
  refine ⟨_,rfl,p,_,1,_,rfl,rfl,SqT.of hp,rfl,_,rfl,?_⟩
  cases h with
  | none=>exact iteT q
  | some h=>
   refine iteF ?_
   refine ⟨_,rfl,p,_,1,_,rfl,rfl,SqT.of hp,rfl,_,rfl,_,rfl,?_⟩
   refine iteT ?_
   refine ⟨_,rfl,p,_,0,_,rfl,rfl,SqT.of hp,rfl,_,rfl,p,_,1,_,rfl,rfl,SqT.of hp,rfl,_,_,rfl,rfl,?_⟩
   have hle:l<=h:=ho
   show Q (.bl (decide ((l:Int)<=(h:Int)))) H
   rw [decide_eq_true (by omega)]
   exact q
theorem scWithin:FnScope ["_law_found","_law_many"] ["_law_found","_law_many"] (defScope sWithin):=⟨rfl,rfl,rfl,by decide +kernel,rfl,by decide +kernel,by decide +kernel⟩
theorem ok_within (F:Fun K "_law_within" "_law_within" sWithin f fd):FnOk P w K mg base CX0 1 f fd ["_law_found","_law_many"] spWithin:=by
 refine F.ok scWithin (fun vs H Q E h=>?_) (fun cdv A outer s H vs Q E hr h=>?_)
 ·obtain ⟨v,ro,many,rfl,_⟩:=h
  rfl
 obtain ⟨v,ro,many,rfl,hv,q⟩:=h
 refine ⟨_,pss_one (ps_ret (pe_and (pe_cmp (pc_notN (pv 0))) (pe_and (pe_cmpR op_le (pe_ix ix_tup (pv 0) pe_int (fun _ _=>rfl)) (pv 1) (nomark _)) (pe_one (pe_or (pe_cmp (pc_isN (pe_ix ix_tup (pv 0) pe_int (fun _ _=>rfl)))) (pe_one (pe_cmpR op_le (pv 1) (pe_ix ix_tup (pv 0) pe_int (fun _ _=>rfl)) (nomark _)))))))),?_⟩
 cases ro with
 | none=>
  have hv:v = .non:=hv
  subst hv
  refine ⟨_,rfl,_,rfl,?_⟩
  refine iteF ?_
  exact q
 | some lh=>
  obtain ⟨l,h⟩:=lh
  obtain ⟨p,rfl,hp⟩:=(show ∃ p,v = .ref p/\H p = some (.tup [.int (l:Nat),numV h]) from hv)
  refine ⟨_,rfl,_,rfl,?_⟩
  refine iteT ?_
  refine ⟨_,rfl,p,_,0,_,rfl,rfl,SqT.of hp,rfl,_,rfl,_,_,rfl,rfl,_,rfl,?_⟩
  by_cases hl:l<=many
  ·refine dT (by omega) ?_
   refine ⟨_,rfl,p,_,1,_,rfl,rfl,SqT.of hp,rfl,_,rfl,?_⟩
   cases h with
   | none=>
    refine iteT ?_
    have e:withB (some (l,none)) many = true:=decide_eq_true hl
    rw [e] at q
    exact q
   | some h=>
    refine iteF ?_
    refine ⟨_,rfl,_,rfl,p,_,1,_,rfl,rfl,SqT.of hp,rfl,_,_,rfl,rfl,?_⟩
    have e:withB (some (l,some h)) many = decide ((many:Int)<=(h:Int)):=by
     show (decide (l<=many) && decide (many<=h)) = _
     rw [decide_eq_true hl,Bool.true_and,Bool.eq_iff_iff,decide_eq_true_eq,decide_eq_true_eq]
     omega
    rw [e] at q
    exact q
  ·refine dF (by omega) ?_
   have e:withB (some (l,h)) many = false:=by
    cases h with
    | none=>exact decide_eq_false hl
    | some h=>show (decide (l<=many) && decide (many<=h)) = false; rw [decide_eq_false hl,Bool.false_and]
   rw [e] at q
   exact q
theorem both_is:∀ k:Nat,k < 5->decide (V.str (kw k) = V.str "both") = decide (k = 1):=by decide +kernel
theorem ndOnN:([Str.ofString "_law_one",Str.ofString "_law_names_here"]:List Str).Nodup:=by decide +kernel
theorem zip_sel {R:Addr->Rw->Prop}:∀ {us:List Addr} {rows:List Rw},Paired R us rows->∀ (keep:Rw->Bool),(((us.zip rows).filter fun p=>keep p.2).map fun p=>V.ref p.1).isEmpty = (rows.filter keep).isEmpty
 | _,_,.nil,_=>rfl
 | _,_,.cons (a:=u) (b:=r) _ t,keep=>by
  have ih:=zip_sel t keep
  rw [List.zip_cons_cons,List.filter_cons,List.filter_cons]
  cases h:keep r
  ·simpa [h] using ih
  ·simp [h]
theorem scEnd:FnScope ["_law_told","_law_names_here","_law_shut"] ["_law_told","_law_names_here"] (defScope sEndless):=⟨rfl,rfl,rfl,by decide +kernel,rfl,by decide +kernel,by decide +kernel⟩
theorem ok_endless (F:Fun K "_law_endless" "_law_endless" sEndless f fd):FnOk P w K mg base CX0 1 f fd ["_law_told","_law_names_here"] spEndless:=by
 refine F.ok scEnd (fun vs H Q E h=>?_) (fun cdv A outer s H vs Q E hr h=>?_)
 ·obtain ⟨t,la,lb,ln,us,rows,names,rfl,_⟩:=h
  rfl
 obtain ⟨t,la,lb,ln,us,rows,names,rfl,ht,hla,hu,hok,l24,hln,q⟩:=h
 have hU:=hr.units
 refine ⟨_,pss_cons (ps_lc (i:=2) ["_law_names_here"] ["_law_one","_law_names_here"] [none,some 1] scEnd.nd rfl (Or.inl rfl) rfl ⟨rfl,rfl,rfl,rfl⟩ (pi_list (pe_ix ix_tup (pv 0) pe_int (fun _ _=>rfl))) (gown_name 0) rfl rfl rfl
   (fun pins fp s H C=>⟨pg_name (i:=0) ndOnN rfl (Or.inl rfl) (.inr rfl),pif_one (PW.pt (pw_and (pt_cmpR op_eq (pe_ix (r:=rIxT K) ix_tup (pv 0) pe_int (fun _ _=>rfl)) pe_str (nomark _)) (pw_and1 (pt_cmpR (r:=rIn K false) op_in_seq (pe_ix (r:=rIxT K) ix_tup (pv 0) pe_int (fun _ _=>rfl)) (pv 1) (by with_unfolding_all rfl))))),pv 0⟩))
  (pss_one (ps_ret (pe_and (pe_cmpR (op_eqNil hU) (pv 2) (pe_lst pa_nil) (nomark _)) (pe_one (pe_cmpR op_in_seq pe_str (pe_lc [] ["_law_one"] [none] rfl ⟨rfl,rfl,rfl,rfl⟩ (pi_list (pe_ix ix_tup (pv 0) pe_int (fun _ _=>rfl))) (gown_name 0) rfl rfl rfl
   (fun pins fp s H C=>⟨pg_name (i:=0) ndOn rfl (Or.inl rfl) (.inr rfl),pif_nil,pe_ix (r:=rIxT K) ix_tup (pv 0) pe_int (fun _ _=>rfl)⟩)) (by with_unfolding_all rfl)))))),?_⟩
 refine ⟨_,rfl,t,_,0,.ref la,rfl,rfl,SqT.of ht,rfl,la,rfl,⟨_,SqL.of hla⟩,fun D hD=>?_⟩
 refine lc_zip (K:=K) TAt (fun r=>decide (r.k = 1) && decide (r.z ∈ names)) (fun u _=>.ref u) hD hla hu (by omega) (fun i u r H' Nn S hu' hr' tr sH n1 s1=>?_) (fun H1 s1 hD1=>?_)
 ·have rk:=hok r (List.mem_of_getElem? hr')
  have tu:=sH _ _ tr
  refine ⟨_,rfl,u,_,0,_,rfl,rfl,SqT.of tu,lk_0 rk.1,rfl,_,rfl,?_⟩
  rw [both_is r.k rk.1]
  by_cases hk:r.k = 1
  ·refine dT hk ?_
   refine ⟨_,rfl,u,_,1,_,rfl,rfl,SqT.of tu,lk_1,_,rfl,ln,_,rfl,.inl (SqL.of (sH _ _ hln)),rfl,flatStrs,_,rfl,?_⟩
   rw [show (if false = true then !inV (V.str r.z) (names.map V.str) else inV (V.str r.z) (names.map V.str)) = decide (r.z ∈ names) from inStrs]
   have ek:(decide (r.k = 1) && decide (r.z ∈ names)) = decide (r.z ∈ names):=by rw [decide_eq_true hk,Bool.true_and]
   exact ⟨fun e=>⟨_,rfl,n1 _ (Same.refl _) (by show (decide (r.k = 1) && decide (r.z ∈ names)) = true; rw [ek]; exact e)⟩,fun e=>s1 _ (Same.refl _) (by show (decide (r.k = 1) && decide (r.z ∈ names)) = false; rw [ek]; exact e)⟩
  ·refine dF hk ?_
   exact ⟨fun e=>Bool.noConfusion e,fun _=>s1 _ (Same.refl _) (by show (decide (r.k = 1) && decide (r.z ∈ names)) = false; rw [decide_eq_false hk,Bool.false_and])⟩
 refine ⟨_,rfl,(by show 0<=sizeLine; decide),fun l0 hl0=>?_⟩
 have s2:=same_new hl0 (.lst [])
 have g2:upd H1 l0 (.lst []) l0 = some (.lst []):=upd_same
 show rNil false _ _ (upd H1 l0 (.lst [])) _
 generalize upd H1 l0 (.lst []) = H2 at s2 g2 |-
 refine ⟨D,l0,_,rfl,rfl,s2 _ _ hD1,g2,_,rfl,?_⟩
 have es:(false != (((us.zip rows).filter fun p=>decide (p.2.k = 1) && decide (p.2.z ∈ names)).map fun p=>V.ref p.1).isEmpty) = (rows.filter fun r=>decide (r.k = 1) && decide (r.z ∈ names)).isEmpty:=by
  rw [zip_sel hu (fun r=>decide (r.k = 1) && decide (r.z ∈ names)),Bool.false_bne]
 rw [es]
 unfold endB at q
 have s02:=s1.trans s2
 cases he:(rows.filter fun r=>decide (r.k = 1) && decide (r.z ∈ names)).isEmpty with
 | false=>
  rw [he] at q
  refine iteF ?_
  exact q _ s02
 | true=>
  rw [he] at q
  refine iteT ?_
  refine ⟨_,rfl,t,_,0,.ref la,rfl,rfl,SqT.of (s02 _ _ ht),rfl,la,rfl,⟨_,SqL.of (s02 _ _ hla)⟩,fun D2 hD2=>?_⟩
  refine lc_zip (K:=K) TAt (fun _=>true) (fun _ r=>.str (kw r.k)) hD2 (s02 _ _ hla) (tats_same s02 hu) (by omega) (fun i u r H' Nn S hu' hr' tr sH n1 s1'=>?_) (fun H3 s3 hD3=>?_)
  ·have rk:=hok r (List.mem_of_getElem? hr')
   refine ⟨fun _=>?_,fun e=>Bool.noConfusion e⟩
   exact ⟨_,rfl,u,_,0,_,rfl,rfl,SqT.of (sH _ _ tr),lk_0 rk.1,n1 _ (Same.refl _) rfl⟩
  have ez:(((us.zip rows).filter fun _=>true).map fun p=>V.str (kw p.2.k)) = (sortsL rows).map V.str:=by
   have:∀ {us:List Addr} {rows:List Rw},Paired (TAt H) us rows->(((us.zip rows).filter fun _=>true).map fun p=>V.str (kw p.2.k)) = (sortsL rows).map V.str:=by
    intro us rows h
    induction h with
    | nil=>rfl
    | cons _ _ ih=>rw [List.zip_cons_cons,List.filter_cons,if_pos rfl,List.map_cons,ih]; rfl
   exact this hu
  rw [ez] at hD3
  refine ⟨D2,_,rfl,.inl (SqL.of hD3),rfl,flatStrs,?_⟩
  rw [show (if false = true then !inV (V.str "tail") ((sortsL rows).map V.str) else inV (V.str "tail") ((sortsL rows).map V.str)) = decide (("tail" : Str) ∈ sortsL rows) from inStrs]
  have e5:=sorts_in hok (kk:=2) (by decide)
  have:=q _ (s02.trans s3)
  rw [Bool.true_and,<- e5] at this
  exact this
end
def spToldN:Sp:=fun vs H Q _=>∃ (t la lb:Addr) (many more:Int) (us:List Addr) (rows:List Rw),vs = [.ref t,.int many,.int more]/\H t = some (.tup [.ref la,.ref lb])/\H la = some (.lst (us.map V.ref))/\Paired (TAt H) us rows/\(∀ r ∈ rows,r.ok)/\rows.length<=24/\∀ (l:Addr) (zs:List Str) (H':Hp),Same H H'->H l = none->H' l = some (.lst (zs.map V.str))->zs.length<=24->Q (.ref l) H'
theorem tag_is:∀ k:Nat,k < 5->decide (V.str (kw k) = V.str "tag") = decide (k = 3):=by decide +kernel
theorem lk_2 {x:V} {k:Nat} {b:Bool} (h:k = 1\/k = 3):atI (rowV k x b) 2 = some (.bl b):=by rcases h with rfl | rfl <;> rfl
section
variable {P:Program} {w:World} {K:PySem.W.Frag} {mg:Str->Option Value} {base:Heap} {f CF:Addr} {fd:FuncData} {c:C5}
theorem scToldN:FnScope ["_law_told","_law_many","_law_more","_law_names_here","_law_at","_law_one"] ["_law_told","_law_many","_law_more"] (defScope sToldN):=⟨rfl,rfl,rfl,by decide +kernel,rfl,by decide +kernel,by decide +kernel⟩
theorem ok_toldN {g1:Addr} {d1:FuncData} (F:Fun K "_law_told_names" "_law_told_names" sToldN f fd) (hen:mg "enumerate" = none) (cM:Callee P w K mg base 1 "_law_mix" g1 d1 ["_law_cell_here","_law_k"] spMix):FnOk P w K mg base CX0 2 f fd ["_law_told","_law_many","_law_more"] spToldN:=by
 refine F.ok scToldN (fun vs H Q E h=>?_) (fun cdv A outer s H vs Q E hr h=>?_)
 ·obtain ⟨t,la,lb,many,more,us,rows,rfl,_⟩:=h
  rfl
 obtain ⟨t,la,lb,many,more,us,rows,rfl,ht,hla,hu,hok,l24,q⟩:=h
 refine ⟨_,pss_cons (ps_set (i:=3) scToldN.nd rfl (Or.inl rfl) (pe_lst pa_nil))
  (pss_cons (ps_for PassesOwn.never rfl (pi_enum rfl hen (ac (pe_ix ix_tup (pv 0) pe_int (fun _ _=>rfl)) pa_nil)) (pg_tup rfl (pgs_cons (pg_name (i:=4) scToldN.nd rfl (Or.inl rfl)) (pgs_cons (pg_name (i:=5) scToldN.nd rfl (Or.inl rfl)) pgs_nil)))
   (pss_one (ps_if (PW.pt (pw_or (PW.pt (pw_and (pt_cmpR op_eq (pe_ix ix_tup (pv 5) pe_int (fun _ _=>rfl)) pe_str (nomark _)) (pw_and1 (pt_cmpR op_ge (pv 4) (pv 1) (nomark _))))) (pw_or1 (pt_cmpR op_eq (pe_ix ix_tup (pv 5) pe_int (fun _ _=>rfl)) pe_str (nomark _)))))
    (pss_one (ps_if (PW.pt (pw_or (pt_not (pt_val (pe_ix ix_tup (pv 5) pe_int (fun _ _=>rfl)))) (pw_or1 (pt_cmpR op_eq (pe_op op_mod (cF cM hr (ac (pv 2) (ac (pv 4) pa_nil))) pe_int) pe_int (nomark _)))))
     (pss_one (ps_expr (pe_bm PySem.F.plainAttrs_list PySem.F.slot_list_append PySem.F.type_list_append mt_append (pv 3) (ac (pe_ix ix_tup (pv 5) pe_int (fun _ _=>rfl)) pa_nil)))) pss_nil)) pss_nil)))
  (pss_one (ps_ret (pv 3)))),?_⟩
 refine ⟨(by show 0<=sizeLine; decide),fun l hl=>?_⟩
 have s1:=same_new hl (.lst [])
 have g1:upd H l (.lst []) l = some (.lst []):=upd_same
 dsimp only [gName]
 generalize upd H l (.lst []) = H1 at s1 g1 |-
 have lu:us.length = rows.length:=hu.length
 refine ⟨_,rfl,t,_,0,.ref la,rfl,rfl,SqT.of (s1 _ _ ht),rfl,la,rfl,⟨_,SqL.of (s1 _ _ hla)⟩,for_enum (K:=K) (a:=la) (xs:=us.map V.ref) (fun i σ H'=>∃ (zs:List Str) (v4 v5:Option V),σ = [some (.ref t),some (.int many),some (.int more),some (.ref l),v4,v5]/\Same H H'/\H' l = some (.lst (zs.map V.str))/\zs.length<=i) ⟨[],_,_,rfl,s1,g1,Nat.le_refl _⟩ (fun i σ H' _ ⟨_,_,_,_,sH,_⟩=>SqL.of (sH _ _ hla)) ?_ ?_⟩
 ·rintro i x tn σ H2 hx ⟨zs,v4,v5,rfl,s2,e2,l2⟩ htn
  obtain ⟨u,hu',rfl⟩:=refs_at hx
  obtain ⟨r,hr',tr⟩:=paired_at hu hu'
  have rk:=hok r (List.mem_of_getElem? hr')
  have hi:i < 24:=by have:=(List.getElem?_eq_some_iff.mp hr').1; omega
  have sp:=same_new htn (.tup [.int (i:Nat),.ref u])
  refine ⟨tn,_,rfl,SqT.of upd_same,rfl,_,_,rfl,_,_,rfl,rfl,?_⟩
  have s3:=s2.trans sp
  have e3:=sp _ _ e2
  generalize upd H2 tn (.tup [.int (i:Nat),.ref u]) = H3 at sp s3 e3 |-
  have tu:H3 u = some (.tup (rowV r.k (.str r.z) r.b)):=s3 _ _ tr
  have skip:∀ H',Same H H'->H' l = some (.lst (zs.map V.str))->∃ (zs':List Str) (v4 v5:Option V),[some (V.ref t),some (.int many),some (.int more),some (.ref l),some (.int (i:Nat)),some (.ref u)] = [some (V.ref t),some (.int many),some (.int more),some (.ref l),v4,v5]/\Same H H'/\H' l = some (.lst (zs'.map V.str))/\zs'.length<=i + 1:=fun H' sH e=>⟨zs,_,_,rfl,sH,e,by omega⟩
  have add:∃ (zs':List Str) (v4 v5:Option V),[some (V.ref t),some (.int many),some (.int more),some (.ref l),some (.int (i:Nat)),some (.ref u)] = [some (V.ref t),some (.int many),some (.int more),some (.ref l),v4,v5]/\Same H (upd H3 l (.lst (zs.map V.str ++ [.str r.z])))/\upd H3 l (.lst (zs.map V.str ++ [.str r.z])) l = some (.lst (zs'.map V.str))/\zs'.length<=i + 1:=⟨zs ++ [r.z],_,_,rfl,fun b o e=>by rw [upd_ne (ne_of_none e hl)]; exact s3 _ _ e,by rw [upd_same,List.map_append]; rfl,by rw [List.length_append,List.length_singleton]; omega⟩
  have lz:(zs.map V.str).length < sizeLine:=small1000 (by rw [List.length_map]; omega)
  refine ⟨_,rfl,u,_,0,_,rfl,rfl,SqT.of tu,lk_0 rk.1,rfl,_,rfl,?_⟩
  rw [both_is r.k rk.1]
  by_cases k1:r.k = 1
  ·refine dT k1 ?_
   refine ⟨_,rfl,_,rfl,_,_,rfl,rfl,_,rfl,?_⟩
   by_cases hm:many<=((i:Nat):Int)
   ·refine dT hm ?_
    refine ⟨_,rfl,u,_,2,_,rfl,rfl,SqT.of tu,lk_2 (.inl k1),_,rfl,?_⟩
    cases hb:r.b with
    | false=>
     refine iteT ?_
     exact ⟨_,rfl,.inl ⟨rfl,_,SqL.of e3⟩,_,rfl,u,_,1,_,rfl,rfl,SqT.of tu,lk_1,l,_,_,rfl,rfl,e3,lz,add⟩
    | true=>
     refine iteF ?_
     refine ⟨_,rfl,_,rfl,more,_,rfl,_,_,rfl,rfl,(by show (0:Int) < 2; decide),rfl,_,rfl,?_⟩
     by_cases h2:mixF more ((i:Nat):Int) % 2 = 0
     ·refine dT (congrArg V.int h2) ?_
      exact ⟨_,rfl,.inl ⟨rfl,_,SqL.of e3⟩,_,rfl,u,_,1,_,rfl,rfl,SqT.of tu,lk_1,l,_,_,rfl,rfl,e3,lz,add⟩
     ·refine dF (fun e=>h2 (V.int.inj e)) ?_
      exact skip _ s3 e3
   ·refine dF hm ?_
    refine ⟨_,rfl,u,_,0,_,rfl,rfl,SqT.of tu,lk_0 rk.1,rfl,_,rfl,?_⟩
    rw [tag_is r.k rk.1]
    refine dF (by omega) ?_
    exact skip _ s3 e3
  ·refine dF k1 ?_
   refine ⟨_,rfl,u,_,0,_,rfl,rfl,SqT.of tu,lk_0 rk.1,rfl,_,rfl,?_⟩
   rw [tag_is r.k rk.1]
   by_cases k3:r.k = 3
   ·refine dT k3 ?_
    refine ⟨_,rfl,u,_,2,_,rfl,rfl,SqT.of tu,lk_2 (.inr k3),_,rfl,?_⟩
    cases hb:r.b with
    | false=>
     refine iteT ?_
     exact ⟨_,rfl,.inl ⟨rfl,_,SqL.of e3⟩,_,rfl,u,_,1,_,rfl,rfl,SqT.of tu,lk_1,l,_,_,rfl,rfl,e3,lz,add⟩
    | true=>
     refine iteF ?_
     refine ⟨_,rfl,_,rfl,more,_,rfl,_,_,rfl,rfl,(by show (0:Int) < 2; decide),rfl,_,rfl,?_⟩
     by_cases h2:mixF more ((i:Nat):Int) % 2 = 0
     ·refine dT (congrArg V.int h2) ?_
      exact ⟨_,rfl,.inl ⟨rfl,_,SqL.of e3⟩,_,rfl,u,_,1,_,rfl,rfl,SqT.of tu,lk_1,l,_,_,rfl,rfl,e3,lz,add⟩
     ·refine dF (fun e=>h2 (V.int.inj e)) ?_
      exact skip _ s3 e3
   ·refine dF k3 ?_
    exact skip _ s3 e3
 ·rintro σ H2 ⟨zs,v4,v5,rfl,s2,e2,l2⟩
  refine ⟨_,rfl,q l zs H2 s2 hl e2 ?_⟩
  rw [List.length_map] at l2
  omega
end
end K54
namespace L2
open PySem PySem.Spec PyProof.Rows
section
variable {X:Cx}
theorem argBest_le (bt:Nat->Nat->Bool):∀ k,argBest bt k<=k
 | 0=>Nat.le_refl _
 | k + 1=>by
  unfold argBest
  split
  ·exact Nat.le_refl _
  ·exact Nat.le_succ_of_le (argBest_le bt k)
theorem call_maxL (hc:X.calm = true):CallR X (.builtin "max") (fun xs H Q=>∃ (p:Addr) (ns:List Int),xs = [.ref p]/\SqL X.K H p (ns.map V.int)/\ns ≠ []/\∀ m ∈ ns,Q (.int m) H):=by
 intro pins s σ H xs us Q I r h
 obtain ⟨p,ns,rfl,hS,hne,q⟩:=h
 obtain ⟨u,rfl,ru⟩:=vals1 r
 cases ru
 obtain ⟨its,rv,hp,hz⟩:=I.list hS
 have hlen:its.length = ns.length:=by rw [<- rv.length,List.length_map]
 have hlt:p < s.heap.objs.size:=by obtain ⟨_,e,_⟩:=hp.isList; exact Heap.lt_size e
 have hpne:p ≠ s.heap.objs.size:=Nat.ne_of_lt hlt
 have hn0 : 0 < ns.length:=List.length_pos_iff.mpr hne
 have hval:∀ (i:Nat) (v:Value),its.toArray[i]? = some v->∃ t,v = .int (ns.getD i 0) t:=fun i v hP=>by
  have hv:its[i]? = some v:=by simpa using hP
  have hi:i < ns.length:=by rw [<- hlen]; exact (List.getElem?_eq_some_iff.mp hv).1
  obtain ⟨u',e1,t,e2⟩:=rv.get (i:=i) (x:=V.int ns[i]) (by rw [List.getElem?_map,List.getElem?_eq_getElem hi]; rfl)
  rw [hv] at e1
  cases e1
  refine ⟨t,?_⟩
  rw [e2,List.getD_eq_getElem?_getD,List.getElem?_eq_getElem hi]
  rfl
 refine call_max_walk (wpAny_pyIter_list hp.isList ?_)
 refine ⟨s.heap.objs.size,_,_,_,_,_,_,rfl,Walks.list (A:=X.A.in1) (I.ok.hd hc) s.heap.objs.size p hpne its.toArray,⟨⟨_,Heap.get?_push_size _ rfl,rfl,rfl⟩,hp.isList.push _⟩,fun b hb=>?_,by rw [List.size_toArray,hlen]; exact hn0,CmpOf.ints_gt (fun i=>ns.getD i 0) hval,fun v h' tk hP hk=>?_⟩
 ·show b < (s.heap.push _).objs.size
  rw [Heap.size_push]
  rcases List.mem_cons.mp hb with rfl | hb
  ·exact Nat.lt_succ_self _
  ·rcases List.mem_cons.mp hb with rfl | hb
   ·exact Nat.lt_succ_of_lt hlt
   ·cases hb
 ·obtain ⟨t,rfl⟩:=hval _ _ hP
  have hb:=argBest_le (fun i j=>decide (ns.getD i 0 > ns.getD j 0)) (its.toArray.size - 1)
  generalize argBest (fun i j=>decide (ns.getD i 0 > ns.getD j 0)) (its.toArray.size - 1) = k at hb hP |-
  rw [List.size_toArray,hlen] at hb
  have hkl:k < ns.length:=by omega
  refine ⟨.int (ns.getD k 0),H,I.kept (old_kept hk),⟨t,rfl⟩,q _ ?_⟩
  rw [List.getD_eq_getElem?_getD,List.getElem?_eq_getElem hkl]
  exact List.getElem_mem hkl
end
end L2
namespace K54
open PySem L2 PyProof.Rows
def spFitting (K:PySem.W.Frag):Sp:=fun vs H Q _=>∃ (t la lb pa:Addr) (cell more:Int) (us:List Addr) (rows:List Rw) (bars pool:List Str),vs = [.ref t,.ref pa,.int cell,.int more]/\H t = some (.tup [.ref la,.ref lb])/\H la = some (.lst (us.map V.ref))/\Paired (TAt H) us rows/\H lb = some (.lst (bars.map V.str))/\Valid rows bars/\H pa = some (.lst (pool.map V.str))/\pool.length = 26/\Builtin.Int.intBits cell<=1048600/\Builtin.Int.intBits more<=1048600/\
 ∀ (p l1 l2:Addr) (ys:List V) (ps:List (Str × Int)) (H':Hp),Same H H'->H' p = some (.tup [.ref l1,.ref l2])->H' l2 = some (.lst ys)->Paired (Says K T' H' 1) ys (ps.map pairD)->ps.length<=60->Q (.ref p) H'
theorem sel_strs {α : Type} (ys:List α) (keep : α->Bool) (g : α->Str):∃ zs:List Str,((ys.filter keep).map fun y=>V.str (g y)) = zs.map V.str/\zs.length<=ys.length:=⟨(ys.filter keep).map g,by rw [List.map_map]; rfl,by rw [List.length_map]; exact List.length_filter_le _ _⟩
theorem zip_keep {R:Addr->Rw->Prop}:∀ {us:List Addr} {rows:List Rw},Paired R us rows->∀ (keep:Rw->Bool),∃ us':List Addr,(((us.zip rows).filter fun p=>keep p.2).map fun p=>V.ref p.1) = us'.map V.ref/\Paired R us' (rows.filter keep)
 | _,_,.nil,_=>⟨[],rfl,.nil⟩
 | _,_,.cons (a:=u) (b:=r) h t,keep=>by
  obtain ⟨us',e,p⟩:=zip_keep t keep
  cases hk:keep r
  ·refine ⟨us',?_,?_⟩
   ·rw [List.zip_cons_cons,List.filter_cons,if_neg (by rw [hk]; decide)]; exact e
   ·rw [List.filter_cons,if_neg (by rw [hk]; decide)]; exact p
  ·refine ⟨u :: us',?_,?_⟩
   ·rw [List.zip_cons_cons,List.filter_cons,if_pos hk,List.map_cons,e]; rfl
   ·rw [List.filter_cons,if_pos hk]; exact .cons h p
theorem seat_isD:∀ k:Nat,k < 5->decide (V.str (kw k) = V.str "seat") = decide (k = 0):=by decide +kernel
theorem lk_2s {x:V} {k:Nat} {b:Bool} (h:k = 0):atI (rowV k x b) 2 = some (.bl b):=by subst h; rfl
section
variable {P:Program} {w:World} {K:PySem.W.Frag} {mg:Str->Option Value} {base:Heap} {f CF:Addr} {fd:FuncData} {c:C5}
theorem ndAO:([Str.ofString "_law_at",Str.ofString "_law_one"]:List Str).Nodup:=by decide +kernel
theorem ndKNMS:([Str.ofString "_law_k",Str.ofString "_law_name",Str.ofString "_law_more",Str.ofString "_law_shut"]:List Str).Nodup:=by decide +kernel
theorem ndKC:([Str.ofString "_law_k",Str.ofString "_law_cell_here"]:List Str).Nodup:=by decide +kernel
theorem ndKNM:([Str.ofString "_law_k",Str.ofString "_law_name",Str.ofString "_law_more"]:List Str).Nodup:=by decide +kernel
theorem scFit:FnScope ["_law_told","_law_pool_here","_law_cell_here","_law_more","_law_sorts","_law_places","_law_low","_law_many","_law_names_here","_law_shut","_law_turn","_law_things"] ["_law_told","_law_pool_here","_law_cell_here","_law_more"] (defScope sFitting):=⟨rfl,rfl,rfl,by decide +kernel,rfl,by decide +kernel,by decide +kernel⟩
theorem ok_fitting {g1 g2 g3:Addr} {d1 d2 d3:FuncData} (F:Fun K "_law_fitting" "_law_fitting" sFitting f fd) (U:TxtL mg) (cM:Callee P w K mg base 1 "_law_mix" g1 d1 ["_law_cell_here","_law_k"] spMix) (cT:Callee P w K mg base 2 "_law_thing" g2 d2 ["_law_cell_here","_law_k"] spThing) (cN:Callee P w K mg base 2 "_law_told_names" g3 d3 ["_law_told","_law_many","_law_more"] spToldN):FnOk P w K mg base CX0 3 f fd ["_law_told","_law_pool_here","_law_cell_here","_law_more"] (spFitting K):=by
 refine F.ok scFit (fun vs H Q E h=>?_) (fun cdv A outer s H vs Q E hr h=>?_)
 ·obtain ⟨t,la,lb,pa,cell,more,us,rows,bars,pool,rfl,_⟩:=h
  rfl
 obtain ⟨t,la,lb,pa,cell,more,us,rows,bars,pool,rfl,ht,hla,hu,hlb,V1,hpa,l26,b1,b2,q⟩:=h
 have hr1:Room 1 _:=hr.mono (by decide)
 have l24:=V1.l24
 have hok:=V1.ok
 refine ⟨_,pss_cons (ps_lc (i:=4) [] ["_law_one"] [none] scFit.nd rfl (Or.inl rfl) rfl ⟨rfl,rfl,rfl,rfl⟩ (pi_list (pe_ix ix_tup (pv 0) pe_int (fun _ _=>rfl))) (gown_name 0) rfl rfl rfl
   (fun pins fp s H C=>⟨pg_name (i:=0) ndOn rfl (Or.inl rfl) (.inr rfl),pif_nil,pe_ix (r:=rIxT K) ix_tup (pv 0) pe_int (fun _ _=>rfl)⟩))
  (pss_cons (ps_lc (i:=5) [] ["_law_one"] [none] scFit.nd rfl (Or.inl rfl) rfl ⟨rfl,rfl,rfl,rfl⟩ (pi_list (pe_ix ix_tup (pv 0) pe_int (fun _ _=>rfl))) (gown_name 0) rfl rfl rfl
   (fun pins fp s H C=>⟨pg_name (i:=0) ndOn rfl (Or.inl rfl) (.inr rfl),pif_one (pt_cmpR (r:=rIn K false) op_in_seq (pe_ix (r:=rIxT K) ix_tup (pv 0) pe_int (fun _ _=>rfl)) (pe_lst (ac pe_str (ac pe_str pa_nil))) (by with_unfolding_all rfl)),pv 0⟩))
  (pss_cons (ps_set (i:=6) scFit.nd rfl (Or.inl rfl) (cB (call_maxL rfl) U.max boot_max (ac (pe_op op_cat (pe_lst (ac pe_int pa_nil)) (pe_lc [] ["_law_at","_law_one"] [none,none] rfl ⟨rfl,rfl,rfl,rfl⟩ (pi_enum rfl U.en (ac (pv 5) pa_nil)) (gown_tup2 (K:=K) (n:=2) 0 1) rfl rfl rfl
   (fun pins fp s H C=>⟨pg_tup rfl (pgs_cons (pg_name (i:=0) ndAO rfl (Or.inl rfl) (.inr rfl)) (pgs_cons (pg_name (i:=1) ndAO rfl (Or.inl rfl) (.inr rfl)) pgs_nil)),pif_one (PW.pt (pw_and (pt_cmpR op_eq (pe_ix (r:=rIxT K) ix_tup (pv 1) pe_int (fun _ _=>rfl)) pe_str (nomark _)) (pw_and1 (pt_not (pt_val (pe_ix (r:=rIxT K) ix_tup (pv 1) pe_int (fun _ _=>rfl))))))),pe_op op_add (pv 0) pe_int⟩))) pa_nil)))
  (pss_cons (ps_set (i:=7) scFit.nd rfl (Or.inl rfl) (pe_op op_add (pv 6) (pe_op op_mod (pv 2) (pe_op op_add (pe_op op_sub (cB call_len_seq U.len PySem.boot_len (ac (pv 5) pa_nil)) (pv 6)) pe_int))))
  (pss_cons (ps_set (i:=8) scFit.nd rfl (Or.inl rfl) (cF cN hr (ac (pv 0) (ac (pv 7) (ac (pv 3) pa_nil)))))
  (pss_cons (ps_if (PW.pt (pw_and (pt_cmpR op_in_seq pe_str (pv 4) (by with_unfolding_all rfl)) (pw_and1 (pt_cmpR op_eq (pv 7) (cB call_len_seq U.len PySem.boot_len (ac (pv 5) pa_nil)) (nomark _))))) (pss_one (ps_set (i:=7) scFit.nd rfl (Or.inl rfl) (pe_op op_add (pv 7) (pe_op op_mod (pe_op op_fdiv (pv 2) pe_int) pe_int)))) pss_nil)
  (pss_cons (ps_if (pt_cmpR op_in_seq pe_str (pv 4) (by with_unfolding_all rfl))
   (pss_cons (ps_set (i:=9) scFit.nd rfl (Or.inr rfl) (pe_op op_cat (pe_lc [] ["_law_one"] [none] rfl ⟨rfl,rfl,rfl,rfl⟩ (pi_list (pe_ix ix_tup (pv 0) pe_int (fun _ _=>rfl))) (gown_name 0) rfl rfl rfl
    (fun pins fp s H C=>⟨pg_name (i:=0) ndOn rfl (Or.inl rfl) (.inr rfl),pif_one (pt_cmpR (r:=rIn K false) op_in_seq (pe_ix (r:=rIxT K) ix_tup (pv 0) pe_int (fun _ _=>rfl)) (pe_lst (ac pe_str (ac pe_str pa_nil))) (by with_unfolding_all rfl)),pe_ix (r:=rIxT K) ix_tup (pv 0) pe_int (fun _ _=>rfl)⟩)) (pe_ix ix_tup (pv 0) pe_int (fun _ _=>rfl))))
   (pss_one (ps_set (i:=8) scFit.nd rfl (Or.inl rfl) (pe_op op_cat (pv 8) (pe_lc ["_law_shut","_law_more"] ["_law_k","_law_name","_law_more","_law_shut"] [none,none,some 3,some 9] rfl ⟨rfl,rfl,rfl,rfl⟩ (pi_enum rfl U.en (ac (pv 1) pa_nil)) (gown_tup2 (K:=K) (n:=2) 0 1) rfl rfl rfl
    (fun pins fp s H C=>⟨pg_tup rfl (pgs_cons (pg_name (i:=0) ndKNMS rfl (Or.inl rfl) (.inr rfl)) (pgs_cons (pg_name (i:=1) ndKNMS rfl (Or.inl rfl) (.inr rfl)) pgs_nil)),pif_one (PW.pt (pw_and (pt_cmpR (r:=rIn K true) op_notIn_seq (pv 1) (pv 3) (by with_unfolding_all rfl)) (pw_and1 (pt_cmpR op_eq (pe_op op_mod (cF cM hr1 (ac (pv 2) (ac (pe_op op_add (pv 0) pe_int) pa_nil))) pe_int) pe_int (nomark _))))),pv 1⟩)))))) pss_nil)
  (pss_cons (ps_set (i:=10) scFit.nd rfl (Or.inl rfl) (pe_op op_mod (pv 3) (pe_op op_add (cB call_len_seq U.len PySem.boot_len (ac (pv 8) pa_nil)) pe_int)))
  (pss_cons (ps_set (i:=8) scFit.nd rfl (Or.inl rfl) (pe_op op_cat (pe_slice sl_list (pv 8) (po_some (pv 10)) po_none) (pe_slice sl_list (pv 8) po_none (po_some (pv 10)))))
  (pss_cons (ps_lc (i:=11) ["_law_cell_here"] ["_law_k","_law_cell_here"] [none,some 2] scFit.nd rfl (Or.inl rfl) rfl ⟨rfl,rfl,rfl,rfl⟩ (pi_range1 rfl U.range (ac (pv 7) pa_nil)) (gown_name 0) rfl rfl rfl
   (fun pins fp s H C=>⟨pg_name (i:=0) ndKC rfl (Or.inl rfl) (.inr rfl),pif_nil,cF cT hr (ac (pv 1) (ac (pv 0) pa_nil))⟩))
  (pss_one (ps_ret (pe_tup (ac (pv 11) (ac (pe_lc ["_law_more"] ["_law_k","_law_name","_law_more"] [none,none,some 3] rfl ⟨rfl,rfl,rfl,rfl⟩ (pi_enum rfl U.en (ac (pv 8) pa_nil)) (gown_tup2 (K:=K) (n:=2) 0 1) rfl rfl rfl
   (fun pins fp s H C=>⟨pg_tup rfl (pgs_cons (pg_name (i:=0) ndKNM rfl (Or.inl rfl) (.inr rfl)) (pgs_cons (pg_name (i:=1) ndKNM rfl (Or.inl rfl) (.inr rfl)) pgs_nil)),pif_nil,pe_tup (ac (pv 1) (ac (cF cT hr (ac (pv 2) (ac (pv 0) pa_nil))) pa_nil))⟩)) pa_nil)))))))))))))),?_⟩
 refine ⟨_,rfl,t,_,0,.ref la,rfl,rfl,SqT.of ht,rfl,la,rfl,⟨_,SqL.of hla⟩,fun Ds hDs=>?_⟩
 refine lc_zip (K:=K) TAt (fun _=>true) (fun _ r=>.str (kw r.k)) hDs hla hu (by omega) (fun i u r H' Nn S hu' hr' tr sH n1 s1'=>?_) (fun H1 s1 hDs1=>?_)
 ·have rk:=hok r (List.mem_of_getElem? hr')
  refine ⟨fun _=>?_,fun e=>Bool.noConfusion e⟩
  exact ⟨_,rfl,u,_,0,_,rfl,rfl,SqT.of (sH _ _ tr),lk_0 rk.1,n1 _ (Same.refl _) rfl⟩
 obtain ⟨so,hso,hDs1⟩:∃ so:List Str,so = so/\H1 Ds = some (.lst (so.map V.str)):=⟨rows.map fun r=>kw r.k,rfl,by rw [hDs1,zip_out hu (fun r=>V.str (kw r.k)),List.map_map]; rfl⟩
 clear hso
 refine ⟨_,rfl,t,_,0,.ref la,rfl,rfl,SqT.of (s1 _ _ ht),rfl,la,rfl,⟨_,SqL.of (s1 _ _ hla)⟩,fun Dp hDp=>?_⟩
 refine lc_zip (K:=K) TAt (fun r=>byPl r.k) (fun u _=>.ref u) hDp (s1 _ _ hla) (tats_same s1 hu) (by omega) (fun i u r H' Nn S hu' hr' tr sH n1 s1'=>?_) (fun H2 s2 hDp2=>?_)
 ·have rk:=hok r (List.mem_of_getElem? hr')
  have tu:=sH _ _ tr
  refine ⟨_,rfl,u,_,0,_,rfl,rfl,SqT.of tu,lk_0 rk.1,(by show 2<=sizeLine; decide),fun l hl=>?_⟩
  have s2:=same_new hl (.lst [.str "seat",.str "both"])
  refine ⟨l,_,rfl,.inl (SqL.of upd_same),rfl,rfl,_,rfl,?_⟩
  rw [if_neg Bool.false_ne_true,in_pl' rk.1]
  exact ⟨fun e=>⟨_,rfl,n1 _ s2 e⟩,fun e=>s1' _ s2 e⟩
 have s02:=s1.trans s2
 obtain ⟨up,eup,hup⟩:=zip_keep (tats_same s02 hu) (fun r=>byPl r.k)
 rw [eup] at hDp2
 have lup:up.length<=24:=by rw [hup.length]; exact Nat.le_trans (List.length_filter_le _ _) l24
 have okp:∀ r ∈ rows.filter (fun r=>byPl r.k),r.ok:=fun r h=>hok r (List.mem_filter.mp h).1
 generalize rows.filter (fun r=>byPl r.k) = rp at hup okp
 refine ⟨(by show 1<=sizeLine; decide),fun l0 hl0=>?_⟩
 have s3:=same_new hl0 (.lst [.int 0])
 have e3:upd H2 l0 (.lst [.int 0]) l0 = some (.lst [.int 0]):=upd_same
 have s03:=s02.trans s3
 have hDp3:=s3 _ _ hDp2
 have hup3:=tats_same s3 hup
 generalize upd H2 l0 (.lst [.int 0]) = H3 at s3 e3 s03 hDp3 hup3 |-
 refine ⟨_,rfl,Dp,rfl,⟨_,SqL.of hDp3⟩,fun Dl hDl=>?_⟩
 refine lc_sele (K:=K) (xs:=up.map V.ref) rp.zipIdx (fun y=>decide (y.1.k = 0) && !y.1.b) (fun y=>V.int ((y.2:Nat) + 1)) hDl (SqL.of hDp3) (by rw [List.length_map,hup3.length,List.length_zipIdx]) (by rw [List.length_map]; omega) (fun i x y p H' Nn S hx hy hp sH n1 ss1=>?_) (fun H4 s4 hDl4=>?_)
 ·obtain ⟨u,hu',rfl⟩:=refs_at hx
  obtain ⟨r,hr',tr⟩:=paired_at hup3 hu'
  rw [List.getElem?_zipIdx,hr'] at hy
  have hy:(r,0 + i) = y:=Option.some.inj hy
  subst hy
  rw [Nat.zero_add] at n1 ss1
  have rk:=okp r (List.mem_of_getElem? hr')
  have sp:=same_new hp (.tup [.int (i:Nat),.ref u])
  refine ⟨p,_,rfl,SqT.of upd_same,rfl,_,_,rfl,_,_,rfl,rfl,?_⟩
  have tu:upd H' p (.tup [.int (i:Nat),.ref u]) u = some (.tup (rowV r.k (.str r.z) r.b)):=sp _ _ (sH _ _ tr)
  generalize upd H' p (.tup [.int (i:Nat),.ref u]) = H5 at sp tu |-
  refine ⟨_,rfl,u,_,0,_,rfl,rfl,SqT.of tu,lk_0 rk.1,rfl,_,rfl,?_⟩
  rw [seat_isD r.k rk.1]
  by_cases hk:r.k = 0
  ·refine dT hk ?_
   refine ⟨_,rfl,u,_,2,_,rfl,rfl,SqT.of tu,lk_2s hk,_,rfl,?_⟩
   have ek:(decide (r.k = 0) && !r.b) = !r.b:=by rw [decide_eq_true hk,Bool.true_and]
   exact ⟨fun e=>⟨_,rfl,_,_,rfl,rfl,n1 _ sp (by show (decide (r.k = 0) && !r.b) = true; rw [ek]; exact e)⟩,fun e=>ss1 _ sp (by show (decide (r.k = 0) && !r.b) = false; rw [ek]; exact e)⟩
  ·refine dF hk ?_
   exact ⟨fun e=>Bool.noConfusion e,fun _=>ss1 _ sp (by show (decide (r.k = 0) && !r.b) = false; rw [decide_eq_false hk,Bool.false_and])⟩
 obtain ⟨ns,ens,hns,lns⟩:∃ ns:List Int,((rp.zipIdx.filter fun y=>decide (y.1.k = 0) && !y.1.b).map fun y=>V.int ((y.2:Nat) + 1)) = ns.map V.int/\(∀ n ∈ ns,0<=n/\n<=(up.length:Int))/\ns.length<=24:=by
  refine ⟨(rp.zipIdx.filter fun y=>decide (y.1.k = 0) && !y.1.b).map fun y=>(((y.2:Nat) + 1:Int)),by rw [List.map_map]; rfl,fun n hn=>?_,?_⟩
  ·obtain ⟨y,hy,rfl⟩:=List.mem_map.mp hn
   have:=(List.mem_zipIdx' (List.mem_filter.mp hy).1).1
   have h2:=hup.length
   omega
  ·rw [List.length_map]
   refine Nat.le_trans (List.length_filter_le _ _) ?_
   rw [List.length_zipIdx,<- hup.length]
   exact lup
 rw [ens] at hDl4
 refine ⟨l0,Dl,_,_,rfl,rfl,s4 _ _ e3,hDl4,le1000 (by rw [List.length_map]; show 1 + ns.length<=1000; omega),fun lm hlm=>?_⟩
 have s5:=same_new hlm (.lst ([.int 0] ++ ns.map V.int))
 have e5:upd H4 lm (.lst ([.int 0] ++ ns.map V.int)) lm = some (.lst ((0 :: ns).map V.int)):=upd_same
 generalize upd H4 lm (.lst ([.int 0] ++ ns.map V.int)) = H5 at s5 e5 |-
 refine ⟨lm,0 :: ns,rfl,SqL.of e5,List.cons_ne_nil _ _,fun low hlow=>?_⟩
 have hlw : 0<=low/\low<=(up.length:Int):=by
  rcases List.mem_cons.mp hlow with rfl | h
  ·exact ⟨by decide,by omega⟩
  ·exact hns low h
 have s35:=s4.trans s5
 have s05:=s03.trans s35
 have hDp5:=s35 _ _ hDp3
 have hDs5:=(s2.trans (s3.trans s35)) _ _ hDs1
 clear hlow hns lns ens hDl4 e5 e3 hDp3 hup3 hup okp
 refine ⟨_,rfl,_,rfl,_,rfl,Dp,_,rfl,.inl (SqL.of hDp5),_,rfl,_,_,rfl,rfl,_,_,rfl,rfl,_,_,rfl,rfl,?_,_,_,rfl,rfl,?_⟩
 ·rw [List.length_map]
  omega
 obtain ⟨M,hM,hM0,hM1⟩:∃ M:Int,M = low + cell % (((up.map V.ref).length:Int) - low + 1)/\0<=M/\M<=24:=by
  refine ⟨_,rfl,?_,?_⟩
  all_goals
   rw [List.length_map]
   have h0:=Int.emod_nonneg cell (show (up.length:Int) - low + 1 ≠ 0 by omega)
   have h1:=Int.emod_lt_of_pos cell (show 0 < (up.length:Int) - low + 1 by omega)
   omega
 refine ⟨_,rfl,_,rfl,_,rfl,t,la,lb,M,more,us,rows,(by rw [hM]; rfl),s05 _ _ ht,s05 _ _ hla,tats_same s05 hu,hok,l24,fun ln zs H6 s6 nln hln lz=>?_⟩
 have s06:=s05.trans s6
 have hDp6:=s6 _ _ hDp5
 have hDs6:=s6 _ _ hDs5
 dsimp only [gName]
 refine seq_via (fun σ' H'=>∃ M':Int,σ' = [some (.ref t),some (.ref pa),some (.int cell),some (.int more),some (.ref Ds),some (.ref Dp),some (.int low),some (.int M'),some (.ref ln),none,none,none]/\H' = H6/\0<=M'/\M'<=40) ?_ (fun key=>?_)
 rotate_left
 ·refine ⟨_,rfl,Ds,_,rfl,.inl (SqL.of hDs6),rfl,flatStrs,_,rfl,?_⟩
  refine ite2 (fun _=>?_) (fun _=>?_)
  ·refine ⟨_,rfl,_,rfl,Dp,_,rfl,.inl (SqL.of hDp6),rfl,_,rfl,?_⟩
   refine ite2 (fun _=>?_) (fun _=>?_)
   ·refine ⟨_,rfl,_,rfl,_,_,rfl,rfl,⟨by decide,by decide⟩,_,_,rfl,rfl,(by show (0:Int) < 7; decide),_,_,rfl,rfl,?_⟩
    exact key _ _ ⟨M + cell / 30 % 7,by rw [hM]; rfl,rfl,by omega,by omega⟩
   ·exact key _ _ ⟨M,by rw [hM]; rfl,rfl,by omega,by omega⟩
  ·exact key _ _ ⟨M,by rw [hM]; rfl,rfl,by omega,by omega⟩
 clear hM hM0 hM1
 rintro σ7 H7 ⟨M',rfl,rfl,hM0,hM1⟩
 refine seq_via (fun σ' H'=>∃ (ln':Addr) (zs':List Str) (v9:Option V),σ' = [some (.ref t),some (.ref pa),some (.int cell),some (.int more),some (.ref Ds),some (.ref Dp),some (.int low),some (.int M'),some (.ref ln'),v9,none,none]/\Same H7 H'/\H' ln' = some (.lst (zs'.map V.str))/\zs'.length<=60) ?_ (fun key=>?_)
 rotate_left
 ·refine ⟨_,rfl,Ds,_,rfl,.inl (SqL.of hDs6),rfl,flatStrs,_,rfl,?_⟩
  refine ite2 (fun _=>?_) (fun _=>?_)
  ·refine ⟨_,rfl,t,_,0,.ref la,rfl,rfl,SqT.of (s06 _ _ ht),rfl,la,rfl,⟨_,SqL.of (s06 _ _ hla)⟩,fun Db hDb=>?_⟩
   refine lc_zip (K:=K) TAt (fun r=>byNm r.k) (fun _ r=>.str r.z) hDb (s06 _ _ hla) (tats_same s06 hu) (by omega) (fun i u r H' Nn S hu' hr' tr sH n1 s1'=>?_) (fun H8 s8 hDb8=>?_)
   ·have rk:=hok r (List.mem_of_getElem? hr')
    have tu:=sH _ _ tr
    refine ⟨_,rfl,u,_,0,_,rfl,rfl,SqT.of tu,lk_0 rk.1,(by show 2<=sizeLine; decide),fun l hl=>?_⟩
    have s2':=same_new hl (.lst [.str "both",.str "tag"])
    have tu2:=s2' _ _ tu
    refine ⟨l,_,rfl,.inl (SqL.of upd_same),rfl,rfl,_,rfl,?_⟩
    rw [if_neg Bool.false_ne_true,show inV (V.str (kw r.k)) [.str "both",.str "tag"] = byNm r.k from in_nm r.k rk.1]
    exact ⟨fun e=>⟨_,rfl,u,_,1,_,rfl,rfl,SqT.of tu2,lk_1,n1 _ s2' e⟩,fun e=>s1' _ s2' e⟩
   obtain ⟨nb,enb,lnb⟩:∃ nb:List Str,H8 Db = some (.lst (nb.map V.str))/\nb.length<=24:=by
    have hz:∀ {us:List Addr} {rows:List Rw},Paired (TAt H7) us rows->∃ nb:List Str,(((us.zip rows).filter fun p=>byNm p.2.k).map fun p=>V.str p.2.z) = nb.map V.str/\nb.length<=rows.length:=by
     intro us rows h
     induction h with
     | nil=>exact ⟨[],rfl,Nat.le_refl _⟩
     | @cons u r us rows _ _ ih=>
      obtain ⟨nb,e,l⟩:=ih
      cases hk:byNm r.k
      ·exact ⟨nb,by rw [List.zip_cons_cons,List.filter_cons,if_neg (by rw [hk]; decide)]; exact e,by rw [List.length_cons]; omega⟩
      ·exact ⟨r.z :: nb,by rw [List.zip_cons_cons,List.filter_cons,if_pos hk,List.map_cons,e]; rfl,by rw [List.length_cons,List.length_cons]; omega⟩
    obtain ⟨nb,e,l⟩:=hz (tats_same s06 hu)
    exact ⟨nb,by rw [hDb8,e],by omega⟩
   have s08:=s06.trans s8
   have l60:=V1.l60
   refine ⟨_,rfl,t,_,1,.ref lb,rfl,rfl,SqT.of (s08 _ _ ht),rfl,Db,lb,_,_,rfl,rfl,enb,s08 _ _ hlb,le1000 (by rw [List.length_map,List.length_map]; omega),fun lsh hlsh=>?_⟩
   have s9:=same_new hlsh (.lst (nb.map V.str ++ bars.map V.str))
   have e9:upd H8 lsh (.lst (nb.map V.str ++ bars.map V.str)) lsh = some (.lst ((nb ++ bars).map V.str)):=by rw [upd_same,List.map_append]
   dsimp only [gName]
   generalize upd H8 lsh (.lst (nb.map V.str ++ bars.map V.str)) = H9 at s9 e9 |-
   generalize nb ++ bars = sh at e9
   have s79:=s8.trans s9
   have s09:=s06.trans s79
   refine ⟨_,rfl,_,rfl,pa,rfl,⟨_,SqL.of (s09 _ _ hpa)⟩,fun Dn hDn=>?_⟩
   refine lc_sele (K:=K) (xs:=pool.map V.str) pool.zipIdx (fun y=>decide (y.1 ∉ sh) && decide (mixF more ((y.2:Int) + 50) % 5 = 0)) (fun y=>V.str y.1) hDn (SqL.of (s09 _ _ hpa)) (by rw [List.length_map,List.length_zipIdx]) (by rw [List.length_map]; omega) (fun i x y p H' Nn S hx hy hp sH n1 ss1=>?_) (fun H10 s10 hDn10=>?_)
   ·obtain ⟨z,hz,rfl⟩:=strs_at hx
    rw [List.getElem?_zipIdx,hz] at hy
    have hy:(z,0 + i) = y:=Option.some.inj hy
    subst hy
    rw [Nat.zero_add] at n1 ss1
    have sp:=same_new hp (.tup [.int (i:Nat),.str z])
    refine ⟨p,_,rfl,SqT.of upd_same,rfl,_,_,rfl,_,_,rfl,rfl,?_⟩
    have esh:=sp _ _ (sH _ _ e9)
    generalize upd H' p (.tup [.int (i:Nat),.str z]) = H11 at sp esh |-
    refine ⟨_,rfl,_,rfl,lsh,_,rfl,.inl (SqL.of esh),rfl,flatStrs,_,rfl,?_⟩
    by_cases hz1:z ∈ sh
    ·refine iteC (by rw [if_pos rfl,inStrs,decide_eq_true hz1]; rfl) ?_
     refine ⟨fun e=>Bool.noConfusion e,fun _=>ss1 _ sp ?_⟩
     show (decide (z ∉ sh) && _) = false
     rw [decide_eq_false (fun h=>h hz1)]
     rfl
    ·refine iteB (by rw [if_pos rfl,inStrs,decide_eq_false hz1]; rfl) ?_
     refine ⟨_,rfl,_,rfl,_,_,rfl,rfl,_,_,rfl,_,_,rfl,rfl,(by show (0:Int) < 5; decide),rfl,_,rfl,?_⟩
     refine ⟨fun e=>⟨_,rfl,n1 _ sp ?_⟩,fun e=>ss1 _ sp ?_⟩
     ·show (decide (z ∉ sh) && decide (mixF more ((i:Int) + 50) % 5 = 0)) = true
      rw [decide_eq_true hz1,Bool.true_and]
      exact decide_eq_true (V.int.inj (of_decide_eq_true e))
     ·show (decide (z ∉ sh) && decide (mixF more ((i:Int) + 50) % 5 = 0)) = false
      rw [decide_eq_true hz1,Bool.true_and]
      exact decide_eq_false fun h=>of_decide_eq_false e (congrArg V.int h)
   obtain ⟨np,enp,lnp⟩:=sel_strs pool.zipIdx (fun y=>decide (y.1 ∉ sh) && decide (mixF more ((y.2:Int) + 50) % 5 = 0)) (fun y=>y.1)
   rw [enp] at hDn10
   rw [List.length_zipIdx] at lnp
   have s710:=s79.trans s10
   refine ⟨ln,Dn,_,_,rfl,rfl,s710 _ _ hln,hDn10,le1000 (by rw [List.length_map,List.length_map]; omega),fun l2 hl2=>?_⟩
   have s11:=same_new hl2 (.lst (zs.map V.str ++ np.map V.str))
   exact key _ _ ⟨l2,zs ++ np,_,rfl,s710.trans s11,by rw [upd_same,List.map_append],by rw [List.length_append]; omega⟩
  ·exact key _ _ ⟨ln,zs,_,rfl,Same.refl _,hln,by omega⟩
 clear hln lz nln zs
 rintro σ8 H8 ⟨ln',zs',v9,rfl,s8,hln',lz'⟩
 have s08:=s06.trans s8
 refine ⟨_,rfl,_,rfl,ln',_,rfl,.inl (SqL.of hln'),_,_,rfl,rfl,_,_,rfl,rfl,(by show (0:Int) < ((zs'.map V.str).length:Int) + 1; omega),?_⟩
 have j0 : 0<=more % (((zs'.map V.str).length:Int) + 1):=Int.emod_nonneg _ (by omega)
 obtain ⟨j,hj⟩:=Int.eq_ofNat_of_zero_le j0
 refine ⟨_,rfl,_,rfl,_,rfl,ln',_,rfl,SqL.of hln',fun p1 hp1=>?_⟩
 rw [show cutV (zs'.map V.str) (some (more % (((zs'.map V.str).length:Int) + 1))) none = (zs'.drop j).map V.str by rw [hj]; exact (cut_dropN).trans (List.map_drop ..).symm]
 have s9:=same_new hp1 (.lst ((zs'.drop j).map V.str))
 have e9:upd H8 p1 (.lst ((zs'.drop j).map V.str)) p1 = some (.lst ((zs'.drop j).map V.str)):=upd_same
 generalize upd H8 p1 (.lst ((zs'.drop j).map V.str)) = H9 at s9 e9 |-
 refine ⟨_,rfl,_,rfl,_,rfl,ln',_,rfl,SqL.of (s9 _ _ hln'),fun p2 hp2=>?_⟩
 rw [show cutV (zs'.map V.str) none (some (more % (((zs'.map V.str).length:Int) + 1))) = (zs'.take j).map V.str by rw [hj]; exact (cut_takeN).trans (List.map_take ..).symm]
 have s10:=same_new hp2 (.lst ((zs'.take j).map V.str))
 have e10:upd H9 p2 (.lst ((zs'.take j).map V.str)) p2 = some (.lst ((zs'.take j).map V.str)):=upd_same
 generalize upd H9 p2 (.lst ((zs'.take j).map V.str)) = H10 at s10 e10 |-
 refine ⟨p1,p2,_,_,rfl,rfl,s10 _ _ e9,e10,le1000 (by rw [List.length_map,List.length_map,List.length_drop,List.length_take]; omega),fun l3 hl3=>?_⟩
 have s11:=same_new hl3 (.lst ((zs'.drop j).map V.str ++ (zs'.take j).map V.str))
 have e11:upd H10 l3 (.lst ((zs'.drop j).map V.str ++ (zs'.take j).map V.str)) l3 = some (.lst ((zs'.drop j ++ zs'.take j).map V.str)):=by rw [upd_same,List.map_append]
 have lz:(zs'.drop j ++ zs'.take j).length<=60:=by rw [List.length_append,List.length_drop,List.length_take]; omega
 dsimp only [gName]
 generalize upd H10 l3 (.lst ((zs'.drop j).map V.str ++ (zs'.take j).map V.str)) = H11 at s11 e11 |-
 generalize zs'.drop j ++ zs'.take j = zz at e11 lz
 have s011:=s08.trans (s9.trans (s10.trans s11))
 refine ⟨_,rfl,M',rfl,by omega,by omega,fun D1 hD1=>?_⟩
 refine lc_range (n:=M'.toNat) (fun i ys H'=>Same H11 H'/\H' D1 = some (.lst ys)/\ys.length<=i) ⟨same_new hD1 _,upd_same,Nat.le_refl _⟩ ?_ ?_
 ·rintro i ys H' hi ⟨sH,hDy,ey⟩
  refine ⟨fun _=>?_,fun e=>Bool.noConfusion e⟩
  refine ⟨_,rfl,_,rfl,cell,_,rfl,b1,?_⟩
  exact lcN.mk hi (le1000 (by omega)) hDy ey ⟨fun b' u e=>by rw [upd_ne (ne_of_none e hD1)]; exact sH _ _ e,upd_same,by rw [List.length_append,List.length_singleton]; omega⟩
 rintro ys1 H12 ⟨s12,hD12,_⟩
 have e12:=s12 _ _ e11
 refine ⟨_,rfl,_,rfl,l3,rfl,⟨_,SqL.of e12⟩,fun D2 hD2=>?_⟩
 refine lc_sayse (K:=K) (m:=1) (xs:=zz.map V.str) (fun k=>pairD (zz.getD k "",thingF more (k:Int))) hD2 (SqL.of e12) (by rw [List.length_map]; omega) (fun k x pt H' Qf Qs hx hp sH qf=>?_) (fun vs2 H13 s13 hD2v hp2=>?_)
 ·obtain ⟨z,hz,rfl⟩:=strs_at hx
  have sp:=same_new hp (.tup [.int (k:Nat),.str z])
  refine ⟨pt,_,rfl,SqT.of upd_same,rfl,_,_,rfl,_,_,rfl,rfl,fun _=>?_,fun e=>Bool.noConfusion e⟩
  generalize upd H' pt (.tup [.int (k:Nat),.str z]) = H4' at sp |-
  refine ⟨_,rfl,_,rfl,_,rfl,more,_,rfl,b2,(by show 2<=sizeLine; decide),fun u hu=>?_⟩
  have s5:=same_new hu (.tup [.str z,.int (thingF more (k:Nat))])
  refine qf _ _ (sp.trans s5) (.tup (SqT.of upd_same) ?_)
  rw [show zz.getD k "" = z by rw [List.getD_eq_getElem?_getD,hz]; rfl]
  exact .cons .str (.cons .int .nil)
 refine ⟨(by show 2<=sizeLine; decide),fun tt htt=>?_⟩
 have s14:=same_new htt (.tup [.ref D1,.ref D2])
 refine q tt D1 D2 vs2 ((List.range (zz.map V.str).length).map fun k=>(zz.getD k "",thingF more (k:Int))) _ (s011.trans (s12.trans (s13.trans s14))) upd_same (s14 _ _ hD2v) ?_ (by rw [List.length_map,List.length_range,List.length_map]; exact lz)
 rw [List.map_map]
 exact Paired.imp' (fun _ _ z=>(says_ok (fun _ _ _=>True.intro) z).same s14) hp2
end
end K54
namespace L2
open PySem PySem.Spec PyProof.Rows
theorem nolen_lri:typeLookup (.type "list_reverseiterator") "__len__" = pure none:=by rw [typeLookup_type,builtinLookup_eq_fast]; kernel_rfl
theorem hint_lri:typeLookup (.type "list_reverseiterator") "__length_hint__" = pure (some (.builtin "list_reverseiterator.__length_hint__")):=by rw [typeLookup_type,builtinLookup_eq_fast]; kernel_rfl
section
variable {prog:Program} {w:World} {A:Around} {E:Value->Shared->Prop} {s:Shared}
theorem extend_rev {R:Result->Shared->Prop} {I l S:Addr} {items:Array Value} (hh:A.handled = none) (hit:s.heap.IsRevIter I l ((items.size:Int) - 1)) (hl:s.heap.IsList l items) (hlI:l ≠ I) (hn:items.size<=sizeLine) (hSI:S ≠ I) (hSl:S ≠ l) (res:Value) (c₀:Nat) (hS:s.heap.get? S = some { cls:=.type "list",data:=.seq #[] c₀ })
  (hR:∀ h' tk acc' c',(∀ b o,b ≠ S->b ≠ I->s.heap.get? b = some o->h'.get? b = some o)->h'.get? S = some { cls:=.type "list",dict:=none,data:=.seq acc' c',slots:=#[] }->
   ItemsOf (fun i v=>items[items.size - 1 - i]? = some v) acc' items.size->R (.ok (.ret res)) { s with heap:=h',toks:=tk }) :
  wpAny (model prog w) A.in1 (Builtin.List.listExtendWith (.ref S) (.ref I) res)
   (fun fin s'=>match fin with | .done f=>R (.ok f) s' | .again c'=>c'.quiet = true/\codeAny (model prog w) A c' R s') (fun e s'=>R (.error e) s') s:=by
 have W:=(Walks.listRev (prog:=prog) (w:=w) (A:=A.in1) hh I l hlI items).toS
 have hT:s.TypeIs (.ref I) "list_reverseiterator":=hit.typeIs
 have hSf:S ∉ [I,l]:=fun hm=>by
  rcases List.mem_cons.mp hm with e | hm
  ·exact hSI e
  ·exact hSl (List.mem_singleton.mp hm)
 have h1:Builtin.List.listSameRef (.ref S) (.ref I) = false:=by simp [Builtin.List.listSameRef,hSI]
 have hst:(0:Nat)<=items.size/\s.heap.IsRevIter I l ((items.size:Int) - 1 - ((0:Nat):Int))/\s.heap.IsList l items:=⟨Nat.zero_le _,by simpa using hit,hl⟩
 unfold Builtin.List.listExtendWith
 refine wpAny_bind (wpAny_typeOf hT ?_)
 rw [if_neg (by rw [h1]; decide)]
 refine wpAny_bind (wpAny_pyIter_revIter hit ?_)
 refine wpAny_bind (wpAny_holding ?_)
 unfold Builtin.List.listLengthHint
 refine wpAny_bind (wpAny_specialOf hT nolen_lri ?_)
 show wpAny _ A.in1 (specialOf (Value.ref I) (Str.ofString "__length_hint__") >>= _) _ _ _
 refine wpAny_bind (wpAny_specialOf hT hint_lri ?_)
 generalize hid:("list_reverseiterator.__length_hint__" : String) = id0
 wp_delta
 rw [show splitId id0 = some ("list_reverseiterator","__length_hint__") from by subst hid; decide +kernel]
 subst hid
 refine wpAny_bind (wpAny_isInstance (b:=true) hT (by rw [isSubtype_type]; kernel_rfl) ?_)
 refine wpAny_pure ?_
 rw [if_neg (by decide)]
 refine wpAny_pure ⟨plainId_quiet F.plain_extend_loop _,codeAny_extend_loopS W hn S hSf res items.size 0 _ #[] c₀ rfl (Nat.zero_le _) hst hS (ItemsOf.nil _) fun s' acc' c' hm hS' hacc=>?_⟩
 rw [Moved.eq_with hm]
 refine hR s'.heap s'.toks acc' c' (fun b o hb hbI e=>hm.heap b o (fun hmem=>?_) e) hS' hacc
 rcases List.mem_cons.mp hmem with e' | hmem
 ·exact hb e'
 ·exact hbI (List.mem_singleton.mp hmem)
theorem call_list_rev {Q:Value->Shared->Prop} {I l:Addr} {items:Array Value} (hh:A.handled = none) (hit:s.heap.IsRevIter I l ((items.size:Int) - 1)) (hl:s.heap.IsList l items) (hlI:l ≠ I) (hn:items.size<=sizeLine)
  (hQ:∀ h' tk acc' c',(∀ b o,b ≠ I->s.heap.get? b = some o->h'.get? b = some o)->
   h'.get? s.heap.objs.size = some { cls:=.type "list",dict:=none,data:=.seq acc' c',slots:=#[] }->ItemsOf (fun i v=>items[items.size - 1 - i]? = some v) acc' items.size->Q (.ref s.heap.objs.size) { s with heap:=h',toks:=tk }) :
  wpAny (model prog w) A (call (.type "list") [.ref I]) Q E s:=by
 have hI:I < s.heap.objs.size:=by obtain ⟨o,e,_⟩:=hit; exact Heap.lt_size e
 have hL:l < s.heap.objs.size:=by obtain ⟨_,e,_⟩:=hl; exact Heap.lt_size e
 refine callType_codes (Q₁:=fun obj s₁=>obj = .ref s.heap.objs.size/\s₁ = { s with heap:=s.heap.push { cls:=.type "list",data:=.seq #[] } }) F.called_list (F.typeCall_list_1 _) F.entry_list_init
  (code_list_new _ ⟨rfl,rfl⟩) fun obj s₁ h₁=>?_
 obtain ⟨rfl,rfl⟩:=h₁
 have hS:(s.heap.push { cls:=.type "list",data:=.seq #[] }).get? s.heap.objs.size = some { cls:=.type "list",data:=.seq #[] }:=Heap.get?_push_size _ rfl
 refine ⟨⟨_,hS,rfl⟩,F.args_list_init_2 _ _,?_⟩
 have hIS:I ≠ s.heap.objs.size:=Nat.ne_of_lt hI
 have hLS:l ≠ s.heap.objs.size:=Nat.ne_of_lt hL
 have hbS:∀ b o,s.heap.get? b = some o->b ≠ s.heap.objs.size:=fun b o e=>Nat.ne_of_lt (Heap.lt_size e)
 generalize hS0:s.heap.objs.size = S at hS hIS hLS hbS hQ |-
 have hit1:(s.heap.push { cls:=.type "list",data:=.seq #[] }).IsRevIter I l ((items.size:Int) - 1):=hit.at fun o e=>Heap.get?_push_of_some _ e
 have hl1:=hl.push { cls:=.type "list",data:=.seq #[] }
 have old:∀ b o,s.heap.get? b = some o->(s.heap.push { cls:=.type "list",data:=.seq #[] }).get? b = some o:=fun b o e=>Heap.get?_push_of_some _ e
 generalize s.heap.push { cls:=.type "list",data:=.seq #[] } = hp1 at hS hit1 hl1 old |-
 show wpAny _ _ (do let old <- Builtin.List.listItems (.ref S); Builtin.List.listUpdate (.ref S) (fun _=>#[]); letGo old.toList.reverse; Builtin.List.listExtendWith (.ref S) (.ref I) .none) _ _ _
 refine wpAny_bind ?_
 unfold Builtin.List.listItems
 refine wpAny_bind (wpAny_seqItems hS rfl (wpAny_pure ?_))
 show wpAny _ _ (updateSeq S (fun _=>#[]) >>= fun _=>letGo (#[]:Array Value).toList.reverse >>= fun _=>Builtin.List.listExtendWith (.ref S) (.ref I) .none) _ _ _
 refine wpAny_bind (wpAny_updateSeq hS rfl ?_)
 have hS₂:=Heap.get?_update_self (Obj.mapSeq (fun _=>(#[]:Array Value))) hS rfl
 have oth:∀ b o,b ≠ S->hp1.get? b = some o->(hp1.update S (Obj.mapSeq (fun _=>(#[]:Array Value)))).get? b = some o:=
  fun b o hb e=>(Heap.get?_update_other _ _ (Ne.symm hb)).trans e
 refine wpAny_bind (wpAny_letGo ?_)
 refine extend_rev (A:=A.in1) hh (hit1.at fun o e=>oth I o hIS e) (hl1.at fun o e=>oth l o hLS e) hlI hn (Ne.symm hIS) (Ne.symm hLS) .none _ hS₂ fun h' tk acc' c' hk hS' hacc=>?_
 exact ⟨rfl,hQ h' tk acc' c' (fun b o hb e=>hk b o (hbS b o e) hb (oth b o (hbS b o e) (old b o e))) hS' hacc⟩
end
section
variable {X:Cx}
def tLR (K:PySem.W.Frag) (ta:TA):TE:=fun σ H Q=>ta σ H fun vs H1=>∃ (q:Addr) (ys:List V),vs = [.ref q]/\SqL K H1 q ys/\ys.length<=1000/\∀ l,H1 l = none->Q (.ref l) (upd H1 l (.lst ys.reverse))
theorem pe_listRev {a:Expr} {ta:TA} {p p2 pos pos2:Pos} (hc:X.calm = true) (hg:Gl X "list") (hm:X.mg "list" = none) (hg2:Gl X "reversed") (hm2:X.mg "reversed" = none) (ha:PA X [a] ta) (h1:isSt a = false:=by rfl) :
  PE X (.Call (.Name "list" p) [.Call (.Name "reversed" p2) [a] [] pos2] [] pos) (tLR X.K ta):=by
 refine ⟨?_⟩
 intro pins s σ H Q I h
 refine Call_ (ld_blt I hg hm PyProof.Rows.boot_list (PyProof.Rows.callWith_type1 ?_ (star_cons rfl) rfl))
 rw [star_cons (show isSt (.Call (.Name "reversed" p2) [a] [] pos2) = false from rfl)]
 show wpAny _ _ (spliced ((false,eval (.Call (.Name "reversed" p2) [a] [] pos2) X.env) :: backTo pos (starEach [] X.env))) _ _ s
 refine Calls.spliced_cons ?_
 refine Call_ (ld_blt I hg2 hm2 boot_rev (PyProof.Rows.callWith_type1 (thn (ha pos2 pins s σ H _ I h) fun us s1 ⟨vs,H1,I1,r1,q,ys,e,hS,hn,k⟩=>?_) (star_cons h1) rfl))
 subst e
 cases r1 with
 | cons r rr=>
  cases rr
  cases r
  obtain ⟨its,rv,hp,hz⟩:=I1.list hS
  have hlen:its.length = ys.length:=rv.length.symm
  have hq:q < s1.heap.objs.size:=by obtain ⟨_,e,_⟩:=hp.isList; exact Heap.lt_size e
  refine call_reversed_list hp.isList (Calls.spliced_nil ?_)
  have hsz:its.toArray.size = its.length:=List.size_toArray
  have hqn:q ≠ s1.heap.objs.size:=Nat.ne_of_lt hq
  have hit:(s1.heap.push (revObj q ((its.toArray.size:Int) - 1))).IsRevIter s1.heap.objs.size q ((its.toArray.size:Int) - 1):=⟨_,Heap.get?_push_size _ rfl,rfl,rfl⟩
  have hl1:=hp.isList.push (revObj q ((its.toArray.size:Int) - 1))
  have old:∀ b o,s1.heap.get? b = some o->(s1.heap.push (revObj q ((its.toArray.size:Int) - 1))).get? b = some o:=fun b o e=>Heap.get?_push_of_some _ e
  have hs:(s1.heap.push (revObj q ((its.toArray.size:Int) - 1))).objs.size = s1.heap.objs.size + 1:=Heap.size_push _ _
  generalize s1.heap.push (revObj q ((its.toArray.size:Int) - 1)) = hp1 at hit hl1 old hs |-
  refine call_list_rev (s:={ s1 with heap:=hp1 }) (I1.ok.hd hc) hit hl1 hqn (by rw [hsz,hlen]; exact Nat.le_trans hn (by decide)) fun h' tk acc c' hk he hacc=>?_
  have hrv:acc.toList = its.reverse:=by
   refine List.ext_getElem? fun i=>?_
   have hal:acc.toList.length = its.length:=by rw [Array.length_toList,hacc.1,hsz]
   by_cases hi:i < its.length
   ·have hia:i < acc.toList.length:=by omega
    rw [List.getElem?_eq_getElem hia,List.getElem?_reverse hi]
    have h2:=hacc.2 i acc.toList[i] (by rw [<- Array.getElem?_toList]; exact List.getElem?_eq_getElem hia)
    have h3:its[its.length - 1 - i]? = some acc.toList[i]:=by
     rw [hsz] at h2
     simpa using h2
    exact h3.symm
   ·rw [List.getElem?_eq_none (by omega),List.getElem?_eq_none (by rw [List.length_reverse]; omega)]
  refine ⟨.ref hp1.objs.size,_,I1.laid (t':=tk) (o:=.lst ys.reverse) (fun b o e=>hk b o (Nat.ne_of_lt (Heap.lt_size e)) (old b o e)) (by rw [hs]; exact Nat.le_succ _) ⟨?_,acc.toList,c',by rw [hrv]; exact rv.rev,by simpa using he⟩,rfl,k _ (I1.hok.fresh (by rw [hs]; exact Nat.le_succ _))⟩
  rw [List.length_reverse]
  exact Nat.le_trans hn (by decide)
end
end L2
namespace K54
open PySem L2 PyProof.Rows
def spLNames:Sp:=fun vs H Q _=>∃ (t la lb pa:Addr) (cell:Int) (us:List Addr) (rows:List Rw) (bars pool:List Str),vs = [.ref t,.ref pa,.int cell]/\H t = some (.tup [.ref la,.ref lb])/\H la = some (.lst (us.map V.ref))/\Paired (TAt H) us rows/\H lb = some (.lst (bars.map V.str))/\Valid rows bars/\H pa = some (.lst (pool.map V.str))/\pool.length = 26/\Builtin.Int.intBits cell<=1048576/\
 ∀ (l:Addr) (zs:List Str) (H':Hp),Same H H'->H' l = some (.lst (zs.map V.str))->zs.length<=60->Q (.ref l) H'
def spRight (c:C5) (CF:Addr):Sp:=fun vs H Q _=>∃ (fo t la lb ln:Addr) (us:List Addr) (rows:List Rw) (bars names:List Str),vs = [.ref fo,.ref t,.ref ln]/\FormOk c CF H fo rows bars/\H t = some (.tup [.ref la,.ref lb])/\H la = some (.lst (us.map V.ref))/\Paired (TAt H) us rows/\H lb = some (.lst (bars.map V.str))/\Valid rows bars/\H ln = some (.lst (names.map V.str))/\names.length<=60/\∀ H',Same H H'->Q (.bl true) H'
def spLawB (K:PySem.W.Frag):Sp:=fun vs H Q _=>∃ (a:Addr) (ns:List Int),vs = [.ref a]/\SqL K H a (ns.map V.int)/\ns.length<=63/\(∀ m ∈ ns,Builtin.Int.intBits m<=1048576)/\∀ H',Q (.bl true) H'
section
variable {P:Program} {w:World} {K:PySem.W.Frag} {mg:Str->Option Value} {base:Heap} {f CF:Addr} {fd:FuncData} {c:C5}
theorem ndNT2:([Str.ofString "_law_name",Str.ofString "_law_thing_here"]:List Str).Nodup:=by decide +kernel
theorem ndKNC:([Str.ofString "_law_k",Str.ofString "_law_name",Str.ofString "_law_cell_here"]:List Str).Nodup:=by decide +kernel
theorem bits_div {c:Int} {k:Int} (hk : 0 < k) (h:Builtin.Int.intBits c<=1048576):Builtin.Int.intBits (c / k)<=1048600:=by
 refine Nat.le_trans (PySem.intBits_le_of_natAbs (y:=c) ?_ h) (by decide)
 rcases Int.le_total 0 c with hc | hc
 ·have h1 : 0<=c / k:=Int.ediv_nonneg hc (by omega)
  have h2:c / k<=c:=Int.ediv_le_self _ hc
  omega
 ·have h1:c / k<=0:=by
   have:=Int.ediv_le_ediv hk hc
   simpa using this
  have h2:c<=c / k:=by
   rw [Int.le_ediv_iff_mul_le hk]
   have : 0<=(-c) * (k - 1):=Int.mul_nonneg (by omega) (by omega)
   rw [Int.mul_sub,Int.mul_one,Int.neg_mul] at this
   omega
  omega
theorem scLNames:FnScope ["_law_told","_law_pool_here","_law_cell_here","_law_things","_law_pairs","_law_name","_law_tellable","_law_k","_law_names_here"] ["_law_told","_law_pool_here","_law_cell_here"] (defScope sLNames):=⟨rfl,rfl,rfl,by decide +kernel,rfl,by decide +kernel,by decide +kernel⟩
theorem ok_lnames {g1 g2:Addr} {d1 d2:FuncData} (F:Fun K "_law_names" "_law_names" sLNames f fd) (U:TxtL mg) (cM:Callee P w K mg base 1 "_law_mix" g1 d1 ["_law_cell_here","_law_k"] spMix) (cF':Callee P w K mg base 3 "_law_fitting" g2 d2 ["_law_told","_law_pool_here","_law_cell_here","_law_more"] (spFitting K)):FnOk P w K mg base CX0 4 f fd ["_law_told","_law_pool_here","_law_cell_here"] spLNames:=by
 refine F.ok scLNames (fun vs H Q E h=>?_) (fun cdv A outer s H vs Q E hr h=>?_)
 ·obtain ⟨t,la,lb,pa,cell,us,rows,bars,pool,rfl,_⟩:=h
  rfl
 obtain ⟨t,la,lb,pa,cell,us,rows,bars,pool,rfl,ht,hla,hu,hlb,V1,hpa,l26,hb,q⟩:=h
 have hr1:Room 1 _:=hr.mono (by decide)
 have l24:=V1.l24
 have hok:=V1.ok
 refine ⟨_,pss_cons (ps_if (pt_cmpR op_lt (pe_op op_mod (pv 2) pe_int) pe_int (nomark _))
   (pss_cons (ps_asg (cF cF' hr (ac (pv 0) (ac (pv 1) (ac (pe_op op_fdiv (pv 2) pe_int) (ac (pe_op op_fdiv (pv 2) pe_int) pa_nil))))) (pg_tup rfl (pgs_cons (pg_name (i:=3) scLNames.nd rfl (Or.inl rfl)) (pgs_cons (pg_name (i:=4) scLNames.nd rfl (Or.inl rfl)) pgs_nil))))
   (pss_one (ps_ret (pe_lc [] ["_law_name","_law_thing_here"] [none,none] rfl ⟨rfl,rfl,rfl,rfl⟩ (pi_list (pv 4)) (gown_tup2 (K:=K) (n:=2) 0 1) rfl rfl rfl
    (fun pins fp s H C=>⟨pg_tup rfl (pgs_cons (pg_name (i:=0) ndNT2 rfl (Or.inl rfl) (.inr rfl)) (pgs_cons (pg_name (i:=1) ndNT2 rfl (Or.inl rfl) (.inr rfl)) pgs_nil)),pif_nil,pv 0⟩))))) pss_nil)
  (pss_cons (ps_lc (i:=6) [] ["_law_one"] [none] scLNames.nd rfl (Or.inl rfl) rfl ⟨rfl,rfl,rfl,rfl⟩ (pi_list (pe_ix ix_tup (pv 0) pe_int (fun _ _=>rfl))) (gown_name 0) rfl rfl rfl
    (fun pins fp s H C=>⟨pg_name (i:=0) ndOn rfl (Or.inl rfl) (.inr rfl),pif_one (pt_cmpR (r:=rIn K false) op_in_seq (pe_ix (r:=rIxT K) ix_tup (pv 0) pe_int (fun _ _=>rfl)) (pe_lst (ac pe_str (ac pe_str pa_nil))) (by with_unfolding_all rfl)),pe_ix (r:=rIxT K) ix_tup (pv 0) pe_int (fun _ _=>rfl)⟩))
  (pss_cons (ps_lc (i:=8) ["_law_cell_here"] ["_law_k","_law_name","_law_cell_here"] [none,none,some 2] scLNames.nd rfl (Or.inl rfl) rfl ⟨rfl,rfl,rfl,rfl⟩ (pi_enum rfl U.en (ac (pv 6) pa_nil)) (gown_tup2 (K:=K) (n:=2) 0 1) rfl rfl rfl
    (fun pins fp s H C=>⟨pg_tup rfl (pgs_cons (pg_name (i:=0) ndKNC rfl (Or.inl rfl) (.inr rfl)) (pgs_cons (pg_name (i:=1) ndKNC rfl (Or.inl rfl) (.inr rfl)) pgs_nil)),pif_one (pt_cmpR op_gt (pe_op op_mod (cF cM hr1 (ac (pv 2) (ac (pv 0) pa_nil))) pe_int) pe_int (nomark _)),pv 1⟩))
  (pss_cons (ps_for PassesOwn.never rfl (pi_range1 rfl U.range (ac (pe_op op_mod (pe_op op_fdiv (pv 2) pe_int) pe_int) pa_nil)) (pg_name (i:=7) scLNames.nd rfl (Or.inl rfl))
   (pss_cons (ps_set (i:=5) scLNames.nd rfl (Or.inl rfl) (pe_ix ix_list (pv 1) (pe_op op_mod (cF cM hr1 (ac (pv 2) (ac (pe_op op_add (pv 7) pe_int) pa_nil))) pe_int) (fun _ _=>rfl)))
   (pss_one (ps_if (pt_cmpR op_notIn_seq (pv 5) (pv 8) (by with_unfolding_all rfl)) (pss_one (ps_expr (pe_bm PySem.F.plainAttrs_list PySem.F.slot_list_insert PySem.F.type_list_insert mt_insert (pv 8) (ac (pe_op op_mod (cF cM hr1 (ac (pv 2) (ac (pv 7) pa_nil))) (pe_op op_add (cB call_len_seq U.len PySem.boot_len (ac (pv 8) pa_nil)) pe_int)) (ac (pv 5) pa_nil))))) pss_nil))))
  (pss_one (ps_ret (pv 8)))))),?_⟩
 refine ⟨_,rfl,_,_,rfl,rfl,(by show (0:Int) < 3; decide),_,_,rfl,rfl,_,rfl,?_⟩
 refine ite2 (fun _=>?_) (fun _=>?_)
 ·refine ⟨_,rfl,_,rfl,_,rfl,_,_,rfl,rfl,⟨by decide,by decide⟩,_,rfl,_,_,rfl,rfl,⟨by decide,by decide⟩,t,la,lb,pa,cell / 3,cell / 90,us,rows,bars,pool,rfl,ht,hla,hu,hlb,V1,hpa,l26,bits_div (by decide) hb,bits_div (by decide) hb,fun p l1 l2 ys ps H1 s1 ep e2 gp lp=>?_⟩
  refine ⟨p,_,rfl,SqT.of ep,rfl,_,_,rfl,_,_,rfl,rfl,?_⟩
  refine ⟨_,rfl,l2,rfl,⟨_,SqL.of e2⟩,fun D hD=>?_⟩
  have lys:ys.length = ps.length:=by rw [gp.length,List.length_map]
  refine lc_sel (K:=K) (xs:=ys) ps (fun _=>true) (fun p=>V.str p.1) hD (SqL.of e2) (by omega) (by omega) (fun j x y H' Nn S hx hy sH nn1 ss1=>?_) (fun H2 s2 hD2=>?_)
  ·obtain ⟨d,hd,hyy⟩:=Paired.get gp hx
   obtain ⟨pr',hpr,rfl⟩:=pair_get hd
   rw [hpr] at hy
   cases hy
   obtain ⟨b,rfl,hb'⟩:=pair_says (hyy.same sH)
   refine ⟨b,_,rfl,hb',rfl,_,_,rfl,_,_,rfl,rfl,fun _=>?_,fun e=>Bool.noConfusion e⟩
   exact ⟨_,rfl,nn1 _ (Same.refl _) rfl⟩
  exact q D (ps.map (·.1)) H2 (s1.trans s2) (by rw [hD2,List.filter_eq_self.mpr (fun _ _=>rfl),List.map_map]; rfl) (by rw [List.length_map]; exact lp)
 refine ⟨_,rfl,t,_,0,.ref la,rfl,rfl,SqT.of ht,rfl,la,rfl,⟨_,SqL.of hla⟩,fun Db hDb=>?_⟩
 refine lc_zip (K:=K) TAt (fun r=>byNm r.k) (fun _ r=>.str r.z) hDb hla hu (by omega) (fun i u r H' Nn S hu' hr' tr sH n1 s1'=>?_) (fun H1 s1 hDb1=>?_)
 ·have rk:=hok r (List.mem_of_getElem? hr')
  have tu:=sH _ _ tr
  refine ⟨_,rfl,u,_,0,_,rfl,rfl,SqT.of tu,lk_0 rk.1,(by show 2<=sizeLine; decide),fun l hl=>?_⟩
  have s2':=same_new hl (.lst [.str "both",.str "tag"])
  have tu2:=s2' _ _ tu
  refine ⟨l,_,rfl,.inl (SqL.of upd_same),rfl,rfl,_,rfl,?_⟩
  rw [if_neg Bool.false_ne_true,show inV (V.str (kw r.k)) [.str "both",.str "tag"] = byNm r.k from in_nm r.k rk.1]
  exact ⟨fun e=>⟨_,rfl,u,_,1,_,rfl,rfl,SqT.of tu2,lk_1,n1 _ s2' e⟩,fun e=>s1' _ s2' e⟩
 obtain ⟨nb,enb,lnb⟩:∃ nb:List Str,H1 Db = some (.lst (nb.map V.str))/\nb.length<=24:=by
  have hz:∀ {us:List Addr} {rows:List Rw},Paired (TAt H) us rows->∃ nb:List Str,(((us.zip rows).filter fun p=>byNm p.2.k).map fun p=>V.str p.2.z) = nb.map V.str/\nb.length<=rows.length:=by
   intro us rows h
   induction h with
   | nil=>exact ⟨[],rfl,Nat.le_refl _⟩
   | @cons u r us rows _ _ ih=>
    obtain ⟨nb,e,l⟩:=ih
    cases hk:byNm r.k
    ·exact ⟨nb,by rw [List.zip_cons_cons,List.filter_cons,if_neg (by rw [hk]; decide)]; exact e,by rw [List.length_cons]; omega⟩
    ·exact ⟨r.z :: nb,by rw [List.zip_cons_cons,List.filter_cons,if_pos hk,List.map_cons,e]; rfl,by rw [List.length_cons,List.length_cons]; omega⟩
  obtain ⟨nb,e,l⟩:=hz hu
  exact ⟨nb,by rw [hDb1,e],by omega⟩
 refine ⟨_,rfl,Db,rfl,⟨_,SqL.of enb⟩,fun Dn hDn=>?_⟩
 refine lc_sele (K:=K) (xs:=nb.map V.str) nb.zipIdx (fun y=>decide ((0:Int) < mixF cell (y.2:Int) % 3)) (fun y=>V.str y.1) hDn (SqL.of enb) (by rw [List.length_map,List.length_zipIdx]) (by rw [List.length_map]; omega) (fun i x y p H' Nn S hx hy hp sH n1 ss1=>?_) (fun H2 s2 hDn2=>?_)
 ·obtain ⟨z,hz,rfl⟩:=strs_at hx
  rw [List.getElem?_zipIdx,hz] at hy
  have hy:(z,0 + i) = y:=Option.some.inj hy
  subst hy
  rw [Nat.zero_add] at n1 ss1
  have sp:=same_new hp (.tup [.int (i:Nat),.str z])
  refine ⟨p,_,rfl,SqT.of upd_same,rfl,_,_,rfl,_,_,rfl,rfl,?_⟩
  generalize upd H' p (.tup [.int (i:Nat),.str z]) = H11 at sp |-
  refine ⟨_,rfl,_,rfl,cell,_,rfl,_,_,rfl,rfl,(by show (0:Int) < 3; decide),_,_,rfl,rfl,_,rfl,?_⟩
  exact ⟨fun e=>⟨_,rfl,n1 _ sp e⟩,fun e=>ss1 _ sp e⟩
 obtain ⟨nn,enn,lnn⟩:=sel_strs nb.zipIdx (fun y=>decide ((0:Int) < mixF cell (y.2:Int) % 3)) (fun y=>y.1)
 rw [enn] at hDn2
 rw [List.length_zipIdx] at lnn
 have s02:=s1.trans s2
 have n4 : 0<=cell / 3 % 4:=Int.emod_nonneg _ (by decide)
 have n5:cell / 3 % 4 < 4:=Int.emod_lt_of_pos _ (by decide)
 have nDn:H Dn = none:=s1.free hDn
 refine ⟨_,rfl,_,_,rfl,rfl,⟨by decide,by decide⟩,_,_,rfl,rfl,(by show (0:Int) < 4; decide),cell / 3 % 4,rfl,by omega,by omega,?_⟩
 refine for_range (n:=(cell / 3 % 4).toNat) (fun i σ H'=>∃ (zs:List Str) (v5 v7:Option V),σ = [some (.ref t),some (.ref pa),some (.int cell),none,none,v5,some (.ref Db),v7,some (.ref Dn)]/\Same H H'/\H' Dn = some (.lst (zs.map V.str))/\zs.length<=24 + i) ⟨nn,_,_,rfl,s02,hDn2,by omega⟩ ?_ ?_
 ·rintro i σ H3 hi ⟨zs,v5,v7,rfl,s3,e3,lz⟩
  have d0 : 0<=mixF cell ((0:Int) + (i:Int) + 40) % 26:=Int.emod_nonneg _ (by decide)
  have d1:mixF cell ((0:Int) + (i:Int) + 40) % 26 < 26:=Int.emod_lt_of_pos _ (by decide)
  obtain ⟨j,hj⟩:=Int.eq_ofNat_of_zero_le d0
  have hjl:j < pool.length:=by omega
  refine ⟨_,rfl,_,rfl,_,rfl,_,_,rfl,rfl,cell,_,rfl,_,_,rfl,rfl,(by show (0:Int) < 26; decide),pa,_,_,.str pool[j],rfl,rfl,SqL.of (s3 _ _ hpa),(by show atI _ (mixF cell ((0:Int) + (i:Int) + 40) % 26) = _; rw [hj]; exact atI_nat (by rw [List.getElem?_map,List.getElem?_eq_getElem hjl]; rfl)),?_⟩
  refine ⟨_,rfl,_,rfl,Dn,_,rfl,.inl (SqL.of e3),rfl,flatStrs,_,rfl,?_⟩
  refine ite2 (fun _=>?_) (fun _=>?_)
  ·have j0 : 0<=mixF cell ((0:Int) + (i:Int)) % (((zs.map V.str).length:Int) + 1):=Int.emod_nonneg _ (by omega)
   have j1:mixF cell ((0:Int) + (i:Int)) % (((zs.map V.str).length:Int) + 1) < ((zs.map V.str).length:Int) + 1:=Int.emod_lt_of_pos _ (by omega)
   obtain ⟨k,hk⟩:=Int.eq_ofNat_of_zero_le j0
   refine ⟨_,rfl,.inl ⟨rfl,_,SqL.of e3⟩,_,rfl,_,rfl,cell,_,rfl,_,rfl,Dn,_,rfl,.inl (SqL.of e3),_,_,rfl,rfl,_,_,rfl,rfl,(by show (0:Int) < ((zs.map V.str).length:Int) + 1; omega),_,rfl,?_⟩
   refine ⟨Dn,_,k,_,rfl,(by rw [<- hk]),e3,by omega,by rw [List.length_map]; omega,?_⟩
   refine ⟨zs.take k ++ pool[j] :: zs.drop k,_,_,rfl,fun b o e=>by rw [upd_ne (ne_of_none e nDn)]; exact s3 _ _ e,by rw [upd_same,List.map_append,List.map_cons,List.map_take,List.map_drop],?_⟩
   rw [List.length_append,List.length_cons,List.length_take,List.length_drop]
   omega
  ·exact ⟨zs,_,_,rfl,s3,e3,by omega⟩
 ·rintro σ H3 ⟨zs,v5,v7,rfl,s3,e3,lz⟩
  exact ⟨_,rfl,q Dn zs H3 s3 e3 (by omega)⟩
theorem ndKN:([Str.ofString "_law_k",Str.ofString "_law_name"]:List Str).Nodup:=by decide +kernel
def roomD:Nat × Option Nat->List Dt
 | (l,none)=>[.int (l:Nat),.non]
 | (l,some h)=>[.int (l:Nat),.int (h:Nat)]
theorem room_says {K:PySem.W.Frag} {H:Hp} {n:Nat} {p:Addr} {lh:Nat × Option Nat} (h:H p = some (.tup [.int (lh.1:Nat),numV lh.2])):Says K T' H (n + 1) (.ref p) (.tup (roomD lh)):=by
 obtain ⟨l,o⟩:=lh
 cases o with
 | none=>exact .tup (SqT.of h) (.cons .int (.cons .non .nil))
 | some o=>exact .tup (SqT.of h) (.cons .int (.cons .int .nil))
theorem RoomAt.same {H H':Hp} {v:V} {ro:Option (Nat × Option Nat)} (h:RoomAt H v ro) (s:Same H H'):RoomAt H' v ro:=by
 cases ro with
 | none=>exact h
 | some lh=>
  obtain ⟨p,e,hp⟩:=h
  exact ⟨p,e,s _ _ hp⟩
theorem strs_says {K:PySem.W.Frag} {H:Hp} {n:Nat}:∀ (zs:List Str),Paired (Says K T' H n) (zs.map V.str) (zs.map fun z=>Dt.str z)
 | []=>.nil
 | z :: zs=>.cons .str (strs_says zs)
theorem scRight:FnScope ["_law_form_here","_law_told","_law_names_here","_law_handed","_law_found","_law_pairs","_law_many","_law_call"] ["_law_form_here","_law_told","_law_names_here"] (defScope sRight):=⟨rfl,rfl,rfl,by decide +kernel,rfl,by decide +kernel,by decide +kernel⟩
theorem ok_right {g1 g2 g3 g4 g5 gL:Addr} {d1 d2 d3 d4 d5 eL:FuncData} (F:Fun K "_law_right" "_law_right" sRight f fd) (U:TxtL mg) (hrv:mg "reversed" = none) (cRo:Callee P w K mg base 6 "room" g1 d1 ["form","names"] (spRoom c CF)) (cIs:Callee P w K mg base 2 "_law_is_room" g2 d2 ["_law_found"] spIsRoom) (cEn:Callee P w K mg base 1 "_law_endless" g3 d3 ["_law_told","_law_names_here"] spEndless) (cFi:Callee P w K mg base 6 "fits" g4 d4 ["form","call"] (spFits K c CF)) (cWi:Callee P w K mg base 1 "_law_within" g5 d5 ["_law_found","_law_many"] spWithin)
  (FK:FC K CF) (mL:Meth K CF "places" gL) (GL:FnOk P w K mg base CX0 1 gL eL ["self"] (spPlaces c CF)) (bL:Binds K eL ["self"] []):FnOk P w K mg base CX0 7 f fd ["_law_form_here","_law_told","_law_names_here"] (spRight c CF):=by
 refine F.ok scRight (fun vs H Q E h=>?_) (fun cdv A outer s H vs Q E hr h=>?_)
 ·obtain ⟨fo,t,la,lb,ln,us,rows,bars,names,rfl,_⟩:=h
  rfl
 obtain ⟨fo,t,la,lb,ln,us,rows,bars,names,rfl,hF,ht,hla,hu,hlb,V1,hln,ln60,q⟩:=h
 have hr1:Room 1 _:=hr.mono (by decide)
 have hr2:Room 2 _:=hr.mono (by decide)
 have hU:=hr.units
 have l24:=V1.l24
 refine ⟨_,pss_cons (ps_set (i:=3) scRight.nd rfl (Or.inl rfl) (cTy call_list_of U.list PyProof.Rows.boot_list (ac (pv 2) pa_nil)))
  (pss_cons (ps_set (i:=4) scRight.nd rfl (Or.inl rfl) (cF cRo hr (ac (pv 0) (ac (pv 3) pa_nil))))
  (pss_cons (ps_if (PW.pt (pw_or (pt_not (pt_val (cF cIs hr2 (ac (pv 4) pa_nil)))) (pw_or (pt_cmpR (op_neS hU) (pv 3) (pv 2) (nomark _)) (pw_or1 (pt_cmpR (OpR.or op_ne (op_neS hU)) (cF cRo hr (ac (pv 0) (ac (pe_listRev rfl rfl U.list rfl hrv (ac (pv 2) pa_nil)) pa_nil))) (pv 4) (nomark _)))))) (pss_one (ps_ret pe_bl)) pss_nil)
  (pss_cons (ps_if (PW.pt (pw_and (pt_cmp (pc_notN (pv 4))) (pw_and1 (pt_cmpR op_ne (pe_cmp (pc_isN (pe_ix ix_tup (pv 4) pe_int (fun _ _=>rfl)))) (cF cEn hr1 (ac (pv 1) (ac (pv 2) pa_nil))) (nomark _))))) (pss_one (ps_ret pe_bl)) pss_nil)
  (pss_cons (ps_lc (i:=5) [] ["_law_k","_law_name"] [none,none] scRight.nd rfl (Or.inl rfl) rfl ⟨rfl,rfl,rfl,rfl⟩ (pi_enum rfl U.en (ac (pv 2) pa_nil)) (gown_tup2 (K:=K) (n:=2) 0 1) rfl rfl rfl
   (fun pins fp s H C=>⟨pg_tup rfl (pgs_cons (pg_name (i:=0) ndKN rfl (Or.inl rfl) (.inr rfl)) (pgs_cons (pg_name (i:=1) ndKN rfl (Or.inl rfl) (.inr rfl)) pgs_nil)),pif_nil,pe_tup (ac (pv 1) (ac (pv 0) pa_nil))⟩))
  (pss_cons (ps_for PassesOwn.never rfl (pi_list (pe_op op_cat (cTy (call_listR rfl) U.list PyProof.Rows.boot_list (ac (cTy call_rng U.range PyProof.Rows.boot_range (ac (pe_op op_add (pe_meth0 (pv 0) FK.cl mL GL hr1 bL .nil pass0) pe_int) pa_nil)) pa_nil)) (pe_lst (ac pe_int pa_nil)))) (pg_name (i:=6) scRight.nd rfl (Or.inl rfl))
   (pss_cons (ps_set (i:=7) scRight.nd rfl (Or.inl rfl) (pe_lst (ac (pe_tup (ac pe_str (ac (pe_op op_rep (pe_lst (ac pe_int pa_nil)) (cB (call_min2 rfl) U.min boot_min (ac (pv 6) (ac pe_int pa_nil)))) pa_nil))) (ac (pe_tup (ac pe_str (ac (pv 5) pa_nil))) (ac (pe_tup (ac pe_str (ac (pe_op op_rep (pe_lst (ac pe_int pa_nil)) (pe_op op_sub (pv 6) (cB (call_min2 rfl) U.min boot_min (ac (pv 6) (ac pe_int pa_nil))))) pa_nil))) pa_nil)))))
   (pss_one (ps_if (pt_cmpR op_ne (cF cFi hr (ac (pv 0) (ac (pv 7) pa_nil))) (cF cWi hr1 (ac (pv 4) (ac (pv 6) pa_nil))) (nomark _)) (pss_one (ps_ret pe_bl)) pss_nil))))
  (pss_one (ps_ret pe_bl))))))),?_⟩
 refine ⟨_,rfl,ln,_,rfl,.inl (SqL.of hln),fun lh hlh=>?_⟩
 have s1:=same_new hlh (.lst (names.map V.str))
 have e1:upd H lh (.lst (names.map V.str)) lh = some (.lst (names.map V.str)):=upd_same
 dsimp only [gName]
 generalize upd H lh (.lst (names.map V.str)) = H1 at s1 e1 |-
 refine ⟨_,rfl,_,rfl,fo,lh,rows,bars,names,rfl,hF.same s1,e1,by omega,fun v H2 s2 hv=>?_⟩
 have s02:=s1.trans s2
 have ro:=room_ok rows bars names
 dsimp only [gName]
 refine seq_via (fun σ' H'=>σ' = [some (.ref fo),some (.ref t),some (.ref ln),some (.ref lh),some v,none,none,none]/\Same H2 H') ?_ (fun key=>?_)
 rotate_left
 ·refine ⟨_,rfl,v,_,rfl,hv,ro,_,rfl,?_⟩
  refine iteF ?_
  refine ⟨_,rfl,_,rfl,lh,ln,0,.lst (names.map fun z=>Dt.str z),fun _=>True,fun _=>True,rfl,rfl,by decide,.lst True.intro (s2 _ _ e1) (strs_says names),.lst True.intro (s02 _ _ hln) (strs_says names),_,rfl,?_⟩
  refine iteF ?_
  refine ⟨_,rfl,_,rfl,ln,_,rfl,SqL.of (s02 _ _ hln),by rw [List.length_map]; omega,fun lr hlr=>?_⟩
  have s3:=same_new hlr (.lst (names.map V.str).reverse)
  have e3:upd H2 lr (.lst (names.map V.str).reverse) lr = some (.lst (names.reverse.map V.str)):=by rw [upd_same,List.map_reverse]
  generalize upd H2 lr (.lst (names.map V.str).reverse) = H3 at s3 e3 |-
  refine ⟨fo,lr,rows,bars,names.reverse,rfl,hF.same (s02.trans s3),e3,by rw [List.length_reverse]; omega,fun v2 H4 s4 hv2=>?_⟩
  rw [room_rev V1] at hv2
  have s24:=s3.trans s4
  have hv4:=RoomAt.same hv s24
  refine ⟨_,rfl,?_⟩
  cases er:roomF rows bars names with
  | none=>
   rw [er] at hv2 hv4
   have h1:v2 = .non:=hv2
   have h2:v = .non:=hv4
   subst h1 h2
   refine .inl ⟨rfl,_,rfl,?_⟩
   refine iteF ?_
   exact key _ _ ⟨rfl,s24⟩
  | some lh'=>
   rw [er] at hv2 hv4
   obtain ⟨p2,rfl,hp2⟩:=hv2
   obtain ⟨p,rfl,hp⟩:=hv4
   refine .inr ⟨p2,p,1,_,fun _=>True,fun _=>True,rfl,rfl,by decide,room_says hp2,room_says hp,_,rfl,?_⟩
   refine iteF ?_
   exact key _ _ ⟨rfl,s24⟩
 rintro σ3 H3 ⟨rfl,s3⟩
 have s03:=s02.trans s3
 have hv3:=RoomAt.same hv s3
 refine seq_via (fun σ' H'=>σ' = [some (.ref fo),some (.ref t),some (.ref ln),some (.ref lh),some v,none,none,none]/\Same H3 H') ?_ (fun key=>?_)
 rotate_left
 ·refine ⟨_,rfl,_,rfl,?_⟩
  cases er:roomF rows bars names with
  | none=>
   rw [er] at hv3
   have h2:v = .non:=hv3
   subst h2
   refine iteF ?_
   refine iteF ?_
   exact key _ _ ⟨rfl,Same.refl _⟩
  | some lh'=>
   rw [er] at hv3
   obtain ⟨l,h⟩:=lh'
   obtain ⟨p,rfl,hp⟩:=(show ∃ p,v = .ref p/\H3 p = some (.tup [.int (l:Nat),numV h]) from hv3)
   refine iteT ?_
   refine ⟨_,rfl,p,_,1,_,rfl,rfl,SqT.of hp,rfl,?_⟩
   refine ⟨_,rfl,_,rfl,t,la,lb,ln,us,rows,names,rfl,s03 _ _ ht,s03 _ _ hla,tats_same s03 hu,V1.ok,l24,s03 _ _ hln,fun H4 s4=>?_⟩
   rw [<- room_end V1 er]
   refine ⟨rfl,_,rfl,?_⟩
   refine iteNS (by cases h <;> rfl) ?_
   exact key _ _ ⟨rfl,s4⟩
 rintro σ4 H4 ⟨rfl,s4⟩
 have s04:=s03.trans s4
 have hv4:=RoomAt.same hv3 s4
 refine ⟨_,rfl,ln,rfl,⟨_,SqL.of (s04 _ _ hln)⟩,fun D hD=>?_⟩
 refine lc_sayse (K:=K) (m:=1) (xs:=names.map V.str) (fun k=>pairD (names.getD k "",((k:Nat):Int))) hD (SqL.of (s04 _ _ hln)) (by rw [List.length_map]; omega) (fun k x pt H' Qf Qs hx hp sH qf=>?_) (fun vs2 H5 s5 hD5 hp5=>?_)
 ·obtain ⟨z,hz,rfl⟩:=strs_at hx
  have sp:=same_new hp (.tup [.int (k:Nat),.str z])
  refine ⟨pt,_,rfl,SqT.of upd_same,rfl,_,_,rfl,_,_,rfl,rfl,fun _=>?_,fun e=>Bool.noConfusion e⟩
  generalize upd H' pt (.tup [.int (k:Nat),.str z]) = H4' at sp |-
  refine ⟨_,rfl,_,rfl,(by show 2<=sizeLine; decide),fun u hu=>?_⟩
  have s5:=same_new hu (.tup [.str z,.int (k:Nat)])
  refine qf _ _ (sp.trans s5) (.tup (SqT.of upd_same) ?_)
  rw [show names.getD k "" = z by rw [List.getD_eq_getElem?_getD,hz]; rfl]
  exact .cons .str (.cons .int .nil)
 obtain ⟨ps,hps,eps⟩:∃ ps:List (Str × Int),Paired (Says K T' H5 1) vs2 (ps.map pairD)/\ps.map (·.1) = names:=by
  refine ⟨(List.range (names.map V.str).length).map fun k=>(names.getD k "",((k:Nat):Int)),?_,?_⟩
  ·rw [List.map_map]
   exact Paired.imp' (fun _ _ z=>says_ok (fun _ _ _=>True.intro) z) hp5
  ·rw [List.map_map,List.length_map]
   refine List.ext_getElem? fun i=>?_
   by_cases hi:i < names.length
   ·rw [List.getElem?_map,List.getElem?_range hi,List.getElem?_eq_getElem hi]
    show some (names.getD i "") = _
    rw [List.getD_eq_getElem?_getD,List.getElem?_eq_getElem hi]; rfl
   ·rw [List.getElem?_eq_none (by rw [List.length_map,List.length_range]; omega),List.getElem?_eq_none (by omega)]
 have lps:ps.length = names.length:=by rw [<- eps,List.length_map]
 have s05:=s04.trans s5
 have hv5:=RoomAt.same hv4 s5
 have hF5:=hF.same s05
 obtain ⟨dx,fs,lr',lb',ld',ps',g1,g2,g3,g4,g5,g6⟩:=id hF5.at_
 have nmL:fs.lookup ("places" : Str) = none:=g2.no _ (by decide +kernel)
 have hpl:plN rows<=24:=Nat.le_trans (List.length_filter_le _ _) l24
 refine ⟨_,rfl,fo,dx,fs,rfl,g1,nmL,fo,rows,bars,rfl,hF5.at_,?_⟩
 refine ⟨_,_,rfl,rfl,plN rows + 4,rfl,fun pr hpr=>?_⟩
 have s6:=same_new hpr (.rng 0 ((plN rows + 4:Nat):Int))
 have e6:upd H5 pr (.rng 0 ((plN rows + 4:Nat):Int)) pr = some (.rng 0 ((plN rows + 4:Nat):Int)):=upd_same
 generalize upd H5 pr (.rng 0 ((plN rows + 4:Nat):Int)) = H6 at s6 e6 |-
 refine ⟨pr,plN rows + 4,rfl,e6,by omega,fun lq hlq=>?_⟩
 have s7:=same_new hlq (.lst ((intsTo (plN rows + 4)).map V.int))
 have e7:upd H6 lq (.lst ((intsTo (plN rows + 4)).map V.int)) lq = some (.lst ((intsTo (plN rows + 4)).map V.int)):=upd_same
 generalize upd H6 lq (.lst ((intsTo (plN rows + 4)).map V.int)) = H7 at s7 e7 |-
 refine ⟨(by show 1<=sizeLine; decide),fun l5 hl5=>?_⟩
 have s8:=same_new hl5 (.lst [.int 50])
 have e8:upd H7 l5 (.lst [.int 50]) l5 = some (.lst [.int 50]):=upd_same
 generalize upd H7 l5 (.lst [.int 50]) = H8 at s8 e8 |-
 have lit:(intsTo (plN rows + 4)).length = plN rows + 4:=by unfold intsTo; rw [List.length_map,List.length_range]
 refine ⟨lq,l5,_,_,rfl,rfl,s8 _ _ e7,e8,le1000 (by rw [List.length_map,lit]; show plN rows + 4 + 1<=1000; omega),fun l9 hl9=>?_⟩
 have s9:=same_new hl9 (.lst ((intsTo (plN rows + 4)).map V.int ++ [.int 50]))
 have e9:upd H8 l9 (.lst ((intsTo (plN rows + 4)).map V.int ++ [.int 50])) l9 = some (.lst ((intsTo (plN rows + 4)).map V.int ++ [.int 50])):=upd_same
 have hels:∀ x ∈ (intsTo (plN rows + 4)).map V.int ++ [V.int 50],∃ k:Nat,k<=50/\x = .int ((k:Nat):Int):=fun x hx=>by
  rcases List.mem_append.mp hx with h | h
  ·unfold intsTo at h
   rw [List.map_map] at h
   obtain ⟨k,hk,rfl⟩:=List.mem_map.mp h
   rw [List.mem_range] at hk
   exact ⟨k,by omega,rfl⟩
  ·exact ⟨50,Nat.le_refl _,List.mem_singleton.mp h⟩
 generalize upd H8 l9 (.lst ((intsTo (plN rows + 4)).map V.int ++ [.int 50])) = H9 at s9 e9 |-
 generalize (intsTo (plN rows + 4)).map V.int ++ [V.int 50] = xs9 at e9 hels
 have s59:=s6.trans (s7.trans (s8.trans s9))
 have hF9:=hF5.same s59
 have hv9:=RoomAt.same hv5 s59
 have hD9:=s59 _ _ hD5
 have hps9:=pairs_same s59 hps
 have s09:=s05.trans s59
 refine ⟨l9,rfl,⟨_,SqL.of e9⟩,for_list (K:=K) (a:=l9) (xs:=xs9) (fun j σ H'=>∃ v6 v7:Option V,σ = [some (.ref fo),some (.ref t),some (.ref ln),some (.ref lh),some v,some (.ref D),v6,v7]/\Same H9 H') ⟨_,_,rfl,Same.refl _⟩ (fun j σ H' _ ⟨_,_,_,sH⟩=>SqL.of (sH _ _ e9)) ?_ ?_⟩
 ·rintro j x σ H10 hx ⟨v6,v7,rfl,s10⟩
  obtain ⟨k,hk,rfl⟩:=hels x (List.mem_of_getElem? hx)
  have emin:(if (30:Int) < ((k:Nat):Int) then (30:Int) else ((k:Nat):Int)) = ((min k 30:Nat):Int):=by split <;> omega
  have erep:∀ (n:Nat) (i:Int),(List.replicate n [V.int i]).flatten = (List.replicate n i).map V.int:=fun n i=>by
   induction n with
   | zero=>rfl
   | succ n ih=>rw [List.replicate_succ,List.flatten_cons,ih,List.replicate_succ]; rfl
  refine ⟨(by show 1<=sizeLine; decide),fun q1 hq1=>?_⟩
  have t1:=same_new hq1 (.lst [.int 7])
  have d1:upd H10 q1 (.lst [.int 7]) q1 = some (.lst [.int 7]):=upd_same
  generalize upd H10 q1 (.lst [.int 7]) = G1 at t1 d1 |-
  refine ⟨_,rfl,_,_,rfl,?_⟩
  refine ⟨q1,((min k 30:Nat):Int),_,rfl,congrArg V.int emin,d1,by omega,by omega,le1000 (by show 1 * ((min k 30:Nat):Int).toNat<=1000; omega),fun r1 hr1=>?_⟩
  rw [Int.toNat_natCast,erep]
  have t2:=same_new hr1 (.lst ((List.replicate (min k 30) (7:Int)).map V.int))
  have d2:upd G1 r1 (.lst ((List.replicate (min k 30) (7:Int)).map V.int)) r1 = some (.lst ((List.replicate (min k 30) (7:Int)).map V.int)):=upd_same
  generalize upd G1 r1 (.lst ((List.replicate (min k 30) (7:Int)).map V.int)) = G2 at t2 d2 |-
  refine ⟨(by show 2<=sizeLine; decide),fun u1 hu1=>?_⟩
  have t3:=same_new hu1 (.tup [.str "row",.ref r1])
  have d3:upd G2 u1 (.tup [.str "row",.ref r1]) u1 = some (.tup [.str "row",.ref r1]):=upd_same
  generalize upd G2 u1 (.tup [.str "row",.ref r1]) = G3 at t3 d3 |-
  refine ⟨_,rfl,(by show 2<=sizeLine; decide),fun u2 hu2=>?_⟩
  have t4:=same_new hu2 (.tup [.str "book",.ref D])
  have d4:upd G3 u2 (.tup [.str "book",.ref D]) u2 = some (.tup [.str "book",.ref D]):=upd_same
  generalize upd G3 u2 (.tup [.str "book",.ref D]) = G4 at t4 d4 |-
  refine ⟨(by show 1<=sizeLine; decide),fun q3 hq3=>?_⟩
  have t5:=same_new hq3 (.lst [.int 8])
  have d5:upd G4 q3 (.lst [.int 8]) q3 = some (.lst [.int 8]):=upd_same
  generalize upd G4 q3 (.lst [.int 8]) = G5 at t5 d5 |-
  refine ⟨_,rfl,_,rfl,_,_,rfl,_,_,rfl,rfl,?_⟩
  refine ⟨q3,((k - min k 30:Nat):Int),_,rfl,congrArg V.int (by rw [emin]; omega),d5,by omega,by omega,le1000 (by show 1 * ((k - min k 30:Nat):Int).toNat<=1000; omega),fun r3 hr3=>?_⟩
  rw [Int.toNat_natCast,erep]
  have t6:=same_new hr3 (.lst ((List.replicate (k - min k 30) (8:Int)).map V.int))
  have d6:upd G5 r3 (.lst ((List.replicate (k - min k 30) (8:Int)).map V.int)) r3 = some (.lst ((List.replicate (k - min k 30) (8:Int)).map V.int)):=upd_same
  generalize upd G5 r3 (.lst ((List.replicate (k - min k 30) (8:Int)).map V.int)) = G6 at t6 d6 |-
  refine ⟨(by show 2<=sizeLine; decide),fun u3 hu3=>?_⟩
  have t7:=same_new hu3 (.tup [.str "row",.ref r3])
  have d7:upd G6 u3 (.tup [.str "row",.ref r3]) u3 = some (.tup [.str "row",.ref r3]):=upd_same
  generalize upd G6 u3 (.tup [.str "row",.ref r3]) = G7 at t7 d7 |-
  refine ⟨(by show 3<=sizeLine; decide),fun lc hlc=>?_⟩
  have t8:=same_new hlc (.lst [.ref u1,.ref u2,.ref u3])
  have d8:upd G7 lc (.lst [.ref u1,.ref u2,.ref u3]) lc = some (.lst [.ref u1,.ref u2,.ref u3]):=upd_same
  dsimp only [gName]
  generalize upd G7 lc (.lst [.ref u1,.ref u2,.ref u3]) = G8 at t8 d8 |-
  have t78:=t7.trans t8
  have t48:=t5.trans (t6.trans t78)
  have t28:=t3.trans (t4.trans t48)
  have t08:=t1.trans (t2.trans t28)
  have s910:=s10.trans t08
  have eT:laidT [Item.row (List.replicate (min k 30) (7:Int)),.book ps,.row (List.replicate (k - min k 30) (8:Int))] = List.replicate (min k 30) (7:Int) ++ ([] ++ (List.replicate (k - min k 30) (8:Int) ++ [])):=rfl
  have eP:laidP [Item.row (List.replicate (min k 30) (7:Int)),.book ps,.row (List.replicate (k - min k 30) (8:Int))] = [] ++ (ps ++ ([] ++ [])):=rfl
  have eTl:(laidT [Item.row (List.replicate (min k 30) (7:Int)),.book ps,.row (List.replicate (k - min k 30) (8:Int))]).length = k:=by
   rw [eT,List.length_append,List.length_replicate,List.nil_append,List.append_nil,List.length_replicate]
   omega
  have eN:namesOf [Item.row (List.replicate (min k 30) (7:Int)),.book ps,.row (List.replicate (k - min k 30) (8:Int))] = names:=by
   unfold namesOf
   rw [eP]
   simpa using eps
  have C8:CallOk K G8 lc [Item.row (List.replicate (min k 30) (7:Int)),.book ps,.row (List.replicate (k - min k 30) (8:Int))]:=by
   refine ⟨⟨_,SqL.of d8,?_⟩,by rw [eTl]; omega,by rw [eP]; simp; omega⟩
   exact .cons (.tup (SqT.of ((t4.trans t48) _ _ d3)) (.cons .str (.cons (.lst True.intro (t28 _ _ d2) (ints_says _)) .nil)))
    (.cons (.tup (SqT.of (t48 _ _ d4)) (.cons .str (.cons (.lst True.intro (s910 _ _ hD9) (pairs_same s910 hps9)) .nil)))
    (.cons (.tup (SqT.of (t8 _ _ d7)) (.cons .str (.cons (.lst True.intro (t78 _ _ d6) (ints_says _)) .nil))) .nil))
  refine ⟨_,rfl,_,rfl,fo,lc,rows,bars,_,rfl,hF9.same s910,C8,fun H11 s11=>?_⟩
  refine ⟨_,rfl,_,rfl,v,roomF rows bars names,k,rfl,RoomAt.same hv9 (s910.trans s11),?_⟩
  refine ⟨rfl,_,rfl,?_⟩
  refine iteNS ?_ ?_
  ·show V.bl (missF rows bars _ _).isEmpty = _
   rw [eTl,eN,room_fits V1]
  exact ⟨_,_,rfl,s910.trans s11⟩
 ·rintro σ H10 ⟨v6,v7,rfl,s10⟩
  exact q _ (s09.trans s10)
theorem scLaw:FnScope ["_law_script","_law_pool_here","_law_most","_law_told","_law_alike","_law_form_here","_law_cell_here"] ["_law_script"] (defScope sLaw):=⟨rfl,rfl,rfl,by decide +kernel,rfl,by decide +kernel,by decide +kernel⟩
theorem ok_law {f1 f2 f3 f4 f5 f6 f7:Addr} {e1 e2 e3 e4 e5 e6 e7:FuncData} (F:Fun K "law" "law" sLaw f fd) (cC:Callee P w K mg base 1 "_law_cell" f1 e1 ["_law_script","_law_at"] (spCell K)) (cPo:Callee P w K mg base 1 "_law_pool" f2 e2 ["_law_cell_here"] (spPool K)) (cFo:Callee P w K mg base 2 "_law_form" f3 e3 ["_law_script","_law_at","_law_pool_here","_law_most"] (spForm K)) (cD:Callee P w K mg base 1 "_law_doubled" f4 e4 ["_law_told"] spLDbl) (cMa:Callee P w K mg base 6 "_law_made" f5 e5 ["_law_told","_law_alike"] (spLMade c CF)) (cR:Callee P w K mg base 7 "_law_right" f6 e6 ["_law_form_here","_law_told","_law_names_here"] (spRight c CF)) (cN:Callee P w K mg base 4 "_law_names" f7 e7 ["_law_told","_law_pool_here","_law_cell_here"] spLNames) :
  FnOk P w K mg base CX0 8 f fd ["_law_script"] (spLawB K):=by
 refine F.ok scLaw (fun vs H Q E h=>?_) (fun cdv A outer s H vs Q E hr h=>?_)
 ·obtain ⟨a,ns,rfl,_⟩:=h
  rfl
 obtain ⟨sa,ns,rfl,hS,h63,hbit,q⟩:=h
 have hr1:Room 1 _:=hr.mono (by decide)
 have hr2:Room 2 _:=hr.mono (by decide)
 have hr4:Room 4 _:=hr.mono (by decide)
 have hr6:Room 6 _:=hr.mono (by decide)
 refine ⟨_,pss_cons (ps_set (i:=1) scLaw.nd rfl (Or.inl rfl) (cF cPo hr1 (ac (cF cC hr1 (ac (pv 0) (ac pe_int pa_nil))) pa_nil)))
  (pss_cons (ps_set (i:=2) scLaw.nd rfl (Or.inl rfl) pe_int)
  (pss_cons (ps_if (pt_cmpR op_eq (pe_op op_mod (cF cC hr1 (ac (pv 0) (ac pe_int pa_nil))) pe_int) pe_int (nomark _)) (pss_one (ps_set (i:=2) scLaw.nd rfl (Or.inl rfl) pe_int)) pss_nil)
  (pss_cons (ps_set (i:=3) scLaw.nd rfl (Or.inl rfl) (cF cFo hr2 (ac (pv 0) (ac pe_int (ac (pv 1) (ac (pv 2) pa_nil))))))
  (pss_cons (ps_set (i:=4) scLaw.nd rfl (Or.inl rfl) (pe_cmpR op_eq (pe_op op_mod (pe_op op_fdiv (cF cC hr1 (ac (pv 0) (ac pe_int pa_nil))) pe_int) pe_int) pe_int (nomark _)))
  (pss_cons (ps_if (pt_val (pv 4)) (pss_one (ps_set (i:=3) scLaw.nd rfl (Or.inl rfl) (cF cD hr1 (ac (pv 3) pa_nil)))) pss_nil)
  (pss_cons (ps_set (i:=5) scLaw.nd rfl (Or.inl rfl) (cF cMa hr6 (ac (pv 3) (ac (pv 4) pa_nil))))
  (pss_cons (ps_for PassesOwn.never rfl (pi_list (pe_op op_cat (pe_slice sl_list (pv 0) (po_some pe_int) (po_some pe_int)) (pe_lst (ac pe_int pa_nil)))) (pg_name (i:=6) scLaw.nd rfl (Or.inl rfl))
   (pss_one (ps_if (pt_not (pt_val (cF cR hr (ac (pv 5) (ac (pv 3) (ac (cF cN hr4 (ac (pv 3) (ac (pv 1) (ac (pv 6) pa_nil)))) pa_nil)))))) (pss_one (ps_ret pe_bl)) pss_nil)))
  (pss_one (ps_ret pe_bl))))))))),?_⟩
 refine ⟨_,rfl,sa,ns,3,rfl,hS,h63,fun c3 H1 s1 _=>?_⟩
 refine ⟨c3,rfl,fun pa H2 s2 np hpa=>?_⟩
 have s02:=s1.trans s2
 have hpa:H2 pa = some (.lst ((poolL c3).map V.str)):=hpa
 dsimp only [gName]
 refine seq_via (fun σ' H'=>σ' = [some (.ref sa),some (.ref pa),some (.int (12:Nat)),none,none,none,none]/\H' = H2) ?_ (fun key=>key _ _ ⟨rfl,rfl⟩)
 rintro σ0 H0 ⟨rfl,rfl⟩
 refine seq_via (fun σ' H'=>∃ most:Nat,σ' = [some (.ref sa),some (.ref pa),some (.int (most:Nat)),none,none,none,none]/\Same H0 H'/\3<=most/\most<=24) ?_ (fun key=>?_)
 rotate_left
 ·refine ⟨_,rfl,sa,ns,3,rfl,s02.seq hS,h63,fun c3' H3 s3 _=>?_⟩
  refine ⟨_,_,rfl,rfl,(by show (0:Int) < 8; decide),rfl,_,rfl,?_⟩
  refine ite2 (fun _=>?_) (fun _=>?_)
  ·exact key _ _ ⟨24,rfl,s3,by decide,by decide⟩
  ·exact key _ _ ⟨12,rfl,s3,by decide,by decide⟩
 rintro σ3 H3 ⟨most,rfl,s3,m3,m24⟩
 have s03:=s02.trans s3
 refine ⟨_,rfl,_,rfl,_,rfl,sa,pa,ns,0,most,c3,rfl,s03.seq hS,h63,m3,m24,s3 _ _ hpa,fun t1 la1 lb1 us1 rows1 bars1 H4 s4 ht1 hla1 hu1 hlb1 V1=>?_⟩
 have s04:=s03.trans s4
 have hpa4:=s4 _ _ (s3 _ _ hpa)
 refine ⟨_,rfl,sa,ns,3,rfl,s04.seq hS,h63,fun c4 H5 s5 _=>?_⟩
 refine ⟨_,_,rfl,rfl,⟨by decide,by decide⟩,_,_,rfl,rfl,(by show (0:Int) < 3; decide),rfl,?_⟩
 have s05:=s04.trans s5
 have hpa5:=s5 _ _ hpa4
 dsimp only [gName]
 generalize decide (V.int (c4 / 8 % 3) = V.int 1) = al
 refine seq_via (fun σ' H'=>∃ (t la lb:Addr) (us:List Addr) (rows:List Rw) (bars:List Str),σ' = [some (.ref sa),some (.ref pa),some (.int (most:Nat)),some (.ref t),some (.bl al),none,none]/\Same H5 H'/\H' t = some (.tup [.ref la,.ref lb])/\H' la = some (.lst (us.map V.ref))/\Paired (TAt H') us rows/\H' lb = some (.lst (bars.map V.str))/\Valid rows bars) ?_ (fun key=>?_)
 rotate_left
 ·refine ⟨_,rfl,_,rfl,?_⟩
  cases al with
  | false=>
   refine iteF ?_
   exact key _ _ ⟨t1,la1,lb1,us1,rows1,bars1,rfl,Same.refl _,s5 _ _ ht1,s5 _ _ hla1,tats_same s5 hu1,s5 _ _ hlb1,V1⟩
  | true=>
   refine iteT ?_
   refine ⟨_,rfl,t1,la1,lb1,us1,_,_,rfl,s5 _ _ ht1,s5 _ _ hla1,tats_same s5 hu1,s5 _ _ hlb1,V1,fun t' la' us' rows' H' s' e1 e2 e3 V'=>?_⟩
   exact key _ _ ⟨t',la',lb1,us',rows',bars1,rfl,s',e1,e2,e3,s' _ _ (s5 _ _ hlb1),V'⟩
 rintro σ6 H6 ⟨t,la,lb,us,rows,bars,rfl,s6,ht,hla,hu,hlb,V2⟩
 have s06:=s05.trans s6
 have hpa6:=s6 _ _ hpa5
 refine ⟨_,rfl,_,rfl,t,la,lb,al,us,rows,bars,rfl,ht,hla,hu,hlb,V2,fun fo H7 s7 F7=>?_⟩
 have s07:=s06.trans s7
 refine ⟨_,rfl,_,rfl,_,rfl,sa,_,rfl,s07.seq hS,fun p hp=>?_⟩
 obtain ⟨ms,ems,hms,lms⟩:∃ ms:List Int,cutV (ns.map V.int) (some 4) (some 9) = ms.map V.int/\(∀ m ∈ ms,m ∈ ns)/\ms.length<=63:=by
  unfold cutV
  refine ⟨(ns.drop _).take _,by rw [List.map_take,List.map_drop],fun m hm=>List.mem_of_mem_drop (List.mem_of_mem_take hm),?_⟩
  rw [List.length_take,List.length_drop]
  omega
 rw [ems]
 have s8:=same_new hp (.lst (ms.map V.int))
 have e8:upd H7 p (.lst (ms.map V.int)) p = some (.lst (ms.map V.int)):=upd_same
 generalize upd H7 p (.lst (ms.map V.int)) = H8 at s8 e8 |-
 refine ⟨(by show 1<=sizeLine; decide),fun l2 hl2=>?_⟩
 have s9:=same_new hl2 (.lst [.int 2])
 have e9:upd H8 l2 (.lst [.int 2]) l2 = some (.lst [.int 2]):=upd_same
 generalize upd H8 l2 (.lst [.int 2]) = H9 at s9 e9 |-
 refine ⟨p,l2,_,_,rfl,rfl,s9 _ _ e8,e9,le1000 (by rw [List.length_map]; show ms.length + 1<=1000; omega),fun l3 hl3=>?_⟩
 have s10:=same_new hl3 (.lst (ms.map V.int ++ [.int 2]))
 have e10:upd H9 l3 (.lst (ms.map V.int ++ [.int 2])) l3 = some (.lst ((ms ++ [2]).map V.int)):=by rw [upd_same,List.map_append]; rfl
 generalize upd H9 l3 (.lst (ms.map V.int ++ [.int 2])) = H10 at s10 e10 |-
 have s710:=s8.trans (s9.trans s10)
 have s610:=s7.trans s710
 refine ⟨l3,rfl,⟨_,SqL.of e10⟩,for_list (K:=K) (a:=l3) (xs:=(ms ++ [2]).map V.int) (fun j σ H'=>∃ v6:Option V,σ = [some (.ref sa),some (.ref pa),some (.int (most:Nat)),some (.ref t),some (.bl al),some (.ref fo),v6]/\Same H10 H') ⟨_,rfl,Same.refl _⟩ (fun j σ H' _ ⟨_,_,sH⟩=>SqL.of (sH _ _ e10)) ?_ ?_⟩
 ·rintro j x σ H11 hx ⟨v6,rfl,s11⟩
  obtain ⟨m,hm,rfl⟩:∃ m,(ms ++ [2])[j]? = some m/\x = V.int m:=by
   rw [List.getElem?_map] at hx
   cases e:(ms ++ [2])[j]? with
   | none=>rw [e] at hx; cases hx
   | some m=>rw [e] at hx; exact ⟨m,rfl,(Option.some.inj hx).symm⟩
  have hmb:Builtin.Int.intBits m<=1048576:=by
   rcases List.mem_append.mp (List.mem_of_getElem? hm) with h | h
   ·exact hbit m (hms m h)
   ·rw [List.mem_singleton.mp h]; decide
  have s611:=s610.trans s11
  refine ⟨_,rfl,_,rfl,_,rfl,_,rfl,_,rfl,t,la,lb,pa,m,us,rows,bars,poolL c3,rfl,s611 _ _ ht,s611 _ _ hla,tats_same s611 hu,s611 _ _ hlb,V2,s611 _ _ hpa6,poolL_len c3,hmb,fun ln zs H12 s12 hln lz=>?_⟩
  have s612:=s611.trans s12
  refine ⟨fo,t,la,lb,ln,us,rows,bars,zs,rfl,F7.same (s710.trans (s11.trans s12)),s612 _ _ ht,s612 _ _ hla,tats_same s612 hu,s612 _ _ hlb,V2,hln,lz,fun H13 s13=>⟨_,rfl,?_⟩⟩
  refine iteF ?_
  exact ⟨_,rfl,s11.trans (s12.trans s13)⟩
 ·rintro σ H11 ⟨v6,rfl,s11⟩
  exact q _
end
end K54
def PySem.W.Fast.tw11695894088352686959:Unit:=()
def PySem.W.Fast.tw3398244435130722017:Unit:=()
def PySem.W.Fast.tw9998223952456046652:Unit:=()
def PySem.W.Fast.tw3902103629196333306:Unit:=()
def PySem.W.Fast.tw1888608904427416302:Unit:=()
def PySem.W.Fast.tw1424030543585915821:Unit:=()
def PySem.W.Fast.tw13500220902434877425:Unit:=()
def PySem.W.Fast.tw17806143676583144016:Unit:=()
def PySem.W.Fast.tw15059388736281033314:Unit:=()
def PySem.W.Fast.tw11102226678541512919:Unit:=()
def PySem.W.Fast.tw18225689844794861679:Unit:=()
def PySem.W.Fast.tw4735793558328133044:Unit:=()
def PySem.W.Fast.tw17000262991938509796:Unit:=()
def PySem.W.Fast.tw8387007179931606921:Unit:=()
def PySem.W.Fast.tw4270318631559151672:Unit:=()
def PySem.W.Fast.tw26003091858730044:Unit:=()
def PySem.W.Fast.tw7646833513358548358:Unit:=()
def PySem.W.Fast.tw15956865321613727123:Unit:=()
def PySem.W.Fast.tw8436405790731704051:Unit:=()
def PySem.W.Fast.tw9218215931616151326:Unit:=()
def PySem.W.Fast.tw7569367246538089035:Unit:=()
def PySem.W.Fast.tw14117562934850434446:Unit:=()
def PySem.W.Fast.tw11137937538310185496:Unit:=()
def PySem.W.Fast.tw18043817992131665450:Unit:=()
def PySem.W.Fast.tw13472640803875340680:Unit:=()
def PySem.W.Fast.tw4312396112459103839:Unit:=()
def PySem.W.Fast.tw1411092701880822134:Unit:=()
def PySem.W.Fast.tw8450667832772601673:Unit:=()
def PySem.W.Fast.tw13447252188123277152:Unit:=()
def PySem.W.Fast.tw11577804056626590880:Unit:=()
def PySem.W.Fast.tw4024804985539629541:Unit:=()
def PySem.W.Fast.tw11547296059457507658:Unit:=()
def PySem.W.Fast.tw4463755185336121180:Unit:=()
def PySem.W.Fast.tw9460063493583080305:Unit:=()
def PySem.W.Fast.tw3075819125446855198:Unit:=()
def PySem.W.Fast.tw10156107197198737422:Unit:=()
def PySem.W.Fast.tw1690139867301638943:Unit:=()
def PySem.W.Fast.tw12909384946852268588:Unit:=()
def PySem.W.Fast.tw9782227111199091823:Unit:=()
def PySem.W.Fast.tw10942702967409552388:Unit:=()
def PySem.W.Fast.tw17857994332135099173:Unit:=()
def PySem.W.Fast.tw10991863140469663125:Unit:=()
def PySem.W.Fast.tw3063286231895701823:Unit:=()
def PySem.W.Fast.tw5399550921889365282:Unit:=()
def PySem.W.Fast.tw649154518958393844:Unit:=()
def PySem.W.Fast.tw7359115341988670877:Unit:=()
def PySem.W.Fast.tw12711761593047863235:Unit:=()
def PySem.W.Fast.tw15150992541137475783:Unit:=()
def PySem.W.Fast.tw14553820748039050422:Unit:=()
def PySem.W.Fast.tw6523748521231403933:Unit:=()
def PySem.W.Fast.tw614286502721624892:Unit:=()
def PySem.W.Fast.tw13877893890689859311:Unit:=()
def PySem.W.Fast.tw1548193645659399768:Unit:=()
def PySem.W.Fast.tw13434104011241125307:Unit:=()
def PySem.W.Fast.tw15900399154196805896:Unit:=()
namespace K54
open PySem L2 PyProof.Rows
theorem own_in {K:PySem.W.Frag} {h:Heap} {mg:Str->Option Value} {x:Str} {C:Addr} {bm:List Value} {nid:String} (X:K.In h) (G:h.Ns mainGlobals mg) (e:PySem.W.nsIn K mainGlobals x = some (some (.ref C))) (q:PySem.W.excIn K C bm nid = true):OwnCls x C bm nid mg h:=by
 have b:mg x = some (.ref C):=PySem.W.mg_of X G e
 refine ⟨b,?_⟩
 simp only [PySem.W.excIn] at q
 split at q
 case h_2=>cases q
 rename_i dd cd sl ho
 obtain ⟨nm,bs,mro,ns,qn,hd,sn,sub,ab,col,del⟩:=cd
 obtain ⟨l⟩:=sl
 dsimp only at q
 split at q
 case h_2=>cases q
 rename_i C' m k0 k1 k2 k3 n k5
 simp only [Bool.and_eq_true,beq_iff_eq,Bool.not_eq_true'] at q
 obtain ⟨⟨⟨⟨⟨rfl,rfl⟩,rfl⟩,ht⟩,hok⟩,hni⟩:=q
 exact ⟨m,ns,nm,qn,bs,hd,sn,sub,ab,col,dd,k0,k1,k2,k3,k5,_,X _ _ ho,.of_isNs (PySem.W.isNs_of_in X hok),PySem.W.nsMap_none_of_in X hok hni,PySem.W.tail_of_in X ht⟩
theorem ktab_of {w:World} {K:PySem.W.Frag} {Gr:Addr} {es:Array DictEntry} {n:Nat} {t0 t1 t2 t3 t4:Tok} (hl:K.lookup Gr = some ⟨.type "dict",none,.dict es n,#[]⟩) (hk:PySem.W.KeysLit w.params es.toList) (h0:PySem.W.nsIn K Gr "seat" = some (some (.int 0 t0))) (h1:PySem.W.nsIn K Gr "both" = some (some (.int 0 t1))) (h2:PySem.W.nsIn K Gr "tail" = some (some (.int 1 t2)))
  (h3:PySem.W.nsIn K Gr "tag" = some (some (.int 2 t3))) (h4:PySem.W.nsIn K Gr "bag" = some (some (.int 3 t4))):KTab w K Gr grpV:=by
 refine ⟨⟨es,n,hl,hk⟩,fun x v h=>?_⟩
 unfold grpV at h
 by_cases e0:x = "seat"
 ·subst e0; rw [List.lookup_cons_self] at h; cases h; exact ⟨_,h0,_,rfl⟩
 rw [List.lookup_cons,beq_eq_false_iff_ne.mpr e0] at h
 by_cases e1:x = "both"
 ·subst e1; rw [List.lookup_cons_self] at h; cases h; exact ⟨_,h1,_,rfl⟩
 rw [List.lookup_cons,beq_eq_false_iff_ne.mpr e1] at h
 by_cases e2:x = "tail"
 ·subst e2; rw [List.lookup_cons_self] at h; cases h; exact ⟨_,h2,_,rfl⟩
 rw [List.lookup_cons,beq_eq_false_iff_ne.mpr e2] at h
 by_cases e3:x = "tag"
 ·subst e3; rw [List.lookup_cons_self] at h; cases h; exact ⟨_,h3,_,rfl⟩
 rw [List.lookup_cons,beq_eq_false_iff_ne.mpr e3] at h
 by_cases e4:x = "bag"
 ·subst e4; rw [List.lookup_cons_self] at h; cases h; exact ⟨_,h4,_,rfl⟩
 rw [List.lookup_cons,beq_eq_false_iff_ne.mpr e4] at h
 cases h
theorem all_mk {l:PySem.W.OpenLaw} {w:World} {K:PySem.W.Frag} {h:Heap} {mg:Str->Option Value} {fa D C0 C1 C2 C3 C4 FM f1 f2 f3 f4 f5 f6 f7 f8 f9 f10 f11 f12 f13 f14 f15 f16 f17 f18 f19 f20 f21 f22 f23 f24 f25 f26 f27 f28 f29 f30 f31 f32 f33 f34 f35 f36 f37 f38 f39 f40 f41 f42 f43 f44 f45 f46 f47 f48 f49 f50 f51 f52 f53 f54 f55 f56 f57 T8 T9 T11 T13:Addr} (X:K.In h) (G:h.Ns mainGlobals mg) (hfa:mg "law" = some (.ref fa))
  {od1 an1 od2 an2 od3 an3 od4 an4 od5 an5 od6 an6 od7 an7 od8 an8 od9 an9 od10 an10 od11 an11 od12 an12 od13 an13 od14 an14 od15 an15 od16 an16 od17 an17 od18 an18 od19 an19 od20 an20 od21 an21 od22 an22 od23 an23 od24 an24 od25 an25 od26 an26 od27 an27 od28 an28 od29 an29 od30 an30 od31 an31 od32 an32 od33 an33 od34 an34 od35 an35 od36 an36 od37 an37 od38 an38 od39 an39 od40 an40 od41 an41 od42 an42 od43 an43 od44 an44 od45 an45 od46 an46 od47 an47 od48 an48 od49 an49 od50 an50 od51 an51 od52 an52 od53 an53 od54 an54 od55 an55 od56 an56 od57 an57 odT8 odT9 odT11 odT13:Option Addr} {sl1 sl2 sl3 sl4 sl5 sl6 sl7 sl8 sl9 sl10 sl11 sl12 sl13 sl14 sl15 sl16 sl17 sl18 sl19 sl20 sl21 sl22 sl23 sl24 sl25 sl26 sl27 sl28 sl29 sl30 sl31 sl32 sl33 sl34 sl35 sl36 sl37 sl38 sl39 sl40 sl41 sl42 sl43 sl44 sl45 sl46 sl47 sl48 sl49 sl50 sl51 sl52 sl53 sl54 sl55 sl56 sl57 slT8 slT9 slT11 slT13:Array (Option Value)} {oc1 kV1 dc1 pm1 cd1 ct1 oc2 kV2 dc2 pm2 cd2 ct2 oc3 kV3 dc3 pm3 cd3 ct3 oc4 kV4 dc4 pm4 cd4 ct4 oc5 kV5 dc5 pm5 cd5 ct5 oc6 kV6 dc6 pm6 cd6 ct6 oc7 kV7 dc7 pm7 cd7 ct7 oc8 kV8 dc8 pm8 cd8 ct8 oc9 kV9 dc9 pm9 cd9 ct9 oc10 kV10 dc10 pm10 cd10 ct10 oc11 kV11 dc11 pm11 cd11 ct11 oc12 kV12 dc12 pm12 cd12 ct12 oc13 kV13 dc13 pm13 cd13 ct13 oc14 kV14 dc14 pm14 cd14 ct14 oc15 kV15 dc15 pm15 cd15 ct15 oc16 kV16 dc16 pm16 cd16 ct16 oc17 kV17 dc17 pm17 cd17 ct17 oc18 kV18 dc18 pm18 cd18 ct18 oc19 kV19 dc19 pm19 cd19 ct19 oc20 kV20 dc20 pm20 cd20 ct20 oc21 kV21 dc21 pm21 cd21 ct21 oc22 kV22 dc22 pm22 cd22 ct22 oc23 kV23 dc23 pm23 cd23 ct23 oc24 kV24 dc24 pm24 cd24 ct24 oc25 kV25 dc25 pm25 cd25 ct25 oc26 kV26 dc26 pm26 cd26 ct26 oc27 kV27 dc27 pm27 cd27 ct27 oc28 kV28 dc28 pm28 cd28 ct28 oc29 kV29 dc29 pm29 cd29 ct29 oc30 kV30 dc30 pm30 cd30 ct30 oc31 kV31 dc31 pm31 cd31 ct31 oc32 kV32 dc32 pm32 cd32 ct32 oc33 kV33 dc33 pm33 cd33 ct33 oc34 kV34 dc34 pm34 cd34 ct34 oc35 kV35 dc35 pm35 cd35 ct35 oc36 kV36 dc36 pm36 cd36 ct36 oc37 kV37 dc37 pm37 cd37 ct37 oc38 kV38 dc38 pm38 cd38 ct38 oc39 kV39 dc39 pm39 cd39 ct39 oc40 kV40 dc40 pm40 cd40 ct40 oc41 kV41 dc41 pm41 cd41 ct41 oc42 kV42 dc42 pm42 cd42 ct42 oc43 kV43 dc43 pm43 cd43 ct43 oc44 kV44 dc44 pm44 cd44 ct44 oc45 kV45 dc45 pm45 cd45 ct45 oc46 kV46 dc46 pm46 cd46 ct46 oc47 kV47 dc47 pm47 cd47 ct47 oc48 kV48 dc48 pm48 cd48 ct48 oc49 kV49 dc49 pm49 cd49 ct49 oc50 kV50 dc50 pm50 cd50 ct50 oc51 kV51 dc51 pm51 cd51 ct51 oc52 kV52 dc52 pm52 cd52 ct52 oc53 kV53 dc53 pm53 cd53 ct53 oc54 kV54 dc54 pm54 cd54 ct54 oc55 kV55 dc55 pm55 cd55 ct55 oc56 kV56 dc56 pm56 cd56 ct56 oc57 kV57 dc57 pm57 cd57 ct57 ocT8 ocT9 ocT11 ocT13:Value}
  {nT8 nT9 nT11 nT13:Nat}
  {E0 tP tB tO sg Gr:Addr} {tL tN tMP tMB ktP0 ktP1 ktB0 ktB1 ktO0 ktO1 ktO2 ksg0 ksg1 kG0 kG1 kG2 kG3 kG4:Tok} {odtP odtB odtO odsg:Option Addr} {ntP ntB ntO nsg nG:Nat} {sltP sltB sltO slsg:Array (Option Value)} {esG:Array DictEntry}
  (aD:PySem.W.nsIn K mainGlobals "Parameter" = some (some (.ref D))) (pgD:PySem.W.plainGet K D Str.empty = true) (hdD:PySem.W.hasDictIn K D = true) (poD:PySem.W.plainOver K D = true) (saD:PySem.W.findIn K (.ref D) "__setattr__" = some (some (.builtin "object.__setattr__"))) (mkD:PySem.W.makesIn K D = true) (kcD:PySem.W.keepIn K (.ref D) = true)
  (aC0:PySem.W.nsIn K mainGlobals "Seat" = some (some (.ref C0))) (pgC0:PySem.W.plainGet K C0 Str.empty = true) (hdC0:PySem.W.hasDictIn K C0 = true) (poC0:PySem.W.plainOver K C0 = true) (saC0:PySem.W.findIn K (.ref C0) "__setattr__" = some (some (.builtin "object.__setattr__"))) (mkC0:PySem.W.makesIn K C0 = true) (kcC0:PySem.W.keepIn K (.ref C0) = true)
  (nC0_word:PySem.W.findIn K (.ref C0) "word" = some none)
  (nC0_name:PySem.W.findIn K (.ref C0) "name" = some none)
  (nC0_may_lack:PySem.W.findIn K (.ref C0) "may_lack" = some none)
  (aC1:PySem.W.nsIn K mainGlobals "Both" = some (some (.ref C1))) (pgC1:PySem.W.plainGet K C1 Str.empty = true) (hdC1:PySem.W.hasDictIn K C1 = true) (poC1:PySem.W.plainOver K C1 = true) (saC1:PySem.W.findIn K (.ref C1) "__setattr__" = some (some (.builtin "object.__setattr__"))) (mkC1:PySem.W.makesIn K C1 = true) (kcC1:PySem.W.keepIn K (.ref C1) = true)
  (nC1_word:PySem.W.findIn K (.ref C1) "word" = some none)
  (nC1_name:PySem.W.findIn K (.ref C1) "name" = some none)
  (nC1_may_lack:PySem.W.findIn K (.ref C1) "may_lack" = some none)
  (aC2:PySem.W.nsIn K mainGlobals "Tail" = some (some (.ref C2))) (pgC2:PySem.W.plainGet K C2 Str.empty = true) (hdC2:PySem.W.hasDictIn K C2 = true) (poC2:PySem.W.plainOver K C2 = true) (saC2:PySem.W.findIn K (.ref C2) "__setattr__" = some (some (.builtin "object.__setattr__"))) (mkC2:PySem.W.makesIn K C2 = true) (kcC2:PySem.W.keepIn K (.ref C2) = true)
  (nC2_word:PySem.W.findIn K (.ref C2) "word" = some none)
  (nC2_name:PySem.W.findIn K (.ref C2) "name" = some none)
  (nC2_may_lack:PySem.W.findIn K (.ref C2) "may_lack" = some none)
  (aC3:PySem.W.nsIn K mainGlobals "Tag" = some (some (.ref C3))) (pgC3:PySem.W.plainGet K C3 Str.empty = true) (hdC3:PySem.W.hasDictIn K C3 = true) (poC3:PySem.W.plainOver K C3 = true) (saC3:PySem.W.findIn K (.ref C3) "__setattr__" = some (some (.builtin "object.__setattr__"))) (mkC3:PySem.W.makesIn K C3 = true) (kcC3:PySem.W.keepIn K (.ref C3) = true)
  (nC3_word:PySem.W.findIn K (.ref C3) "word" = some none)
  (nC3_name:PySem.W.findIn K (.ref C3) "name" = some none)
  (nC3_may_lack:PySem.W.findIn K (.ref C3) "may_lack" = some none)
  (aC4:PySem.W.nsIn K mainGlobals "Bag" = some (some (.ref C4))) (pgC4:PySem.W.plainGet K C4 Str.empty = true) (hdC4:PySem.W.hasDictIn K C4 = true) (poC4:PySem.W.plainOver K C4 = true) (saC4:PySem.W.findIn K (.ref C4) "__setattr__" = some (some (.builtin "object.__setattr__"))) (mkC4:PySem.W.makesIn K C4 = true) (kcC4:PySem.W.keepIn K (.ref C4) = true)
  (nC4_word:PySem.W.findIn K (.ref C4) "word" = some none)
  (nC4_name:PySem.W.findIn K (.ref C4) "name" = some none)
  (nC4_may_lack:PySem.W.findIn K (.ref C4) "may_lack" = some none)
  (aFM:PySem.W.nsIn K mainGlobals "Form" = some (some (.ref FM))) (pgFM:PySem.W.plainGet K FM Str.empty = true) (hdFM:PySem.W.hasDictIn K FM = true) (poFM:PySem.W.plainOver K FM = true) (saFM:PySem.W.findIn K (.ref FM) "__setattr__" = some (some (.builtin "object.__setattr__"))) (mkFM:PySem.W.makesIn K FM = true) (kcFM:PySem.W.keepIn K (.ref FM) = true)
  (nFM_row:PySem.W.findIn K (.ref FM) "row" = some none)
  (nFM_bar_names:PySem.W.findIn K (.ref FM) "bar_names" = some none)
  (nFM_place_count:PySem.W.findIn K (.ref FM) "place_count" = some none)
  (nFM_tail_number:PySem.W.findIn K (.ref FM) "tail_number" = some none)
  (nFM_bag_number:PySem.W.findIn K (.ref FM) "bag_number" = some none)
  (nFM_doors:PySem.W.findIn K (.ref FM) "doors" = some none)
  (a1:PySem.W.nsIn K mainGlobals "is_name" = some (some (.ref f1)))
  (l1:K.lookup f1 = some ⟨oc1,od1,.func (PySem.W.fnOf "is_name" "is_name" (defArgs sIs) (defBody sIs) (defScope sIs) .none kV1 dc1 pm1 an1 cd1 ct1),sl1⟩) (c1:PySem.W.codeIn K cd1 "is_name" = true) (k1:PySem.W.keepIn K (.ref f1) = true)
  (a2:PySem.W.findIn K (.ref D) "__init__" = some (some (.ref f2))) (i2:PySem.W.isFn K (.ref f2) = true)
  (l2:K.lookup f2 = some ⟨oc2,od2,.func (PySem.W.fnOf "__init__" "Parameter.__init__" (defArgs sPInit) (defBody sPInit) (defScope sPInit) .none kV2 dc2 pm2 an2 cd2 ct2),sl2⟩) (c2:PySem.W.codeIn K cd2 "Parameter.__init__" = true) (k2:PySem.W.keepIn K (.ref f2) = true)
  (a3:PySem.W.findIn K (.ref D) "free" = some (some (.ref f3))) (i3:PySem.W.isFn K (.ref f3) = true)
  (l3:K.lookup f3 = some ⟨oc3,od3,.func (PySem.W.fnOf "free" "Parameter.free" (defArgs sFree) (defBody sFree) (defScope sFree) .none kV3 dc3 pm3 an3 cd3 ct3),sl3⟩) (c3:PySem.W.codeIn K cd3 "Parameter.free" = true) (k3:PySem.W.keepIn K (.ref f3) = true)
  (a4:PySem.W.findIn K (.ref D) "by_place" = some (some (.ref f4))) (i4:PySem.W.isFn K (.ref f4) = true)
  (l4:K.lookup f4 = some ⟨oc4,od4,.func (PySem.W.fnOf "by_place" "Parameter.by_place" (defArgs sByPlace) (defBody sByPlace) (defScope sByPlace) .none kV4 dc4 pm4 an4 cd4 ct4),sl4⟩) (c4:PySem.W.codeIn K cd4 "Parameter.by_place" = true) (k4:PySem.W.keepIn K (.ref f4) = true)
  (a5:PySem.W.findIn K (.ref D) "by_name" = some (some (.ref f5))) (i5:PySem.W.isFn K (.ref f5) = true)
  (l5:K.lookup f5 = some ⟨oc5,od5,.func (PySem.W.fnOf "by_name" "Parameter.by_name" (defArgs sByName) (defBody sByName) (defScope sByName) .none kV5 dc5 pm5 an5 cd5 ct5),sl5⟩) (c5:PySem.W.codeIn K cd5 "Parameter.by_name" = true) (k5:PySem.W.keepIn K (.ref f5) = true)
  (a6:PySem.W.findIn K (.ref D) "takes_one" = some (some (.ref f6))) (i6:PySem.W.isFn K (.ref f6) = true)
  (l6:K.lookup f6 = some ⟨oc6,od6,.func (PySem.W.fnOf "takes_one" "Parameter.takes_one" (defArgs sTakes) (defBody sTakes) (defScope sTakes) .none kV6 dc6 pm6 an6 cd6 ct6),sl6⟩) (c6:PySem.W.codeIn K cd6 "Parameter.takes_one" = true) (k6:PySem.W.keepIn K (.ref f6) = true)
  (a7:PySem.W.findIn K (.ref D) "told" = some (some (.ref f7))) (i7:PySem.W.isFn K (.ref f7) = true)
  (l7:K.lookup f7 = some ⟨oc7,od7,.func (PySem.W.fnOf "told" "Parameter.told" (defArgs sTold) (defBody sTold) (defScope sTold) .none kV7 dc7 pm7 an7 cd7 ct7),sl7⟩) (c7:PySem.W.codeIn K cd7 "Parameter.told" = true) (k7:PySem.W.keepIn K (.ref f7) = true)
  (a8:PySem.W.findIn K (.ref C0) "__init__" = some (some (.ref f8))) (i8:PySem.W.isFn K (.ref f8) = true)
  (l8:K.lookup f8 = some ⟨oc8,od8,.func (PySem.W.fnOf "__init__" "Seat.__init__" (defArgs sSeat) (defBody sSeat) (defScope sSeat) (.ref T8) kV8 dc8 pm8 an8 cd8 ct8),sl8⟩) (c8:PySem.W.codeIn K cd8 "Seat.__init__" = true) (k8:PySem.W.keepIn K (.ref f8) = true)
  (t8:K.lookup T8 = some ⟨ocT8,odT8,.seq #[Value.bool false] nT8,slT8⟩)
  (a9:PySem.W.findIn K (.ref C1) "__init__" = some (some (.ref f9))) (i9:PySem.W.isFn K (.ref f9) = true)
  (l9:K.lookup f9 = some ⟨oc9,od9,.func (PySem.W.fnOf "__init__" "Both.__init__" (defArgs sBoth) (defBody sBoth) (defScope sBoth) (.ref T9) kV9 dc9 pm9 an9 cd9 ct9),sl9⟩) (c9:PySem.W.codeIn K cd9 "Both.__init__" = true) (k9:PySem.W.keepIn K (.ref f9) = true)
  (t9:K.lookup T9 = some ⟨ocT9,odT9,.seq #[Value.bool false] nT9,slT9⟩)
  (a10:PySem.W.findIn K (.ref C2) "__init__" = some (some (.ref f10))) (i10:PySem.W.isFn K (.ref f10) = true)
  (l10:K.lookup f10 = some ⟨oc10,od10,.func (PySem.W.fnOf "__init__" "Tail.__init__" (defArgs sTail) (defBody sTail) (defScope sTail) .none kV10 dc10 pm10 an10 cd10 ct10),sl10⟩) (c10:PySem.W.codeIn K cd10 "Tail.__init__" = true) (k10:PySem.W.keepIn K (.ref f10) = true)
  (a11:PySem.W.findIn K (.ref C3) "__init__" = some (some (.ref f11))) (i11:PySem.W.isFn K (.ref f11) = true)
  (l11:K.lookup f11 = some ⟨oc11,od11,.func (PySem.W.fnOf "__init__" "Tag.__init__" (defArgs sTag) (defBody sTag) (defScope sTag) (.ref T11) kV11 dc11 pm11 an11 cd11 ct11),sl11⟩) (c11:PySem.W.codeIn K cd11 "Tag.__init__" = true) (k11:PySem.W.keepIn K (.ref f11) = true)
  (t11:K.lookup T11 = some ⟨ocT11,odT11,.seq #[Value.bool false] nT11,slT11⟩)
  (a12:PySem.W.findIn K (.ref C4) "__init__" = some (some (.ref f12))) (i12:PySem.W.isFn K (.ref f12) = true)
  (l12:K.lookup f12 = some ⟨oc12,od12,.func (PySem.W.fnOf "__init__" "Bag.__init__" (defArgs sBag) (defBody sBag) (defScope sBag) .none kV12 dc12 pm12 an12 cd12 ct12),sl12⟩) (c12:PySem.W.codeIn K cd12 "Bag.__init__" = true) (k12:PySem.W.keepIn K (.ref f12) = true)
  (a13:PySem.W.findIn K (.ref FM) "__init__" = some (some (.ref f13))) (i13:PySem.W.isFn K (.ref f13) = true)
  (l13:K.lookup f13 = some ⟨oc13,od13,.func (PySem.W.fnOf "__init__" "Form.__init__" (defArgs sFInit) (defBody sFInit) (defScope sFInit) (.ref T13) kV13 dc13 pm13 an13 cd13 ct13),sl13⟩) (c13:PySem.W.codeIn K cd13 "Form.__init__" = true) (k13:PySem.W.keepIn K (.ref f13) = true)
  (t13:K.lookup T13 = some ⟨ocT13,odT13,.seq #[Value.none] nT13,slT13⟩)
  (a14:PySem.W.findIn K (.ref FM) "keep" = some (some (.ref f14))) (i14:PySem.W.isFn K (.ref f14) = true)
  (l14:K.lookup f14 = some ⟨oc14,od14,.func (PySem.W.fnOf "keep" "Form.keep" (defArgs sKeep) (defBody sKeep) (defScope sKeep) .none kV14 dc14 pm14 an14 cd14 ct14),sl14⟩) (c14:PySem.W.codeIn K cd14 "Form.keep" = true) (k14:PySem.W.keepIn K (.ref f14) = true)
  (a15:PySem.W.findIn K (.ref FM) "parameters" = some (some (.ref f15))) (i15:PySem.W.isFn K (.ref f15) = true)
  (l15:K.lookup f15 = some ⟨oc15,od15,.func (PySem.W.fnOf "parameters" "Form.parameters" (defArgs sFPars) (defBody sFPars) (defScope sFPars) .none kV15 dc15 pm15 an15 cd15 ct15),sl15⟩) (c15:PySem.W.codeIn K cd15 "Form.parameters" = true) (k15:PySem.W.keepIn K (.ref f15) = true)
  (a16:PySem.W.findIn K (.ref FM) "bars" = some (some (.ref f16))) (i16:PySem.W.isFn K (.ref f16) = true)
  (l16:K.lookup f16 = some ⟨oc16,od16,.func (PySem.W.fnOf "bars" "Form.bars" (defArgs sFBars) (defBody sFBars) (defScope sFBars) .none kV16 dc16 pm16 an16 cd16 ct16),sl16⟩) (c16:PySem.W.codeIn K cd16 "Form.bars" = true) (k16:PySem.W.keepIn K (.ref f16) = true)
  (a17:PySem.W.findIn K (.ref FM) "places" = some (some (.ref f17))) (i17:PySem.W.isFn K (.ref f17) = true)
  (l17:K.lookup f17 = some ⟨oc17,od17,.func (PySem.W.fnOf "places" "Form.places" (defArgs sFPlaces) (defBody sFPlaces) (defScope sFPlaces) .none kV17 dc17 pm17 an17 cd17 ct17),sl17⟩) (c17:PySem.W.codeIn K cd17 "Form.places" = true) (k17:PySem.W.keepIn K (.ref f17) = true)
  (a18:PySem.W.findIn K (.ref FM) "tail" = some (some (.ref f18))) (i18:PySem.W.isFn K (.ref f18) = true)
  (l18:K.lookup f18 = some ⟨oc18,od18,.func (PySem.W.fnOf "tail" "Form.tail" (defArgs sFTail) (defBody sFTail) (defScope sFTail) .none kV18 dc18 pm18 an18 cd18 ct18),sl18⟩) (c18:PySem.W.codeIn K cd18 "Form.tail" = true) (k18:PySem.W.keepIn K (.ref f18) = true)
  (a19:PySem.W.findIn K (.ref FM) "bag" = some (some (.ref f19))) (i19:PySem.W.isFn K (.ref f19) = true)
  (l19:K.lookup f19 = some ⟨oc19,od19,.func (PySem.W.fnOf "bag" "Form.bag" (defArgs sFBag) (defBody sFBag) (defScope sFBag) .none kV19 dc19 pm19 an19 cd19 ct19),sl19⟩) (c19:PySem.W.codeIn K cd19 "Form.bag" = true) (k19:PySem.W.keepIn K (.ref f19) = true)
  (a20:PySem.W.findIn K (.ref FM) "number_of" = some (some (.ref f20))) (i20:PySem.W.isFn K (.ref f20) = true)
  (l20:K.lookup f20 = some ⟨oc20,od20,.func (PySem.W.fnOf "number_of" "Form.number_of" (defArgs sFNum) (defBody sFNum) (defScope sFNum) .none kV20 dc20 pm20 an20 cd20 ct20),sl20⟩) (c20:PySem.W.codeIn K cd20 "Form.number_of" = true) (k20:PySem.W.keepIn K (.ref f20) = true)
  (a21:PySem.W.nsIn K mainGlobals "parameter_of" = some (some (.ref f21)))
  (l21:K.lookup f21 = some ⟨oc21,od21,.func (PySem.W.fnOf "parameter_of" "parameter_of" (defArgs sPof) (defBody sPof) (defScope sPof) .none kV21 dc21 pm21 an21 cd21 ct21),sl21⟩) (c21:PySem.W.codeIn K cd21 "parameter_of" = true) (k21:PySem.W.keepIn K (.ref f21) = true)
  (a22:PySem.W.nsIn K mainGlobals "refuse_too_many" = some (some (.ref f22)))
  (l22:K.lookup f22 = some ⟨oc22,od22,.func (PySem.W.fnOf "refuse_too_many" "refuse_too_many" (defArgs sRMany) (defBody sRMany) (defScope sRMany) .none kV22 dc22 pm22 an22 cd22 ct22),sl22⟩) (c22:PySem.W.codeIn K cd22 "refuse_too_many" = true) (k22:PySem.W.keepIn K (.ref f22) = true)
  (a23:PySem.W.nsIn K mainGlobals "refuse_bad_order" = some (some (.ref f23)))
  (l23:K.lookup f23 = some ⟨oc23,od23,.func (PySem.W.fnOf "refuse_bad_order" "refuse_bad_order" (defArgs sROrder) (defBody sROrder) (defScope sROrder) .none kV23 dc23 pm23 an23 cd23 ct23),sl23⟩) (c23:PySem.W.codeIn K cd23 "refuse_bad_order" = true) (k23:PySem.W.keepIn K (.ref f23) = true)
  (a24:PySem.W.nsIn K mainGlobals "refuse_bars_without_name" = some (some (.ref f24)))
  (l24:K.lookup f24 = some ⟨oc24,od24,.func (PySem.W.fnOf "refuse_bars_without_name" "refuse_bars_without_name" (defArgs sRBars) (defBody sRBars) (defScope sRBars) .none kV24 dc24 pm24 an24 cd24 ct24),sl24⟩) (c24:PySem.W.codeIn K cd24 "refuse_bars_without_name" = true) (k24:PySem.W.keepIn K (.ref f24) = true)
  (a25:PySem.W.nsIn K mainGlobals "refuse_twice" = some (some (.ref f25)))
  (l25:K.lookup f25 = some ⟨oc25,od25,.func (PySem.W.fnOf "refuse_twice" "refuse_twice" (defArgs sRTwice) (defBody sRTwice) (defScope sRTwice) .none kV25 dc25 pm25 an25 cd25 ct25),sl25⟩) (c25:PySem.W.codeIn K cd25 "refuse_twice" = true) (k25:PySem.W.keepIn K (.ref f25) = true)
  (a26:PySem.W.nsIn K mainGlobals "number_of_word" = some (some (.ref f26)))
  (l26:K.lookup f26 = some ⟨oc26,od26,.func (PySem.W.fnOf "number_of_word" "number_of_word" (defArgs sNumW) (defBody sNumW) (defScope sNumW) .none kV26 dc26 pm26 an26 cd26 ct26),sl26⟩) (c26:PySem.W.codeIn K cd26 "number_of_word" = true) (k26:PySem.W.keepIn K (.ref f26) = true)
  (a27:PySem.W.nsIn K mainGlobals "laid" = some (some (.ref f27)))
  (l27:K.lookup f27 = some ⟨oc27,od27,.func (PySem.W.fnOf "laid" "laid" (defArgs sLaid) (defBody sLaid) (defScope sLaid) .none kV27 dc27 pm27 an27 cd27 ct27),sl27⟩) (c27:PySem.W.codeIn K cd27 "laid" = true) (k27:PySem.W.keepIn K (.ref f27) = true)
  (a28:PySem.W.nsIn K mainGlobals "misfits" = some (some (.ref f28)))
  (l28:K.lookup f28 = some ⟨oc28,od28,.func (PySem.W.fnOf "misfits" "misfits" (defArgs sMisfits) (defBody sMisfits) (defScope sMisfits) .none kV28 dc28 pm28 an28 cd28 ct28),sl28⟩) (c28:PySem.W.codeIn K cd28 "misfits" = true) (k28:PySem.W.keepIn K (.ref f28) = true)
  (a29:PySem.W.nsIn K mainGlobals "fits" = some (some (.ref f29)))
  (l29:K.lookup f29 = some ⟨oc29,od29,.func (PySem.W.fnOf "fits" "fits" (defArgs sFits) (defBody sFits) (defScope sFits) .none kV29 dc29 pm29 an29 cd29 ct29),sl29⟩) (c29:PySem.W.codeIn K cd29 "fits" = true) (k29:PySem.W.keepIn K (.ref f29) = true)
  (a30:PySem.W.nsIn K mainGlobals "shape" = some (some (.ref f30)))
  (l30:K.lookup f30 = some ⟨oc30,od30,.func (PySem.W.fnOf "shape" "shape" (defArgs sShape) (defBody sShape) (defScope sShape) .none kV30 dc30 pm30 an30 cd30 ct30),sl30⟩) (c30:PySem.W.codeIn K cd30 "shape" = true) (k30:PySem.W.keepIn K (.ref f30) = true)
  (a31:PySem.W.nsIn K mainGlobals "first_numbers" = some (some (.ref f31)))
  (l31:K.lookup f31 = some ⟨oc31,od31,.func (PySem.W.fnOf "first_numbers" "first_numbers" (defArgs sFirsts) (defBody sFirsts) (defScope sFirsts) .none kV31 dc31 pm31 an31 cd31 ct31),sl31⟩) (c31:PySem.W.codeIn K cd31 "first_numbers" = true) (k31:PySem.W.keepIn K (.ref f31) = true)
  (a32:PySem.W.nsIn K mainGlobals "misfits_of" = some (some (.ref f32)))
  (l32:K.lookup f32 = some ⟨oc32,od32,.func (PySem.W.fnOf "misfits_of" "misfits_of" (defArgs sMOf) (defBody sMOf) (defScope sMOf) .none kV32 dc32 pm32 an32 cd32 ct32),sl32⟩) (c32:PySem.W.codeIn K cd32 "misfits_of" = true) (k32:PySem.W.keepIn K (.ref f32) = true)
  (a33:PySem.W.nsIn K mainGlobals "overs" = some (some (.ref f33)))
  (l33:K.lookup f33 = some ⟨oc33,od33,.func (PySem.W.fnOf "overs" "overs" (defArgs sOvers) (defBody sOvers) (defScope sOvers) .none kV33 dc33 pm33 an33 cd33 ct33),sl33⟩) (c33:PySem.W.codeIn K cd33 "overs" = true) (k33:PySem.W.keepIn K (.ref f33) = true)
  (a34:PySem.W.nsIn K mainGlobals "unwelcomes" = some (some (.ref f34)))
  (l34:K.lookup f34 = some ⟨oc34,od34,.func (PySem.W.fnOf "unwelcomes" "unwelcomes" (defArgs sUnw) (defBody sUnw) (defScope sUnw) .none kV34 dc34 pm34 an34 cd34 ct34),sl34⟩) (c34:PySem.W.codeIn K cd34 "unwelcomes" = true) (k34:PySem.W.keepIn K (.ref f34) = true)
  (a35:PySem.W.nsIn K mainGlobals "lackings" = some (some (.ref f35)))
  (l35:K.lookup f35 = some ⟨oc35,od35,.func (PySem.W.fnOf "lackings" "lackings" (defArgs sLack) (defBody sLack) (defScope sLack) .none kV35 dc35 pm35 an35 cd35 ct35),sl35⟩) (c35:PySem.W.codeIn K cd35 "lackings" = true) (k35:PySem.W.keepIn K (.ref f35) = true)
  (a36:PySem.W.nsIn K mainGlobals "one_entry" = some (some (.ref f36)))
  (l36:K.lookup f36 = some ⟨oc36,od36,.func (PySem.W.fnOf "one_entry" "one_entry" (defArgs sOneE) (defBody sOneE) (defScope sOneE) .none kV36 dc36 pm36 an36 cd36 ct36),sl36⟩) (c36:PySem.W.codeIn K cd36 "one_entry" = true) (k36:PySem.W.keepIn K (.ref f36) = true)
  (a37:PySem.W.nsIn K mainGlobals "fewest_by_place" = some (some (.ref f37)))
  (l37:K.lookup f37 = some ⟨oc37,od37,.func (PySem.W.fnOf "fewest_by_place" "fewest_by_place" (defArgs sFewest) (defBody sFewest) (defScope sFewest) .none kV37 dc37 pm37 an37 cd37 ct37),sl37⟩) (c37:PySem.W.codeIn K cd37 "fewest_by_place" = true) (k37:PySem.W.keepIn K (.ref f37) = true)
  (a38:PySem.W.nsIn K mainGlobals "first_both" = some (some (.ref f38)))
  (l38:K.lookup f38 = some ⟨oc38,od38,.func (PySem.W.fnOf "first_both" "first_both" (defArgs sFBoth) (defBody sFBoth) (defScope sFBoth) .none kV38 dc38 pm38 an38 cd38 ct38),sl38⟩) (c38:PySem.W.codeIn K cd38 "first_both" = true) (k38:PySem.W.keepIn K (.ref f38) = true)
  (a39:PySem.W.nsIn K mainGlobals "room" = some (some (.ref f39)))
  (l39:K.lookup f39 = some ⟨oc39,od39,.func (PySem.W.fnOf "room" "room" (defArgs sRoom) (defBody sRoom) (defScope sRoom) .none kV39 dc39 pm39 an39 cd39 ct39),sl39⟩) (c39:PySem.W.codeIn K cd39 "room" = true) (k39:PySem.W.keepIn K (.ref f39) = true)
  (a40:PySem.W.nsIn K mainGlobals "names_never_fit" = some (some (.ref f40)))
  (l40:K.lookup f40 = some ⟨oc40,od40,.func (PySem.W.fnOf "names_never_fit" "names_never_fit" (defArgs sNever) (defBody sNever) (defScope sNever) .none kV40 dc40 pm40 an40 cd40 ct40),sl40⟩) (c40:PySem.W.codeIn K cd40 "names_never_fit" = true) (k40:PySem.W.keepIn K (.ref f40) = true)
  (a41:PySem.W.nsIn K mainGlobals "most_by_place" = some (some (.ref f41)))
  (l41:K.lookup f41 = some ⟨oc41,od41,.func (PySem.W.fnOf "most_by_place" "most_by_place" (defArgs sMost) (defBody sMost) (defScope sMost) .none kV41 dc41 pm41 an41 cd41 ct41),sl41⟩) (c41:PySem.W.codeIn K cd41 "most_by_place" = true) (k41:PySem.W.keepIn K (.ref f41) = true)
  (a42:PySem.W.nsIn K mainGlobals "_law_cell" = some (some (.ref f42)))
  (l42:K.lookup f42 = some ⟨oc42,od42,.func (PySem.W.fnOf "_law_cell" "_law_cell" (defArgs sCell) (defBody sCell) (defScope sCell) .none kV42 dc42 pm42 an42 cd42 ct42),sl42⟩) (c42:PySem.W.codeIn K cd42 "_law_cell" = true) (k42:PySem.W.keepIn K (.ref f42) = true)
  (a43:PySem.W.nsIn K mainGlobals "_law_is_int" = some (some (.ref f43)))
  (l43:K.lookup f43 = some ⟨oc43,od43,.func (PySem.W.fnOf "_law_is_int" "_law_is_int" (defArgs sIsInt) (defBody sIsInt) (defScope sIsInt) .none kV43 dc43 pm43 an43 cd43 ct43),sl43⟩) (c43:PySem.W.codeIn K cd43 "_law_is_int" = true) (k43:PySem.W.keepIn K (.ref f43) = true)
  (a44:PySem.W.nsIn K mainGlobals "_law_mix" = some (some (.ref f44)))
  (l44:K.lookup f44 = some ⟨oc44,od44,.func (PySem.W.fnOf "_law_mix" "_law_mix" (defArgs sMix) (defBody sMix) (defScope sMix) .none kV44 dc44 pm44 an44 cd44 ct44),sl44⟩) (c44:PySem.W.codeIn K cd44 "_law_mix" = true) (k44:PySem.W.keepIn K (.ref f44) = true)
  (a45:PySem.W.nsIn K mainGlobals "_law_pool" = some (some (.ref f45)))
  (l45:K.lookup f45 = some ⟨oc45,od45,.func (PySem.W.fnOf "_law_pool" "_law_pool" (defArgs sPool) (defBody sPool) (defScope sPool) .none kV45 dc45 pm45 an45 cd45 ct45),sl45⟩) (c45:PySem.W.codeIn K cd45 "_law_pool" = true) (k45:PySem.W.keepIn K (.ref f45) = true)
  (a46:PySem.W.nsIn K mainGlobals "_law_form" = some (some (.ref f46)))
  (l46:K.lookup f46 = some ⟨oc46,od46,.func (PySem.W.fnOf "_law_form" "_law_form" (defArgs sForm) (defBody sForm) (defScope sForm) .none kV46 dc46 pm46 an46 cd46 ct46),sl46⟩) (c46:PySem.W.codeIn K cd46 "_law_form" = true) (k46:PySem.W.keepIn K (.ref f46) = true)
  (a47:PySem.W.nsIn K mainGlobals "_law_doubled" = some (some (.ref f47)))
  (l47:K.lookup f47 = some ⟨oc47,od47,.func (PySem.W.fnOf "_law_doubled" "_law_doubled" (defArgs sLDbl) (defBody sLDbl) (defScope sLDbl) .none kV47 dc47 pm47 an47 cd47 ct47),sl47⟩) (c47:PySem.W.codeIn K cd47 "_law_doubled" = true) (k47:PySem.W.keepIn K (.ref f47) = true)
  (a48:PySem.W.nsIn K mainGlobals "_law_made" = some (some (.ref f48)))
  (l48:K.lookup f48 = some ⟨oc48,od48,.func (PySem.W.fnOf "_law_made" "_law_made" (defArgs sLMade) (defBody sLMade) (defScope sLMade) .none kV48 dc48 pm48 an48 cd48 ct48),sl48⟩) (c48:PySem.W.codeIn K cd48 "_law_made" = true) (k48:PySem.W.keepIn K (.ref f48) = true)
  (a49:PySem.W.nsIn K mainGlobals "_law_thing" = some (some (.ref f49)))
  (l49:K.lookup f49 = some ⟨oc49,od49,.func (PySem.W.fnOf "_law_thing" "_law_thing" (defArgs sThing) (defBody sThing) (defScope sThing) .none kV49 dc49 pm49 an49 cd49 ct49),sl49⟩) (c49:PySem.W.codeIn K cd49 "_law_thing" = true) (k49:PySem.W.keepIn K (.ref f49) = true)
  (a50:PySem.W.nsIn K mainGlobals "_law_told_names" = some (some (.ref f50)))
  (l50:K.lookup f50 = some ⟨oc50,od50,.func (PySem.W.fnOf "_law_told_names" "_law_told_names" (defArgs sToldN) (defBody sToldN) (defScope sToldN) .none kV50 dc50 pm50 an50 cd50 ct50),sl50⟩) (c50:PySem.W.codeIn K cd50 "_law_told_names" = true) (k50:PySem.W.keepIn K (.ref f50) = true)
  (a51:PySem.W.nsIn K mainGlobals "_law_fitting" = some (some (.ref f51)))
  (l51:K.lookup f51 = some ⟨oc51,od51,.func (PySem.W.fnOf "_law_fitting" "_law_fitting" (defArgs sFitting) (defBody sFitting) (defScope sFitting) .none kV51 dc51 pm51 an51 cd51 ct51),sl51⟩) (c51:PySem.W.codeIn K cd51 "_law_fitting" = true) (k51:PySem.W.keepIn K (.ref f51) = true)
  (a52:PySem.W.nsIn K mainGlobals "_law_names" = some (some (.ref f52)))
  (l52:K.lookup f52 = some ⟨oc52,od52,.func (PySem.W.fnOf "_law_names" "_law_names" (defArgs sLNames) (defBody sLNames) (defScope sLNames) .none kV52 dc52 pm52 an52 cd52 ct52),sl52⟩) (c52:PySem.W.codeIn K cd52 "_law_names" = true) (k52:PySem.W.keepIn K (.ref f52) = true)
  (a53:PySem.W.nsIn K mainGlobals "_law_is_room" = some (some (.ref f53)))
  (l53:K.lookup f53 = some ⟨oc53,od53,.func (PySem.W.fnOf "_law_is_room" "_law_is_room" (defArgs sIsRoom) (defBody sIsRoom) (defScope sIsRoom) .none kV53 dc53 pm53 an53 cd53 ct53),sl53⟩) (c53:PySem.W.codeIn K cd53 "_law_is_room" = true) (k53:PySem.W.keepIn K (.ref f53) = true)
  (a54:PySem.W.nsIn K mainGlobals "_law_within" = some (some (.ref f54)))
  (l54:K.lookup f54 = some ⟨oc54,od54,.func (PySem.W.fnOf "_law_within" "_law_within" (defArgs sWithin) (defBody sWithin) (defScope sWithin) .none kV54 dc54 pm54 an54 cd54 ct54),sl54⟩) (c54:PySem.W.codeIn K cd54 "_law_within" = true) (k54:PySem.W.keepIn K (.ref f54) = true)
  (a55:PySem.W.nsIn K mainGlobals "_law_endless" = some (some (.ref f55)))
  (l55:K.lookup f55 = some ⟨oc55,od55,.func (PySem.W.fnOf "_law_endless" "_law_endless" (defArgs sEndless) (defBody sEndless) (defScope sEndless) .none kV55 dc55 pm55 an55 cd55 ct55),sl55⟩) (c55:PySem.W.codeIn K cd55 "_law_endless" = true) (k55:PySem.W.keepIn K (.ref f55) = true)
  (a56:PySem.W.nsIn K mainGlobals "_law_right" = some (some (.ref f56)))
  (l56:K.lookup f56 = some ⟨oc56,od56,.func (PySem.W.fnOf "_law_right" "_law_right" (defArgs sRight) (defBody sRight) (defScope sRight) .none kV56 dc56 pm56 an56 cd56 ct56),sl56⟩) (c56:PySem.W.codeIn K cd56 "_law_right" = true) (k56:PySem.W.keepIn K (.ref f56) = true)
  (a57:PySem.W.nsIn K mainGlobals "law" = some (some (.ref f57)))
  (l57:K.lookup f57 = some ⟨oc57,od57,.func (PySem.W.fnOf "law" "law" (defArgs sLaw) (defBody sLaw) (defScope sLaw) .none kV57 dc57 pm57 an57 cd57 ct57),sl57⟩) (c57:PySem.W.codeIn K cd57 "law" = true) (k57:PySem.W.keepIn K (.ref f57) = true)
  (zisinstance:PySem.W.nsIn K mainGlobals "isinstance" = some none)
  (zstr:PySem.W.nsIn K mainGlobals "str" = some none)
  (zbool:PySem.W.nsIn K mainGlobals "bool" = some none)
  (zlen:PySem.W.nsIn K mainGlobals "len" = some none)
  (zall:PySem.W.nsIn K mainGlobals "all" = some none)
  (zrange:PySem.W.nsIn K mainGlobals "range" = some none)
  (zlist:PySem.W.nsIn K mainGlobals "list" = some none)
  (zenumerate:PySem.W.nsIn K mainGlobals "enumerate" = some none)
  (zset:PySem.W.nsIn K mainGlobals "set" = some none)
  (zmin:PySem.W.nsIn K mainGlobals "min" = some none)
  (zmax:PySem.W.nsIn K mainGlobals "max" = some none)
  (zint:PySem.W.nsIn K mainGlobals "int" = some none)
  (ztuple:PySem.W.nsIn K mainGlobals "tuple" = some none)
  (zdict:PySem.W.nsIn K mainGlobals "dict" = some none)
  (zany:PySem.W.nsIn K mainGlobals "any" = some none)
  (zreversed:PySem.W.nsIn K mainGlobals "reversed" = some none)
  (gL:PySem.W.nsIn K mainGlobals "LETTERS" = some (some (.str letters tL)))
  (gN:PySem.W.nsIn K mainGlobals "LONGEST" = some (some (.int 8 tN)))
  (gMP:PySem.W.nsIn K mainGlobals "MOST_PARAMETERS" = some (some (.int 24 tMP)))
  (gMB:PySem.W.nsIn K mainGlobals "MOST_BARS" = some (some (.int 60 tMB)))
  (ytP:PySem.W.nsIn K mainGlobals "BY_PLACE" = some (some (.ref tP)))
  (utP:K.lookup tP = some ⟨.type "tuple",odtP,.seq #[.str "seat" ktP0,.str "both" ktP1] ntP,sltP⟩)
  (ytB:PySem.W.nsIn K mainGlobals "BY_NAME" = some (some (.ref tB)))
  (utB:K.lookup tB = some ⟨.type "tuple",odtB,.seq #[.str "both" ktB0,.str "tag" ktB1] ntB,sltB⟩)
  (ytO:PySem.W.nsIn K mainGlobals "OF_ONE_THING" = some (some (.ref tO)))
  (utO:K.lookup tO = some ⟨.type "tuple",odtO,.seq #[.str "seat" ktO0,.str "both" ktO1,.str "tag" ktO2] ntO,sltO⟩)
  (ysg:PySem.W.nsIn K mainGlobals "SINGLE_GROUPS" = some (some (.ref sg)))
  (usg:K.lookup sg = some ⟨.type "tuple",odsg,.seq #[.int 1 ksg0,.int 3 ksg1] nsg,slsg⟩)
  (yGr:PySem.W.nsIn K mainGlobals "GROUPS" = some (some (.ref Gr)))
  (lGr:K.lookup Gr = some ⟨.type "dict",none,.dict esG nG,#[]⟩)
  (kGr:PySem.W.KeysLit w.params esG.toList)
  (eG0:PySem.W.nsIn K Gr "seat" = some (some (.int 0 kG0)))
  (eG1:PySem.W.nsIn K Gr "both" = some (some (.int 0 kG1)))
  (eG2:PySem.W.nsIn K Gr "tail" = some (some (.int 1 kG2)))
  (eG3:PySem.W.nsIn K Gr "tag" = some (some (.int 2 kG3)))
  (eG4:PySem.W.nsIn K Gr "bag" = some (some (.int 3 kG4)))
  (dga:PySem.W.specialIn K (.ref D) "__getattribute__" = some (some (.builtin "type.__getattribute__")))
  (drd:PySem.W.readsIn K D (.type "type") = true)
  (dfc:PySem.W.findCls K (.ref D) (.type "type") "__init__" = some (.val (.ref f2)))
  (h0_3:PySem.W.findIn K (.ref C0) "free" = some (some (.ref f3)))
  (h0_4:PySem.W.findIn K (.ref C0) "by_place" = some (some (.ref f4)))
  (h0_5:PySem.W.findIn K (.ref C0) "by_name" = some (some (.ref f5)))
  (h0_6:PySem.W.findIn K (.ref C0) "takes_one" = some (some (.ref f6)))
  (h0_7:PySem.W.findIn K (.ref C0) "told" = some (some (.ref f7)))
  (h1_3:PySem.W.findIn K (.ref C1) "free" = some (some (.ref f3)))
  (h1_4:PySem.W.findIn K (.ref C1) "by_place" = some (some (.ref f4)))
  (h1_5:PySem.W.findIn K (.ref C1) "by_name" = some (some (.ref f5)))
  (h1_6:PySem.W.findIn K (.ref C1) "takes_one" = some (some (.ref f6)))
  (h1_7:PySem.W.findIn K (.ref C1) "told" = some (some (.ref f7)))
  (h2_3:PySem.W.findIn K (.ref C2) "free" = some (some (.ref f3)))
  (h2_4:PySem.W.findIn K (.ref C2) "by_place" = some (some (.ref f4)))
  (h2_5:PySem.W.findIn K (.ref C2) "by_name" = some (some (.ref f5)))
  (h2_6:PySem.W.findIn K (.ref C2) "takes_one" = some (some (.ref f6)))
  (h2_7:PySem.W.findIn K (.ref C2) "told" = some (some (.ref f7)))
  (h3_3:PySem.W.findIn K (.ref C3) "free" = some (some (.ref f3)))
  (h3_4:PySem.W.findIn K (.ref C3) "by_place" = some (some (.ref f4)))
  (h3_5:PySem.W.findIn K (.ref C3) "by_name" = some (some (.ref f5)))
  (h3_6:PySem.W.findIn K (.ref C3) "takes_one" = some (some (.ref f6)))
  (h3_7:PySem.W.findIn K (.ref C3) "told" = some (some (.ref f7)))
  (h4_3:PySem.W.findIn K (.ref C4) "free" = some (some (.ref f3)))
  (h4_4:PySem.W.findIn K (.ref C4) "by_place" = some (some (.ref f4)))
  (h4_5:PySem.W.findIn K (.ref C4) "by_name" = some (some (.ref f5)))
  (h4_6:PySem.W.findIn K (.ref C4) "takes_one" = some (some (.ref f6)))
  (h4_7:PySem.W.findIn K (.ref C4) "told" = some (some (.ref f7)))
  (yE0:PySem.W.nsIn K mainGlobals "NoName" = some (some (.ref E0)))
  (xo:PySem.W.excIn K E0 [.type "ValueError",.type "Exception",.type "BaseException",.type "object"] "ValueError.__new__" = true)
  : ∃ fd:FuncData,(∀ (s:Shared) (v:Value),BindsTo s fd ⟨[v],[]⟩ [("_law_script",v)])/\∀ base:Heap,K.In base->base.Ns mainGlobals mg->FnOk l.prog w K mg base CX0 8 fa fd ["_law_script"] (spLawB K):=by
 have e:=hfa.symm.trans (PySem.W.mg_of X G a57)
 cases e
 have F1:=fun_mk (st:=sIs) l1 c1 k1
 have b1:=F1.binds (ps:=["thing"]) fun _ _ _ _ _ _ us hl=>match us,hl with | [_],_=>rfl
 have F2:=fun_mk (st:=sPInit) l2 c2 k2
 have b2:=F2.binds (ps:=["self","word","name","may_lack"]) fun _ _ _ _ _ _ us hl=>match us,hl with | [_,_,_,_],_=>rfl
 have F3:=fun_mk (st:=sFree) l3 c3 k3
 have b3:=F3.binds (ps:=["self"]) fun _ _ _ _ _ _ us hl=>match us,hl with | [_],_=>rfl
 have F4:=fun_mk (st:=sByPlace) l4 c4 k4
 have b4:=F4.binds (ps:=["self"]) fun _ _ _ _ _ _ us hl=>match us,hl with | [_],_=>rfl
 have F5:=fun_mk (st:=sByName) l5 c5 k5
 have b5:=F5.binds (ps:=["self"]) fun _ _ _ _ _ _ us hl=>match us,hl with | [_],_=>rfl
 have F6:=fun_mk (st:=sTakes) l6 c6 k6
 have b6:=F6.binds (ps:=["self"]) fun _ _ _ _ _ _ us hl=>match us,hl with | [_],_=>rfl
 have F7:=fun_mk (st:=sTold) l7 c7 k7
 have b7:=F7.binds (ps:=["self"]) fun _ _ _ _ _ _ us hl=>match us,hl with | [_],_=>rfl
 have F8:=funD_mk (st:=sSeat) (items:=[Value.bool false]) l8 c8 k8 t8 rfl
 have F9:=funD_mk (st:=sBoth) (items:=[Value.bool false]) l9 c9 k9 t9 rfl
 have F10:=fun_mk (st:=sTail) l10 c10 k10
 have b10:=F10.binds (ps:=["self","name"]) fun _ _ _ _ _ _ us hl=>match us,hl with | [_,_],_=>rfl
 have F11:=funD_mk (st:=sTag) (items:=[Value.bool false]) l11 c11 k11 t11 rfl
 have F12:=fun_mk (st:=sBag) l12 c12 k12
 have b12:=F12.binds (ps:=["self","name"]) fun _ _ _ _ _ _ us hl=>match us,hl with | [_,_],_=>rfl
 have F13:=funD_mk (st:=sFInit) (items:=[Value.none]) l13 c13 k13 t13 rfl
 have F14:=fun_mk (st:=sKeep) l14 c14 k14
 have b14:=F14.binds (ps:=["self","parameters","bars"]) fun _ _ _ _ _ _ us hl=>match us,hl with | [_,_,_],_=>rfl
 have F15:=fun_mk (st:=sFPars) l15 c15 k15
 have b15:=F15.binds (ps:=["self"]) fun _ _ _ _ _ _ us hl=>match us,hl with | [_],_=>rfl
 have F16:=fun_mk (st:=sFBars) l16 c16 k16
 have b16:=F16.binds (ps:=["self"]) fun _ _ _ _ _ _ us hl=>match us,hl with | [_],_=>rfl
 have F17:=fun_mk (st:=sFPlaces) l17 c17 k17
 have b17:=F17.binds (ps:=["self"]) fun _ _ _ _ _ _ us hl=>match us,hl with | [_],_=>rfl
 have F18:=fun_mk (st:=sFTail) l18 c18 k18
 have b18:=F18.binds (ps:=["self"]) fun _ _ _ _ _ _ us hl=>match us,hl with | [_],_=>rfl
 have F19:=fun_mk (st:=sFBag) l19 c19 k19
 have b19:=F19.binds (ps:=["self"]) fun _ _ _ _ _ _ us hl=>match us,hl with | [_],_=>rfl
 have F20:=fun_mk (st:=sFNum) l20 c20 k20
 have b20:=F20.binds (ps:=["self","name"]) fun _ _ _ _ _ _ us hl=>match us,hl with | [_,_],_=>rfl
 have F21:=fun_mk (st:=sPof) l21 c21 k21
 have b21:=F21.binds (ps:=["told"]) fun _ _ _ _ _ _ us hl=>match us,hl with | [_],_=>rfl
 have F22:=fun_mk (st:=sRMany) l22 c22 k22
 have b22:=F22.binds (ps:=["parameters","bars"]) fun _ _ _ _ _ _ us hl=>match us,hl with | [_,_],_=>rfl
 have F23:=fun_mk (st:=sROrder) l23 c23 k23
 have b23:=F23.binds (ps:=["parameters"]) fun _ _ _ _ _ _ us hl=>match us,hl with | [_],_=>rfl
 have F24:=fun_mk (st:=sRBars) l24 c24 k24
 have b24:=F24.binds (ps:=["bars"]) fun _ _ _ _ _ _ us hl=>match us,hl with | [_],_=>rfl
 have F25:=fun_mk (st:=sRTwice) l25 c25 k25
 have b25:=F25.binds (ps:=["parameters","bars"]) fun _ _ _ _ _ _ us hl=>match us,hl with | [_,_],_=>rfl
 have F26:=fun_mk (st:=sNumW) l26 c26 k26
 have b26:=F26.binds (ps:=["parameters","word"]) fun _ _ _ _ _ _ us hl=>match us,hl with | [_,_],_=>rfl
 have F27:=fun_mk (st:=sLaid) l27 c27 k27
 have b27:=F27.binds (ps:=["call"]) fun _ _ _ _ _ _ us hl=>match us,hl with | [_],_=>rfl
 have F28:=fun_mk (st:=sMisfits) l28 c28 k28
 have b28:=F28.binds (ps:=["form","call"]) fun _ _ _ _ _ _ us hl=>match us,hl with | [_,_],_=>rfl
 have F29:=fun_mk (st:=sFits) l29 c29 k29
 have b29:=F29.binds (ps:=["form","call"]) fun _ _ _ _ _ _ us hl=>match us,hl with | [_,_],_=>rfl
 have F30:=fun_mk (st:=sShape) l30 c30 k30
 have b30:=F30.binds (ps:=["call"]) fun _ _ _ _ _ _ us hl=>match us,hl with | [_],_=>rfl
 have F31:=fun_mk (st:=sFirsts) l31 c31 k31
 have b31:=F31.binds (ps:=["names"]) fun _ _ _ _ _ _ us hl=>match us,hl with | [_],_=>rfl
 have F32:=fun_mk (st:=sMOf) l32 c32 k32
 have b32:=F32.binds (ps:=["form","many","names"]) fun _ _ _ _ _ _ us hl=>match us,hl with | [_,_,_],_=>rfl
 have F33:=fun_mk (st:=sOvers) l33 c33 k33
 have b33:=F33.binds (ps:=["form","many"]) fun _ _ _ _ _ _ us hl=>match us,hl with | [_,_],_=>rfl
 have F34:=fun_mk (st:=sUnw) l34 c34 k34
 have b34:=F34.binds (ps:=["form","many","firsts"]) fun _ _ _ _ _ _ us hl=>match us,hl with | [_,_,_],_=>rfl
 have F35:=fun_mk (st:=sLack) l35 c35 k35
 have b35:=F35.binds (ps:=["form","many","firsts"]) fun _ _ _ _ _ _ us hl=>match us,hl with | [_,_,_],_=>rfl
 have F36:=fun_mk (st:=sOneE) l36 c36 k36
 have b36:=F36.binds (ps:=["parameter","number","many","firsts"]) fun _ _ _ _ _ _ us hl=>match us,hl with | [_,_,_,_],_=>rfl
 have F37:=fun_mk (st:=sFewest) l37 c37 k37
 have b37:=F37.binds (ps:=["form","names"]) fun _ _ _ _ _ _ us hl=>match us,hl with | [_,_],_=>rfl
 have F38:=fun_mk (st:=sFBoth) l38 c38 k38
 have b38:=F38.binds (ps:=["form","names"]) fun _ _ _ _ _ _ us hl=>match us,hl with | [_,_],_=>rfl
 have F39:=fun_mk (st:=sRoom) l39 c39 k39
 have b39:=F39.binds (ps:=["form","names"]) fun _ _ _ _ _ _ us hl=>match us,hl with | [_,_],_=>rfl
 have F40:=fun_mk (st:=sNever) l40 c40 k40
 have b40:=F40.binds (ps:=["form","names"]) fun _ _ _ _ _ _ us hl=>match us,hl with | [_,_],_=>rfl
 have F41:=fun_mk (st:=sMost) l41 c41 k41
 have b41:=F41.binds (ps:=["form","names"]) fun _ _ _ _ _ _ us hl=>match us,hl with | [_,_],_=>rfl
 have F42:=fun_mk (st:=sCell) l42 c42 k42
 have b42:=F42.binds (ps:=["_law_script","_law_at"]) fun _ _ _ _ _ _ us hl=>match us,hl with | [_,_],_=>rfl
 have F43:=fun_mk (st:=sIsInt) l43 c43 k43
 have b43:=F43.binds (ps:=["_law_found"]) fun _ _ _ _ _ _ us hl=>match us,hl with | [_],_=>rfl
 have F44:=fun_mk (st:=sMix) l44 c44 k44
 have b44:=F44.binds (ps:=["_law_cell_here","_law_k"]) fun _ _ _ _ _ _ us hl=>match us,hl with | [_,_],_=>rfl
 have F45:=fun_mk (st:=sPool) l45 c45 k45
 have b45:=F45.binds (ps:=["_law_cell_here"]) fun _ _ _ _ _ _ us hl=>match us,hl with | [_],_=>rfl
 have F46:=fun_mk (st:=sForm) l46 c46 k46
 have b46:=F46.binds (ps:=["_law_script","_law_at","_law_pool_here","_law_most"]) fun _ _ _ _ _ _ us hl=>match us,hl with | [_,_,_,_],_=>rfl
 have F47:=fun_mk (st:=sLDbl) l47 c47 k47
 have b47:=F47.binds (ps:=["_law_told"]) fun _ _ _ _ _ _ us hl=>match us,hl with | [_],_=>rfl
 have F48:=fun_mk (st:=sLMade) l48 c48 k48
 have b48:=F48.binds (ps:=["_law_told","_law_alike"]) fun _ _ _ _ _ _ us hl=>match us,hl with | [_,_],_=>rfl
 have F49:=fun_mk (st:=sThing) l49 c49 k49
 have b49:=F49.binds (ps:=["_law_cell_here","_law_k"]) fun _ _ _ _ _ _ us hl=>match us,hl with | [_,_],_=>rfl
 have F50:=fun_mk (st:=sToldN) l50 c50 k50
 have b50:=F50.binds (ps:=["_law_told","_law_many","_law_more"]) fun _ _ _ _ _ _ us hl=>match us,hl with | [_,_,_],_=>rfl
 have F51:=fun_mk (st:=sFitting) l51 c51 k51
 have b51:=F51.binds (ps:=["_law_told","_law_pool_here","_law_cell_here","_law_more"]) fun _ _ _ _ _ _ us hl=>match us,hl with | [_,_,_,_],_=>rfl
 have F52:=fun_mk (st:=sLNames) l52 c52 k52
 have b52:=F52.binds (ps:=["_law_told","_law_pool_here","_law_cell_here"]) fun _ _ _ _ _ _ us hl=>match us,hl with | [_,_,_],_=>rfl
 have F53:=fun_mk (st:=sIsRoom) l53 c53 k53
 have b53:=F53.binds (ps:=["_law_found"]) fun _ _ _ _ _ _ us hl=>match us,hl with | [_],_=>rfl
 have F54:=fun_mk (st:=sWithin) l54 c54 k54
 have b54:=F54.binds (ps:=["_law_found","_law_many"]) fun _ _ _ _ _ _ us hl=>match us,hl with | [_,_],_=>rfl
 have F55:=fun_mk (st:=sEndless) l55 c55 k55
 have b55:=F55.binds (ps:=["_law_told","_law_names_here"]) fun _ _ _ _ _ _ us hl=>match us,hl with | [_,_],_=>rfl
 have F56:=fun_mk (st:=sRight) l56 c56 k56
 have b56:=F56.binds (ps:=["_law_form_here","_law_told","_law_names_here"]) fun _ _ _ _ _ _ us hl=>match us,hl with | [_,_,_],_=>rfl
 have F57:=fun_mk (st:=sLaw) l57 c57 k57
 have no:∀ {x:Str},PySem.W.nsIn K mainGlobals x = some none->mg x = none:=fun z=>PySem.W.mg_none_of X G z
 have T:Txt1 K mg:=⟨no zisinstance,no zstr,no zbool,no zlen,no zall,no zrange,⟨tL,PySem.W.mg_of X G gL⟩,⟨tN,PySem.W.mg_of X G gN⟩,kt_NoneType_str K,kt_int_str K,kt_bool_str K,kt_list_str K,kt_tuple_str K,kt_dict_str K,kt_str_str K,kt_bool_bool K⟩
 have Wd:Wds K mg tP tB tO:=⟨PySem.W.mg_of X G ytP,PySem.W.mg_of X G ytB,PySem.W.mg_of X G ytO,fun H=>.inr ⟨_,_,_,utP,rfl,rfl,(by show 2<=sizeLine; decide),.cons ⟨_,rfl⟩ (.cons ⟨_,rfl⟩ (.nil))⟩,fun H=>.inr ⟨_,_,_,utB,rfl,rfl,(by show 2<=sizeLine; decide),.cons ⟨_,rfl⟩ (.cons ⟨_,rfl⟩ (.nil))⟩,fun H=>.inr ⟨_,_,_,utO,rfl,rfl,(by show 3<=sizeLine; decide),.cons ⟨_,rfl⟩ (.cons ⟨_,rfl⟩ (.cons ⟨_,rfl⟩ (.nil)))⟩⟩
 have TF:TxtF w K mg Gr sg:=⟨no zlen,no zenumerate,no zlist,no zset,⟨tMP,PySem.W.mg_of X G gMP⟩,⟨tMB,PySem.W.mg_of X G gMB⟩,PySem.W.mg_of X G yGr,ktab_of lGr kGr eG0 eG1 eG2 eG3 eG4,PySem.W.mg_of X G ysg,fun H=>.inr ⟨_,_,_,usg,rfl,rfl,(by show 2<=sizeLine; decide),.cons ⟨_,rfl⟩ (.cons ⟨_,rfl⟩ .nil)⟩⟩
 have pc0:PC K ⟨f3,f4,f5,f6,f7⟩ C0:=⟨⟨pgC0,hdC0,poC0,saC0⟩,nC0_word,nC0_name,nC0_may_lack,⟨h0_3,i3,k3⟩,⟨h0_4,i4,k4⟩,⟨h0_5,i5,k5⟩,⟨h0_6,i6,k6⟩,⟨h0_7,i7,k7⟩⟩
 have pc1:PC K ⟨f3,f4,f5,f6,f7⟩ C1:=⟨⟨pgC1,hdC1,poC1,saC1⟩,nC1_word,nC1_name,nC1_may_lack,⟨h1_3,i3,k3⟩,⟨h1_4,i4,k4⟩,⟨h1_5,i5,k5⟩,⟨h1_6,i6,k6⟩,⟨h1_7,i7,k7⟩⟩
 have pc2:PC K ⟨f3,f4,f5,f6,f7⟩ C2:=⟨⟨pgC2,hdC2,poC2,saC2⟩,nC2_word,nC2_name,nC2_may_lack,⟨h2_3,i3,k3⟩,⟨h2_4,i4,k4⟩,⟨h2_5,i5,k5⟩,⟨h2_6,i6,k6⟩,⟨h2_7,i7,k7⟩⟩
 have pc3:PC K ⟨f3,f4,f5,f6,f7⟩ C3:=⟨⟨pgC3,hdC3,poC3,saC3⟩,nC3_word,nC3_name,nC3_may_lack,⟨h3_3,i3,k3⟩,⟨h3_4,i4,k4⟩,⟨h3_5,i5,k5⟩,⟨h3_6,i6,k6⟩,⟨h3_7,i7,k7⟩⟩
 have pc4:PC K ⟨f3,f4,f5,f6,f7⟩ C4:=⟨⟨pgC4,hdC4,poC4,saC4⟩,nC4_word,nC4_name,nC4_may_lack,⟨h4_3,i3,k3⟩,⟨h4_4,i4,k4⟩,⟨h4_5,i5,k5⟩,⟨h4_6,i6,k6⟩,⟨h4_7,i7,k7⟩⟩
 have PP:Pcs K ⟨f3,f4,f5,f6,f7⟩ ⟨C0,C1,C2,C3,C4⟩:=fun k hk=>by
  rcases lt5 hk with rfl | rfl | rfl | rfl | rfl
  ·exact pc0
  ·exact pc1
  ·exact pc2
  ·exact pc3
  ·exact pc4
 have FK:FC K FM:=⟨⟨pgFM,hdFM,poFM,saFM⟩,nFM_row,nFM_bar_names,nFM_place_count,nFM_tail_number,nFM_bag_number,nFM_doors⟩
 have UL:TxtL mg:=⟨no zlen,no zrange,no zmin,no zmax,no zenumerate,no zlist,no zisinstance,no zbool,no zint⟩
 have T2:Txt2 K mg:=⟨no zisinstance,no zstr,no zbool,no zint,no ztuple,no zlist,no zlen,no zrange,no zenumerate⟩
 have b8_0:Binds K _ ["self","name","free"] []:=fun s us KX hl=>match us,hl with | [u,v,x],_=>F8.bindsTo (fun _ _ _ _ _ _ _=>⟨_,rfl,rfl⟩) KX
 have b8_1:Binds K _ ["self","name","free"] [.bool false]:=fun s us KX hl=>match us,(show us.length = 2 by simpa using hl) with | [u,v],_=>F8.bindsTo (fun _ _ _ _ _ _ _=>⟨_,rfl,rfl⟩) KX
 have b8_2:KBinds K _ ["self","name","free"] ["free"] g21 g21:=⟨fun s us ws KX hl=>match us,ws,hl with | [u,v],[x],_=>F8.bindsTo (fun _ _ _ _ _ _ _=>⟨_,rfl,rfl⟩) KX,fun r z=>g21_rel r z⟩
 have b9_0:Binds K _ ["self","name","free"] []:=fun s us KX hl=>match us,hl with | [u,v,x],_=>F9.bindsTo (fun _ _ _ _ _ _ _=>⟨_,rfl,rfl⟩) KX
 have b9_1:Binds K _ ["self","name","free"] [.bool false]:=fun s us KX hl=>match us,(show us.length = 2 by simpa using hl) with | [u,v],_=>F9.bindsTo (fun _ _ _ _ _ _ _=>⟨_,rfl,rfl⟩) KX
 have b9_2:KBinds K _ ["self","name","free"] ["free"] g21 g21:=⟨fun s us ws KX hl=>match us,ws,hl with | [u,v],[x],_=>F9.bindsTo (fun _ _ _ _ _ _ _=>⟨_,rfl,rfl⟩) KX,fun r z=>g21_rel r z⟩
 have b11_0:Binds K _ ["self","name","free"] []:=fun s us KX hl=>match us,hl with | [u,v,x],_=>F11.bindsTo (fun _ _ _ _ _ _ _=>⟨_,rfl,rfl⟩) KX
 have b11_1:Binds K _ ["self","name","free"] [.bool false]:=fun s us KX hl=>match us,(show us.length = 2 by simpa using hl) with | [u,v],_=>F11.bindsTo (fun _ _ _ _ _ _ _=>⟨_,rfl,rfl⟩) KX
 have b11_2:KBinds K _ ["self","name","free"] ["free"] g21 g21:=⟨fun s us ws KX hl=>match us,ws,hl with | [u,v],[x],_=>F11.bindsTo (fun _ _ _ _ _ _ _=>⟨_,rfl,rfl⟩) KX,fun r z=>g21_rel r z⟩
 have b13_0:Binds K _ ["self","parameters","bars"] []:=fun s us KX hl=>match us,hl with | [u,v,x],_=>F13.bindsTo (fun _ _ _ _ _ _ _=>⟨_,rfl,rfl⟩) KX
 have b13_1:Binds K _ ["self","parameters","bars"] [.none]:=fun s us KX hl=>match us,(show us.length = 2 by simpa using hl) with | [u,v],_=>F13.bindsTo (fun _ _ _ _ _ _ _=>⟨_,rfl,rfl⟩) KX
 have b13_2:KBinds K _ ["self","parameters","bars"] ["bars"] g21 g21:=⟨fun s us ws KX hl=>match us,ws,hl with | [u,v],[x],_=>F13.bindsTo (fun _ _ _ _ _ _ _=>⟨_,rfl,rfl⟩) KX,fun r z=>g21_rel r z⟩
 refine ⟨PySem.W.fnOf "law" "law" (defArgs sLaw) (defBody sLaw) (defScope sLaw) .none kV57 dc57 pm57 an57 cd57 ct57,fun s v=>.of_eq rfl,fun base KB GB=>?_⟩
 have cI:Callee l.prog w K mg base 1 "is_name" f1 _ ["thing"] (spIs K):=⟨ok_is F1 T ,PySem.W.mg_of X G a1,k1,b1⟩
 have GP:FnOk l.prog w K mg base (CXe l.prog w) 2 f2 _ ["self","word","name","may_lack"] (spP K ⟨f3,f4,f5,f6,f7⟩ E0):=ok_pinit F2 (own_in KB GB yE0 xo) cI
 have CB:ClsFn K D "__init__" f2:=⟨dga,drd,dfc,k2⟩
 have mD:=PySem.W.mg_of X G aD
 have UC:Ctors l.prog w K mg base ⟨C0,C1,C2,C3,C4⟩ E0 f8 f9 f10 f11 f12 _ _ _ _ _:=⟨⟨⟨mkC0,a8,i8,kcC0⟩,ok_seat F8 pc0 CB mD GP b2,PySem.W.mg_of X G aC0,b8_0⟩,⟨⟨mkC0,a8,i8,kcC0⟩,ok_seat F8 pc0 CB mD GP b2,PySem.W.mg_of X G aC0,b8_1⟩,b8_2,⟨⟨mkC1,a9,i9,kcC1⟩,ok_both F9 pc1 CB mD GP b2,PySem.W.mg_of X G aC1,b9_0⟩,⟨⟨mkC1,a9,i9,kcC1⟩,ok_both F9 pc1 CB mD GP b2,PySem.W.mg_of X G aC1,b9_1⟩,b9_2,⟨⟨mkC2,a10,i10,kcC2⟩,ok_tail F10 pc2 CB mD GP b2,PySem.W.mg_of X G aC2,b10⟩,⟨⟨mkC3,a11,i11,kcC3⟩,ok_tag F11 pc3 CB mD GP b2,PySem.W.mg_of X G aC3,b11_0⟩,⟨⟨mkC3,a11,i11,kcC3⟩,ok_tag F11 pc3 CB mD GP b2,PySem.W.mg_of X G aC3,b11_1⟩,b11_2,⟨⟨mkC4,a12,i12,kcC4⟩,ok_bag F12 pc4 CB mD GP b2,PySem.W.mg_of X G aC4,b12⟩⟩
 have GF:FnOk l.prog w K mg base CX0 1 f3 _ ["self"] (spFree K ⟨f3,f4,f5,f6,f7⟩):=ok_free F3
 have GQ:FnOk l.prog w K mg base CX0 1 f4 _ ["self"] (spIn K ⟨f3,f4,f5,f6,f7⟩ bpL):=ok_by_place F4 Wd
 have GN:FnOk l.prog w K mg base CX0 1 f5 _ ["self"] (spIn K ⟨f3,f4,f5,f6,f7⟩ bnL):=ok_by_name F5 Wd
 have cM1:Callee l.prog w K mg base 1 "refuse_too_many" f22 _ ["parameters","bars"] (spMany K):=⟨ok_many F22 TF ,PySem.W.mg_of X G a22,k22,b22⟩
 have cM2:Callee l.prog w K mg base 1 "refuse_bad_order" f23 _ ["parameters"] (spOrd ⟨C0,C1,C2,C3,C4⟩):=⟨ok_order F23 TF PP ,PySem.W.mg_of X G a23,k23,b23⟩
 have cM3:Callee l.prog w K mg base 2 "refuse_bars_without_name" f24 _ ["bars"] spRB:=⟨ok_rbars F24 cI ,PySem.W.mg_of X G a24,k24,b24⟩
 have cM4:Callee l.prog w K mg base 2 "refuse_twice" f25 _ ["parameters","bars"] (spTw ⟨C0,C1,C2,C3,C4⟩):=⟨ok_twice F25 TF PP GN b5 ,PySem.W.mg_of X G a25,k25,b25⟩
 have cW:Callee l.prog w K mg base 1 "number_of_word" f26 _ ["parameters","word"] (spNW ⟨C0,C1,C2,C3,C4⟩):=⟨ok_numw F26 TF PP ,PySem.W.mg_of X G a26,k26,b26⟩
 have GK:FnOk l.prog w K mg base CX0 2 f14 _ ["self","parameters","bars"] (spKeep ⟨C0,C1,C2,C3,C4⟩ FM):=ok_keep F14 TF PP FK cW GQ b4 GN b5
 have GI:FnOk l.prog w K mg base CX0 3 f13 _ ["self","parameters","bars"] (spFI ⟨C0,C1,C2,C3,C4⟩ FM):=ok_finit F13 FK ⟨a14,i14,k14⟩ cM1 cM2 cM3 cM4 GK b14
 have kF0:Ctor l.prog w K mg base CX0 3 "Form" FM f13 _ ["self","parameters","bars"] [] (spFI ⟨C0,C1,C2,C3,C4⟩ FM):=⟨⟨mkFM,a13,i13,kcFM⟩,GI,PySem.W.mg_of X G aFM,b13_0⟩
 have kF1:Ctor l.prog w K mg base CX0 3 "Form" FM f13 _ ["self","parameters","bars"] [.none] (spFI ⟨C0,C1,C2,C3,C4⟩ FM):=⟨⟨mkFM,a13,i13,kcFM⟩,GI,PySem.W.mg_of X G aFM,b13_1⟩
 have mpa:Meth K FM "parameters" f15:=⟨a15,i15,k15⟩
 have Gpa:FnOk l.prog w K mg base CX0 1 f15 _ ["self"] (spPars ⟨C0,C1,C2,C3,C4⟩ FM):=ok_fpars F15 TF FK
 have mba:Meth K FM "bars" f16:=⟨a16,i16,k16⟩
 have Gba:FnOk l.prog w K mg base CX0 1 f16 _ ["self"] (spBars ⟨C0,C1,C2,C3,C4⟩ FM):=ok_fbars F16 TF FK
 have mpl:Meth K FM "places" f17:=⟨a17,i17,k17⟩
 have Gpl:FnOk l.prog w K mg base CX0 1 f17 _ ["self"] (spPlaces ⟨C0,C1,C2,C3,C4⟩ FM):=ok_fplaces F17 FK
 have mta:Meth K FM "tail" f18:=⟨a18,i18,k18⟩
 have Gta:FnOk l.prog w K mg base CX0 1 f18 _ ["self"] (spWord ⟨C0,C1,C2,C3,C4⟩ FM 2):=ok_ftail F18 FK
 have mbg:Meth K FM "bag" f19:=⟨a19,i19,k19⟩
 have Gbg:FnOk l.prog w K mg base CX0 1 f19 _ ["self"] (spWord ⟨C0,C1,C2,C3,C4⟩ FM 4):=ok_fbag F19 FK
 have mnu:Meth K FM "number_of" f20:=⟨a20,i20,k20⟩
 have Gnu:FnOk l.prog w K mg base CX0 1 f20 _ ["self","name"] (spNum ⟨C0,C1,C2,C3,C4⟩ FM):=ok_fnum F20 FK
 have cL:Callee l.prog w K mg base 1 "laid" f27 _ ["call"] (spLaid K):=⟨ok_laid F27 ,PySem.W.mg_of X G a27,k27,b27⟩
 have cSh:Callee l.prog w K mg base 2 "shape" f30 _ ["call"] (spShape K):=⟨ok_shape F30 (no zlen) cL ,PySem.W.mg_of X G a30,k30,b30⟩
 have cFn:Callee l.prog w K mg base 1 "first_numbers" f31 _ ["names"] spFirsts:=⟨ok_firsts F31 (no zenumerate) ,PySem.W.mg_of X G a31,k31,b31⟩
 have cOv:Callee l.prog w K mg base 2 "overs" f33 _ ["form","many"] (spOvers ⟨C0,C1,C2,C3,C4⟩ FM):=⟨ok_overs F33 (no zrange) FK mta Gta b18 mpl Gpl b17 ,PySem.W.mg_of X G a33,k33,b33⟩
 have cUn:Callee l.prog w K mg base 2 "unwelcomes" f34 _ ["form","many","firsts"] (spUnw ⟨C0,C1,C2,C3,C4⟩ FM):=⟨ok_unw F34 (no zset) FK mba Gba b16 mnu Gnu b20 mbg Gbg b19 mpl Gpl b17 ,PySem.W.mg_of X G a34,k34,b34⟩
 have cEn:Callee l.prog w K mg base 2 "one_entry" f36 _ ["parameter","number","many","firsts"] (spOneE ⟨C0,C1,C2,C3,C4⟩):=⟨ok_oneE F36 PP GQ b4 GN b5 ,PySem.W.mg_of X G a36,k36,b36⟩
 have cLa:Callee l.prog w K mg base 3 "lackings" f35 _ ["form","many","firsts"] (spLacks ⟨C0,C1,C2,C3,C4⟩ FM):=⟨ok_lacks F35 (no zenumerate) PP FK mpa Gpa b15 GF b3 cEn ,PySem.W.mg_of X G a35,k35,b35⟩
 have cMo:Callee l.prog w K mg base 4 "misfits_of" f32 _ ["form","many","names"] (spMOf ⟨C0,C1,C2,C3,C4⟩ FM):=⟨ok_mof F32 (no zenumerate) cFn cOv cUn cLa ,PySem.W.mg_of X G a32,k32,b32⟩
 have cMi:Callee l.prog w K mg base 5 "misfits" f28 _ ["form","call"] (spMis K ⟨C0,C1,C2,C3,C4⟩ FM):=⟨ok_mis F28 cSh cMo ,PySem.W.mg_of X G a28,k28,b28⟩
 have cFi:Callee l.prog w K mg base 6 "fits" f29 _ ["form","call"] (spFits K ⟨C0,C1,C2,C3,C4⟩ FM):=⟨ok_fits F29 cMi ,PySem.W.mg_of X G a29,k29,b29⟩
 have cFb:Callee l.prog w K mg base 2 "first_both" f38 _ ["form","names"] (spFB ⟨C0,C1,C2,C3,C4⟩ FM):=⟨ok_fb F38 (no zenumerate) FK PP mpa Gpa b15 mpl Gpl b17 GN b5 ,PySem.W.mg_of X G a38,k38,b38⟩
 have cFw:Callee l.prog w K mg base 2 "fewest_by_place" f37 _ ["form","names"] (spFew ⟨C0,C1,C2,C3,C4⟩ FM):=⟨ok_few F37 (no zrange) (no zreversed) FK PP mpa Gpa b15 mpl Gpl b17 GN b5 GF b3 ,PySem.W.mg_of X G a37,k37,b37⟩
 have cMs:Callee l.prog w K mg base 3 "most_by_place" f41 _ ["form","names"] (spMost ⟨C0,C1,C2,C3,C4⟩ FM):=⟨ok_most F41 cFb FK mta Gta b18 mpl Gpl b17 ,PySem.W.mg_of X G a41,k41,b41⟩
 have cNv:Callee l.prog w K mg base 5 "names_never_fit" f40 _ ["form","names"] (spNever ⟨C0,C1,C2,C3,C4⟩ FM):=⟨ok_never F40 (no zany) cMo FK mpl Gpl b17 ,PySem.W.mg_of X G a40,k40,b40⟩
 have cRo:Callee l.prog w K mg base 6 "room" f39 _ ["form","names"] (spRoom ⟨C0,C1,C2,C3,C4⟩ FM):=⟨ok_room F39 cNv cFw cMs ,PySem.W.mg_of X G a39,k39,b39⟩
 have cPf:CalleeE l.prog w K mg base 5 "parameter_of" f21 _ ["told"] (spPof K ⟨C0,C1,C2,C3,C4⟩ E0):=⟨ok_pof F21 UC ,PySem.W.mg_of X G a21,k21,b21⟩
 have cC:Callee l.prog w K mg base 1 "_law_cell" f42 _ ["_law_script","_law_at"] (spCell K):=⟨ok_cell F42 ,PySem.W.mg_of X G a42,k42,b42⟩
 have cII:Callee l.prog w K mg base 1 "_law_is_int" f43 _ ["_law_found"] spIsIntP:=⟨ok_isInt F43 T2 ,PySem.W.mg_of X G a43,k43,b43⟩
 have cMx:Callee l.prog w K mg base 1 "_law_mix" f44 _ ["_law_cell_here","_law_k"] spMix:=⟨ok_mix F44 ,PySem.W.mg_of X G a44,k44,b44⟩
 have cPl:Callee l.prog w K mg base 1 "_law_pool" f45 _ ["_law_cell_here"] (spPool K):=⟨ok_pool F45 T2 ,PySem.W.mg_of X G a45,k45,b45⟩
 have cFo:Callee l.prog w K mg base 2 "_law_form" f46 _ ["_law_script","_law_at","_law_pool_here","_law_most"] (spForm K):=⟨ok_form F46 UL cC cMx ,PySem.W.mg_of X G a46,k46,b46⟩
 have cDb:Callee l.prog w K mg base 1 "_law_doubled" f47 _ ["_law_told"] spLDbl:=⟨ok_ldbl F47 (no zlen) ,PySem.W.mg_of X G a47,k47,b47⟩
 have cMd:Callee l.prog w K mg base 6 "_law_made" f48 _ ["_law_told","_law_alike"] (spLMade ⟨C0,C1,C2,C3,C4⟩ FM):=⟨ok_lmade F48 (no zdict) (no zlist) (PySem.W.mg_of X G aFM) ⟨mkFM,a13,i13,kcFM⟩ GI b13_0 cPf ,PySem.W.mg_of X G a48,k48,b48⟩
 have cTh:Callee l.prog w K mg base 2 "_law_thing" f49 _ ["_law_cell_here","_law_k"] spThing:=⟨ok_thing F49 cMx ,PySem.W.mg_of X G a49,k49,b49⟩
 have cTn:Callee l.prog w K mg base 2 "_law_told_names" f50 _ ["_law_told","_law_many","_law_more"] spToldN:=⟨ok_toldN F50 (no zenumerate) cMx ,PySem.W.mg_of X G a50,k50,b50⟩
 have cFt:Callee l.prog w K mg base 3 "_law_fitting" f51 _ ["_law_told","_law_pool_here","_law_cell_here","_law_more"] (spFitting K):=⟨ok_fitting F51 UL cMx cTh cTn ,PySem.W.mg_of X G a51,k51,b51⟩
 have cNm:Callee l.prog w K mg base 4 "_law_names" f52 _ ["_law_told","_law_pool_here","_law_cell_here"] spLNames:=⟨ok_lnames F52 UL cMx cFt ,PySem.W.mg_of X G a52,k52,b52⟩
 have cIr:Callee l.prog w K mg base 2 "_law_is_room" f53 _ ["_law_found"] spIsRoom:=⟨ok_isRoom F53 UL (no ztuple) cII ,PySem.W.mg_of X G a53,k53,b53⟩
 have cWi:Callee l.prog w K mg base 1 "_law_within" f54 _ ["_law_found","_law_many"] spWithin:=⟨ok_within F54 ,PySem.W.mg_of X G a54,k54,b54⟩
 have cEd:Callee l.prog w K mg base 1 "_law_endless" f55 _ ["_law_told","_law_names_here"] spEndless:=⟨ok_endless F55 ,PySem.W.mg_of X G a55,k55,b55⟩
 have cRi:Callee l.prog w K mg base 7 "_law_right" f56 _ ["_law_form_here","_law_told","_law_names_here"] (spRight ⟨C0,C1,C2,C3,C4⟩ FM):=⟨ok_right F56 UL (no zreversed) cRo cIr cEd cFi cWi FK mpl Gpl b17 ,PySem.W.mg_of X G a56,k56,b56⟩
 exact ok_law F57 cC cPl cFo cDb cMd cRi cNm
theorem walk {l:PySem.W.OpenLaw} {q:Program} {loose:List Str} {XP:(Str->Option Value)->Heap->Prop} {YP:World->Heap->Prop} {d:DefRec} {K:Params->PySem.W.Frag} (hn:l.most = some 63) (hdf:d.params.defaults = [])
  (hY:∀ (w:World) (h:Heap),YP w h->(K w.params).In h)
  (F:∀ (w:World) (mg:Str->Option Value) (fa:Addr) (h:Heap),(K w.params).In h->h.Ns mainGlobals mg->mg d.name = some (.ref fa)->
   ∃ fd:FuncData,(∀ (s:Shared) (u:Value),BindsTo s fd ⟨[u],[]⟩ [("_law_script",u)])/\∀ base:Heap,(K w.params).In base->base.Ns mainGlobals mg->FnOk l.prog w (K w.params) mg base CX0 8 fa fd ["_law_script"] (spLawB (K w.params))) :
  PySem.W.WalkO q loose XP YP l.row.toRowW d [] (fun f vs=>PySem.call f vs):=
 L2.walk_ofB (n:=63) (k:=8) (x:="_law_script") (CX:=fun _=>CX0) (sp:=fun w=>spLawB (K w.params)) hn (by decide) hdf ⟨rfl,by decide,by decide⟩ hY F (fun _ _ a ns hl hb _ hS=>⟨a,ns,rfl,hS,hl,hb,fun _=>rfl⟩) fun _ _ _ _ _ z=>z
end K54
open PySem PySem.W PyProof.Rows
set_option maxRecDepth 100000 in
set_option maxHeartbeats 0 in
theorem PySem.Challenge.cw_callbinds_k54_rooms_holds : PySem.Challenge.rw_callbinds_k54_rooms.Holds := by
 w_on; o_law; k_head; (case hw => w_witness2)
 k_fill
 refine K54.walk (l := PySem.Challenge.rw_callbinds_k54_rooms) rfl rfl (fun w h Y => PySem.W.kIn_of Y) ?F
 case F =>
  intro w mg fa h KX G hmg
  refine' K54.all_mk KX G hmg ?aD ?pgD ?hdD ?poD ?saD ?mkD ?kcD ?aC0 ?pgC0 ?hdC0 ?poC0 ?saC0 ?mkC0 ?kcC0 ?nC0_word ?nC0_name ?nC0_may_lack ?aC1 ?pgC1 ?hdC1 ?poC1 ?saC1 ?mkC1 ?kcC1 ?nC1_word ?nC1_name ?nC1_may_lack ?aC2 ?pgC2 ?hdC2 ?poC2 ?saC2 ?mkC2 ?kcC2 ?nC2_word ?nC2_name ?nC2_may_lack ?aC3 ?pgC3 ?hdC3 ?poC3 ?saC3 ?mkC3 ?kcC3 ?nC3_word ?nC3_name ?nC3_may_lack ?aC4 ?pgC4 ?hdC4 ?poC4 ?saC4 ?mkC4 ?kcC4 ?nC4_word ?nC4_name ?nC4_may_lack ?aFM ?pgFM ?hdFM ?poFM ?saFM ?mkFM ?kcFM ?nFM_row ?nFM_bar_names ?nFM_place_count ?nFM_tail_number ?nFM_bag_number ?nFM_doors ?a1 ?l1 ?c1 ?k1 ?a2 ?i2 ?l2 ?c2 ?k2 ?a3 ?i3 ?l3 ?c3 ?k3 ?a4 ?i4 ?l4 ?c4 ?k4 ?a5 ?i5 ?l5 ?c5 ?k5 ?a6 ?i6 ?l6 ?c6 ?k6 ?a7 ?i7 ?l7 ?c7 ?k7 ?a8 ?i8 ?l8 ?c8 ?k8 ?t8 ?a9 ?i9 ?l9 ?c9 ?k9 ?t9 ?a10 ?i10 ?l10 ?c10 ?k10 ?a11 ?i11 ?l11 ?c11 ?k11 ?t11 ?a12 ?i12 ?l12 ?c12 ?k12 ?a13 ?i13 ?l13 ?c13 ?k13 ?t13 ?a14 ?i14 ?l14 ?c14 ?k14 ?a15 ?i15 ?l15 ?c15 ?k15 ?a16 ?i16 ?l16 ?c16 ?k16 ?a17 ?i17 ?l17 ?c17 ?k17 ?a18 ?i18 ?l18 ?c18 ?k18 ?a19 ?i19 ?l19 ?c19 ?k19 ?a20 ?i20 ?l20 ?c20 ?k20 ?a21 ?l21 ?c21 ?k21 ?a22 ?l22 ?c22 ?k22 ?a23 ?l23 ?c23 ?k23 ?a24 ?l24 ?c24 ?k24 ?a25 ?l25 ?c25 ?k25 ?a26 ?l26 ?c26 ?k26 ?a27 ?l27 ?c27 ?k27 ?a28 ?l28 ?c28 ?k28 ?a29 ?l29 ?c29 ?k29 ?a30 ?l30 ?c30 ?k30 ?a31 ?l31 ?c31 ?k31 ?a32 ?l32 ?c32 ?k32 ?a33 ?l33 ?c33 ?k33 ?a34 ?l34 ?c34 ?k34 ?a35 ?l35 ?c35 ?k35 ?a36 ?l36 ?c36 ?k36 ?a37 ?l37 ?c37 ?k37 ?a38 ?l38 ?c38 ?k38 ?a39 ?l39 ?c39 ?k39 ?a40 ?l40 ?c40 ?k40 ?a41 ?l41 ?c41 ?k41 ?a42 ?l42 ?c42 ?k42 ?a43 ?l43 ?c43 ?k43 ?a44 ?l44 ?c44 ?k44 ?a45 ?l45 ?c45 ?k45 ?a46 ?l46 ?c46 ?k46 ?a47 ?l47 ?c47 ?k47 ?a48 ?l48 ?c48 ?k48 ?a49 ?l49 ?c49 ?k49 ?a50 ?l50 ?c50 ?k50 ?a51 ?l51 ?c51 ?k51 ?a52 ?l52 ?c52 ?k52 ?a53 ?l53 ?c53 ?k53 ?a54 ?l54 ?c54 ?k54 ?a55 ?l55 ?c55 ?k55 ?a56 ?l56 ?c56 ?k56 ?a57 ?l57 ?c57 ?k57 ?zisinstance ?zstr ?zbool ?zlen ?zall ?zrange ?zlist ?zenumerate ?zset ?zmin ?zmax ?zint ?ztuple ?zdict ?zany ?zreversed ?gL ?gN ?gMP ?gMB ?ytP ?utP ?ytB ?utB ?ytO ?utO ?ysg ?usg ?yGr ?lGr ?kGr ?eG0 ?eG1 ?eG2 ?eG3 ?eG4 ?dga ?drd ?dfc ?h0_3 ?h0_4 ?h0_5 ?h0_6 ?h0_7 ?h1_3 ?h1_4 ?h1_5 ?h1_6 ?h1_7 ?h2_3 ?h2_4 ?h2_5 ?h2_6 ?h2_7 ?h3_3 ?h3_4 ?h3_5 ?h3_6 ?h3_7 ?h4_3 ?h4_4 ?h4_5 ?h4_6 ?h4_7 ?yE0 ?xo
  (case yE0 => k_is)
  (case aD => k_is)
  (case pgD => k_is)
  (case hdD => k_is)
  (case poD => k_is)
  (case saD => k_is)
  (case mkD => k_is)
  (case kcD => k_is)
  (case aC0 => k_is)
  (case pgC0 => k_is)
  (case hdC0 => k_is)
  (case poC0 => k_is)
  (case saC0 => k_is)
  (case mkC0 => k_is)
  (case kcC0 => k_is)
  (case nC0_word => k_is)
  (case nC0_name => k_is)
  (case nC0_may_lack => k_is)
  (case aC1 => k_is)
  (case pgC1 => k_is)
  (case hdC1 => k_is)
  (case poC1 => k_is)
  (case saC1 => k_is)
  (case mkC1 => k_is)
  (case kcC1 => k_is)
  (case nC1_word => k_is)
  (case nC1_name => k_is)
  (case nC1_may_lack => k_is)
  (case aC2 => k_is)
  (case pgC2 => k_is)
  (case hdC2 => k_is)
  (case poC2 => k_is)
  (case saC2 => k_is)
  (case mkC2 => k_is)
  (case kcC2 => k_is)
  (case nC2_word => k_is)
  (case nC2_name => k_is)
  (case nC2_may_lack => k_is)
  (case aC3 => k_is)
  (case pgC3 => k_is)
  (case hdC3 => k_is)
  (case poC3 => k_is)
  (case saC3 => k_is)
  (case mkC3 => k_is)
  (case kcC3 => k_is)
  (case nC3_word => k_is)
  (case nC3_name => k_is)
  (case nC3_may_lack => k_is)
  (case aC4 => k_is)
  (case pgC4 => k_is)
  (case hdC4 => k_is)
  (case poC4 => k_is)
  (case saC4 => k_is)
  (case mkC4 => k_is)
  (case kcC4 => k_is)
  (case nC4_word => k_is)
  (case nC4_name => k_is)
  (case nC4_may_lack => k_is)
  (case aFM => k_is)
  (case pgFM => k_is)
  (case hdFM => k_is)
  (case poFM => k_is)
  (case saFM => k_is)
  (case mkFM => k_is)
  (case kcFM => k_is)
  (case nFM_row => k_is)
  (case nFM_bar_names => k_is)
  (case nFM_place_count => k_is)
  (case nFM_tail_number => k_is)
  (case nFM_bag_number => k_is)
  (case nFM_doors => k_is)
  (case a1 => k_is)
  (case l1 => k_is)
  (case c1 => k_is)
  (case k1 => k_is)
  (case a2 => k_is)
  (case i2 => k_is)
  (case l2 => k_is)
  (case c2 => k_is)
  (case k2 => k_is)
  (case a3 => k_is)
  (case i3 => k_is)
  (case l3 => k_is)
  (case c3 => k_is)
  (case k3 => k_is)
  (case a4 => k_is)
  (case i4 => k_is)
  (case l4 => k_is)
  (case c4 => k_is)
  (case k4 => k_is)
  (case a5 => k_is)
  (case i5 => k_is)
  (case l5 => k_is)
  (case c5 => k_is)
  (case k5 => k_is)
  (case a6 => k_is)
  (case i6 => k_is)
  (case l6 => k_is)
  (case c6 => k_is)
  (case k6 => k_is)
  (case a7 => k_is)
  (case i7 => k_is)
  (case l7 => k_is)
  (case c7 => k_is)
  (case k7 => k_is)
  (case a8 => k_is)
  (case i8 => k_is)
  (case l8 => k_is)
  (case c8 => k_is)
  (case k8 => k_is)
  (case t8 => k_is)
  (case a9 => k_is)
  (case i9 => k_is)
  (case l9 => k_is)
  (case c9 => k_is)
  (case k9 => k_is)
  (case t9 => k_is)
  (case a10 => k_is)
  (case i10 => k_is)
  (case l10 => k_is)
  (case c10 => k_is)
  (case k10 => k_is)
  (case a11 => k_is)
  (case i11 => k_is)
  (case l11 => k_is)
  (case c11 => k_is)
  (case k11 => k_is)
  (case t11 => k_is)
  (case a12 => k_is)
  (case i12 => k_is)
  (case l12 => k_is)
  (case c12 => k_is)
  (case k12 => k_is)
  (case a13 => k_is)
  (case i13 => k_is)
  (case l13 => k_is)
  (case c13 => k_is)
  (case k13 => k_is)
  (case t13 => k_is)
  (case a14 => k_is)
  (case i14 => k_is)
  (case l14 => k_is)
  (case c14 => k_is)
  (case k14 => k_is)
  (case a15 => k_is)
  (case i15 => k_is)
  (case l15 => k_is)
  (case c15 => k_is)
  (case k15 => k_is)
  (case a16 => k_is)
  (case i16 => k_is)
  (case l16 => k_is)
  (case c16 => k_is)
  (case k16 => k_is)
  (case a17 => k_is)
  (case i17 => k_is)
  (case l17 => k_is)
  (case c17 => k_is)
  (case k17 => k_is)
  (case a18 => k_is)
  (case i18 => k_is)
  (case l18 => k_is)
  (case c18 => k_is)
  (case k18 => k_is)
  (case a19 => k_is)
  (case i19 => k_is)
  (case l19 => k_is)
  (case c19 => k_is)
  (case k19 => k_is)
  (case a20 => k_is)
  (case i20 => k_is)
  (case l20 => k_is)
  (case c20 => k_is)
  (case k20 => k_is)
  (case a21 => k_is)
  (case l21 => k_is)
  (case c21 => k_is)
  (case k21 => k_is)
  (case a22 => k_is)
  (case l22 => k_is)
  (case c22 => k_is)
  (case k22 => k_is)
  (case a23 => k_is)
  (case l23 => k_is)
  (case c23 => k_is)
  (case k23 => k_is)
  (case a24 => k_is)
  (case l24 => k_is)
  (case c24 => k_is)
  (case k24 => k_is)
  (case a25 => k_is)
  (case l25 => k_is)
  (case c25 => k_is)
  (case k25 => k_is)
  (case a26 => k_is)
  (case l26 => k_is)
  (case c26 => k_is)
  (case k26 => k_is)
  (case a27 => k_is)
  (case l27 => k_is)
  (case c27 => k_is)
  (case k27 => k_is)
  (case a28 => k_is)
  (case l28 => k_is)
  (case c28 => k_is)
  (case k28 => k_is)
  (case a29 => k_is)
  (case l29 => k_is)
  (case c29 => k_is)
  (case k29 => k_is)
  (case a30 => k_is)
  (case l30 => k_is)
  (case c30 => k_is)
  (case k30 => k_is)
  (case a31 => k_is)
  (case l31 => k_is)
  (case c31 => k_is)
  (case k31 => k_is)
  (case a32 => k_is)
  (case l32 => k_is)
  (case c32 => k_is)
  (case k32 => k_is)
  (case a33 => k_is)
  (case l33 => k_is)
  (case c33 => k_is)
  (case k33 => k_is)
  (case a34 => k_is)
  (case l34 => k_is)
  (case c34 => k_is)
  (case k34 => k_is)
  (case a35 => k_is)
  (case l35 => k_is)
  (case c35 => k_is)
  (case k35 => k_is)
  (case a36 => k_is)
  (case l36 => k_is)
  (case c36 => k_is)
  (case k36 => k_is)
  (case a37 => k_is)
  (case l37 => k_is)
  (case c37 => k_is)
  (case k37 => k_is)
  (case a38 => k_is)
  (case l38 => k_is)
  (case c38 => k_is)
  (case k38 => k_is)
  (case a39 => k_is)
  (case l39 => k_is)
  (case c39 => k_is)
  (case k39 => k_is)
  (case a40 => k_is)
  (case l40 => k_is)
  (case c40 => k_is)
  (case k40 => k_is)
  (case a41 => k_is)
  (case l41 => k_is)
  (case c41 => k_is)
  (case k41 => k_is)
  (case a42 => k_is)
  (case l42 => k_is)
  (case c42 => k_is)
  (case k42 => k_is)
  (case a43 => k_is)
  (case l43 => k_is)
  (case c43 => k_is)
  (case k43 => k_is)
  (case a44 => k_is)
  (case l44 => k_is)
  (case c44 => k_is)
  (case k44 => k_is)
  (case a45 => k_is)
  (case l45 => k_is)
  (case c45 => k_is)
  (case k45 => k_is)
  (case a46 => k_is)
  (case l46 => k_is)
  (case c46 => k_is)
  (case k46 => k_is)
  (case a47 => k_is)
  (case l47 => k_is)
  (case c47 => k_is)
  (case k47 => k_is)
  (case a48 => k_is)
  (case l48 => k_is)
  (case c48 => k_is)
  (case k48 => k_is)
  (case a49 => k_is)
  (case l49 => k_is)
  (case c49 => k_is)
  (case k49 => k_is)
  (case a50 => k_is)
  (case l50 => k_is)
  (case c50 => k_is)
  (case k50 => k_is)
  (case a51 => k_is)
  (case l51 => k_is)
  (case c51 => k_is)
  (case k51 => k_is)
  (case a52 => k_is)
  (case l52 => k_is)
  (case c52 => k_is)
  (case k52 => k_is)
  (case a53 => k_is)
  (case l53 => k_is)
  (case c53 => k_is)
  (case k53 => k_is)
  (case a54 => k_is)
  (case l54 => k_is)
  (case c54 => k_is)
  (case k54 => k_is)
  (case a55 => k_is)
  (case l55 => k_is)
  (case c55 => k_is)
  (case k55 => k_is)
  (case a56 => k_is)
  (case l56 => k_is)
  (case c56 => k_is)
  (case k56 => k_is)
  (case a57 => k_is)
  (case l57 => k_is)
  (case c57 => k_is)
  (case k57 => k_is)
  (case zisinstance => k_is)
  (case zstr => k_is)
  (case zbool => k_is)
  (case zlen => k_is)
  (case zall => k_is)
  (case zrange => k_is)
  (case zlist => k_is)
  (case zenumerate => k_is)
  (case zset => k_is)
  (case zmin => k_is)
  (case zmax => k_is)
  (case zint => k_is)
  (case ztuple => k_is)
  (case zdict => k_is)
  (case zany => k_is)
  (case zreversed => k_is)
  (case gL => k_is)
  (case gN => k_is)
  (case gMP => k_is)
  (case gMB => k_is)
  (case ytP => k_is)
  (case utP => k_is)
  (case ytB => k_is)
  (case utB => k_is)
  (case ytO => k_is)
  (case utO => k_is)
  (case ysg => k_is)
  (case usg => k_is)
  (case yGr => k_is)
  (case lGr => k_is)
  (case kGr => k_keys)
  (case eG0 => k_is)
  (case eG1 => k_is)
  (case eG2 => k_is)
  (case eG3 => k_is)
  (case eG4 => k_is)
  (case dga => k_is)
  (case drd => k_is)
  (case dfc => k_is)
  (case h0_3 => k_is)
  (case h0_4 => k_is)
  (case h0_5 => k_is)
  (case h0_6 => k_is)
  (case h0_7 => k_is)
  (case h1_3 => k_is)
  (case h1_4 => k_is)
  (case h1_5 => k_is)
  (case h1_6 => k_is)
  (case h1_7 => k_is)
  (case h2_3 => k_is)
  (case h2_4 => k_is)
  (case h2_5 => k_is)
  (case h2_6 => k_is)
  (case h2_7 => k_is)
  (case h3_3 => k_is)
  (case h3_4 => k_is)
  (case h3_5 => k_is)
  (case h3_6 => k_is)
  (case h3_7 => k_is)
  (case h4_3 => k_is)
  (case h4_4 => k_is)
  (case h4_5 => k_is)
  (case h4_6 => k_is)
  (case h4_7 => k_is)
  (case xo => k_exc)
#print axioms PySem.Challenge.cw_callbinds_k54_rooms_holds
