import PyProof.Rows.All
import Wide.All
import OpenK.AllK
import Wide.FinOn
import Lean
import PyProof.EqAt
import PyProof.EqKinds
import PyProof.TupleCall
import KE.KTryMore
import PyProof.ExcAttrAll.ValueError
import KE.KRevIter
import PyProof.SetNew
import PyProof.SetRoads
import PyProof.Rows.SetObj
import PyProof.DictCompW
import PyProof.DictItems
import PyProof.Rows.SetFrom
import PyProof.ListRange
import PyProof.Rows.Range3
import KE.IntBitsLaws
import PyProof.AttrMissHeap
import PyProof.FactsAll.bool_1
import KE.KDictOf
import PyProof.WalkInts
import PyProof.P3Eq
import PyProof.Rows.SortStr
import PyProof.Rows.SortWalk
import PyProof.DictRoadsH
import PyProof.FactsAll.set
import PyProof.CollectWalk
import PyProof.CollectIter
import PyProof.NeData
import KE.RegKIsAll
import KE.RegKTryMore
import PySem.Challenge.RW_callbinds_k81_rows
set_option Elab.async false
set_option linter.all false
set_option maxRecDepth 100000
set_option maxHeartbeats 4000000
namespace L2
open PySem PySem.Spec PyProof.Rows
abbrev Key:=Sum Int Str
def keyIs:Key->Value->Bool
 | .inl k,v=>Value.isInt k v
 | .inr x,v=>Value.isStrOf x v
def keyH (w:World):Key->Int
 | .inl k=>hashInt k
 | .inr x=>hashStr w x
theorem keyIs_shape:∀ {k:Key} {v:Value},keyIs k v = true->(∃ i t,k = Sum.inl i/\v = Value.int i t)\/(∃ x t,k = Sum.inr x/\v = Value.str x t)
 | .inl i,v,h=>by
  obtain ⟨t,e⟩:=Value.isInt_shape (k:=i) (v:=v) h
  exact .inl ⟨i,t,rfl,e⟩
 | .inr x,v,h=>by
  obtain ⟨t,e⟩:=Value.isStrOf_shape (x:=x) (v:=v) h
  exact .inr ⟨x,t,rfl,e⟩
theorem keyIs_int (i:Int) (t:Tok):keyIs (.inl i) (.int i t) = true:=by simp [keyIs,Value.isInt]
theorem keyIs_str (x:Str) (t:Tok):keyIs (.inr x) (.str x t) = true:=by simp [keyIs,Value.isStrOf]
theorem key_ll (a b:Int):decide ((Sum.inl a:Key) = Sum.inl b) = (a == b):=by
 by_cases e:a = b
 ·subst e; simp
 ·have h:¬ (Sum.inl a:Key) = Sum.inl b:=fun q=>e (Sum.inl.inj q)
  rw [decide_eq_false h]
  exact (beq_eq_false_iff_ne.mpr e).symm
theorem key_rr (a b:Str):decide ((Sum.inr a:Key) = Sum.inr b) = decide (a = b):=by
 by_cases e:a = b
 ·subst e; simp
 ·have h:¬ (Sum.inr a:Key) = Sum.inr b:=fun q=>e (Sum.inr.inj q)
  rw [decide_eq_false h,decide_eq_false e]
theorem key_lr (a:Int) (b:Str):decide ((Sum.inl a:Key) = Sum.inr b) = false:=decide_eq_false (fun q=>nomatch q)
theorem key_rl (a:Str) (b:Int):decide ((Sum.inr a:Key) = Sum.inl b) = false:=decide_eq_false (fun q=>nomatch q)
def mixKind (prog:Program) (w:World):PySem.KeyKind prog w Key where
 is:=keyIs
 hash:=keyH w
 inj:=fun v a b ha hb=>by
  rcases keyIs_shape ha with ⟨i,t,rfl,rfl⟩ | ⟨x,t,rfl,rfl⟩
  ·rcases keyIs_shape hb with ⟨j,u,rfl,e⟩ | ⟨y,u,rfl,e⟩
   ·injection e with e1 _; rw [e1]
   ·exact nomatch e
  ·rcases keyIs_shape hb with ⟨j,u,rfl,e⟩ | ⟨y,u,rfl,e⟩
   ·exact nomatch e
   ·injection e with e1 _; rw [e1]
 byValue:=fun k v h=>by
  rcases keyIs_shape h with ⟨i,t,rfl,rfl⟩ | ⟨x,t,rfl,rfl⟩ <;> rfl
 pyHash:=fun hv h=>by
  rcases keyIs_shape hv with ⟨i,t,rfl,rfl⟩ | ⟨x,t,rfl,rfl⟩
  ·exact wpAny_pyHash_int h
  ·exact wpAny_pyHash_str h
 eqBool:=fun hu hv h=>by
  rcases keyIs_shape hu with ⟨i,t,rfl,rfl⟩ | ⟨x,t,rfl,rfl⟩
  ·rcases keyIs_shape hv with ⟨j,u,rfl,rfl⟩ | ⟨y,u,rfl,rfl⟩
   ·rw [key_ll] at h; exact wpAny_eqBool_int h
   ·rw [key_lr] at h; exact SeqAt.EqAt.int_str i t y u _ _ _ _ h
  ·rcases keyIs_shape hv with ⟨j,u,rfl,rfl⟩ | ⟨y,u,rfl,rfl⟩
   ·rw [key_rl] at h; exact SeqAt.EqAt.str_int x t j u _ _ _ _ h
   ·rw [key_rr] at h; exact wpAny_eqBool_str h
 «strs»:=fun k x t v h=>by
  rcases keyIs_shape h with ⟨i,u,rfl,e⟩ | ⟨y,u,rfl,e⟩
  ·exact nomatch e
  ·injection e with e1 _
   subst e1
   cases v <;> rfl
theorem mixKind_int (prog:Program) (w:World) (i:Int) (t:Tok):(mixKind prog w).is (.inl i) (.int i t) = true:=keyIs_int i t
theorem mixKind_str (prog:Program) (w:World) (x:Str) (t:Tok):(mixKind prog w).is (.inr x) (.str x t) = true:=keyIs_str x t
inductive V where
 | non | bl (b:Bool) | int (i:Int) | str (x:Str) | byt (b:Array UInt8) | flt (b:UInt64) | ref (a:Addr) | ty (n:String)
 deriving DecidableEq
def RelV:V->Value->Prop
 | .non,u=>u = Value.none
 | .bl b,u=>u = Value.bool b
 | .int i,u=>∃ t,u = Value.int i t
 | .str x,u=>∃ t,u = Value.str x t
 | .byt b,u=>∃ t,u = Value.bytes b t
 | .flt b,u=>∃ t,u = Value.float b t
 | .ref a,u=>u = Value.ref a
 | .ty n,u=>u = Value.type n
abbrev Vals:List V->List Value->Prop:=Paired RelV
theorem Vals.length {xs:List V} {us:List Value} (r:Vals xs us):xs.length = us.length:=Paired.length r
theorem Vals.get:∀ {xs:List V} {us:List Value} {i:Nat} {x:V},Vals xs us->xs[i]? = some x->∃ u,us[i]? = some u/\RelV x u
 | _,_,_,_,.nil,e=>by simp at e
 | _,_,0,_,.cons r _,e=>by simp at e; subst e; exact ⟨_,rfl,r⟩
 | _,_,i + 1,x,.cons _ t,e=>by
  obtain ⟨u,h1,h2⟩:=Vals.get (i:=i) (x:=x) t (by simpa using e)
  exact ⟨u,by simpa using h1,h2⟩
theorem Vals.append:∀ {xs ys:List V} {us ws:List Value},Vals xs us->Vals ys ws->Vals (xs ++ ys) (us ++ ws)
 | _,_,_,_,.nil,s=>s
 | _,_,_,_,.cons r t,s=>.cons r (Vals.append t s)
theorem Vals.take:∀ {xs:List V} {us:List Value} (n:Nat),Vals xs us->Vals (xs.take n) (us.take n)
 | _,_,0,_=>.nil
 | _,_,_ + 1,.nil=>.nil
 | _,_,n + 1,.cons r t=>.cons r (Vals.take n t)
theorem Vals.drop:∀ {xs:List V} {us:List Value} (n:Nat),Vals xs us->Vals (xs.drop n) (us.drop n)
 | _,_,0,r=>r
 | _,_,_ + 1,.nil=>.nil
 | _,_,n + 1,.cons _ t=>Vals.drop n t
def RelO:Option V->Option Value->Prop
 | some v,some u=>RelV v u
 | none,none=>True
 | _,_=>False
def KV {κ : Type}:List (κ × V)->List (κ × Value)->Prop:=Paired fun (p : κ × V) (q : κ × Value)=>p.1 = q.1/\RelV p.2 q.2
def kV:Key->V
 | .inl i=>.int i
 | .inr x=>.str x
inductive HO where
 | lst (xs:List V)
 | tup (xs:List V)
 | dK (kvs:List (Key × V)) | dT (kvs:List (List Key × V))
 | set (S:Int->Bool) (n:Nat)
 | ins (C dx:Addr) (fs:List (Str × V))
 | own (x:Addr)
 | xd (fs:List (Str × V))
 | met (f x:Addr)
 | rng (lo hi:Int)
 | frz (o:Obj) (u:HO)
 | tbl (ps:Array Value)
 | ext (φ : Heap->Prop)
abbrev Hp:=Addr->Option HO
def upd (H:Hp) (a:Addr) (o:HO):Hp:=fun b=>if b = a then some o else H b
theorem upd_same {H:Hp} {a:Addr} {o:HO}:upd H a o a = some o:=by unfold upd; rw [if_pos rfl]
theorem upd_ne {H:Hp} {a b:Addr} {o:HO} (h:b ≠ a):upd H a o b = H b:=by unfold upd; rw [if_neg h]
theorem upd_upd {H:Hp} {a:Addr} {o u:HO}:upd (upd H a o) a u = upd H a u:=by
 funext b; unfold upd; split <;> rfl
theorem ne_of {H:Hp} {a b:Addr} {o u:HO} (h:H a = some o) (h':H b = some u) (d:o ≠ u):a ≠ b:=by
 intro e; subst e; rw [h] at h'; exact d (Option.some.inj h')
theorem ne_of_none {H:Hp} {a b:Addr} {o:HO} (h:H a = some o) (h':H b = none):a ≠ b:=by
 intro e; subst e; rw [h] at h'; cases h'
section
variable (P:Program) (w:World)
def ObjOk (H:Hp) (h:Heap) (a:Addr):HO->Prop
 | .lst xs=>xs.length<=sizeLine/\∃ (its:List Value) (n:Nat),Vals xs its/\h.get? a = some { cls:=.type "list",data:=.seq its.toArray n }
 | .tup xs=>xs.length<=sizeLine/\∃ its:List Value,Vals xs its/\IsTup h a its.toArray
 | .dK kvs=>kvs.length<=sizeLine/\(a == sysModules) = false/\∃ vs,KV kvs vs/\h.DictOf (mixKind P w) a vs
 | .dT kvs=>kvs.length<=sizeLine/\(a == sysModules) = false/\∃ xs:List (List Key × Addr × Value),
   Paired (fun (p:List Key × V) (q:List Key × Addr × Value)=>p.1 = q.1/\H q.2.1 = some (.tup (p.1.map kV))/\RelV p.2 q.2.2) kvs xs/\
   ∃ o es ep,h.get? a = some o/\o.ExactDict/\o.data = .dict es ep/\es.toList = xs.map (entryOfKey (tupleKind (mixKind P w)))/\(xs.map (·.1)).Nodup
 | .set S n=>h.SetOf (intKind P w) a S n
 | .ins C dx fs=>H dx = some (.own a)/\fs.length<=1000/\dx ≠ a/\h.get? a = some (PySem.W.instObj C dx)/\
   ∃ mA,h.Ns1 dx mA/\(∀ f,RelO (fs.lookup f) (mA f))/\PySem.Within mA (fs.map (·.1))
 | .own _=>∃ o,h.get? a = some o
 | .xd fs=>∃ mA,h.Ns1 a mA/\∀ f,RelO (fs.lookup f) (mA f)
 | .rng lo hi=>∃ t u v,h.get? a = some { cls:=.type "range",data:=.fields #[.int lo t,.int hi u,.int 1 v] }
 | .frz o u=>h.get? a = some o/\ObjOk H h a u
 | .tbl ps=>h.get? a = some { cls:=.none,data:=.fields ps }
 | .met f x=>h.get? a = some (PySem.W.methodObj (.ref f) (.ref x))
 | .ext φ=>φ h/\(∃ o,h.get? a = some o)/\∀ h1 h2:Heap,φ h1->(∀ o,h1.get? a = some o->h2.get? a = some o)->φ h2
def HOk (H:Hp) (h:Heap):Prop:=∀ a o,H a = some o->ObjOk P w H h a o
end
section
variable {P:Program} {w:World} {H H':Hp} {h h':Heap} {a:Addr} {o:HO}
theorem ObjOk.lt (x:ObjOk P w H h a o):a < h.objs.size:=by
 cases o with
 | lst xs=>obtain ⟨_,_,_,_,e⟩:=x; exact Heap.lt_size e
 | tup xs=>obtain ⟨_,_,_,p⟩:=x; exact p.lt
 | dK kvs=>obtain ⟨_,_,_,_,o,_,_,e,_⟩:=x; exact Heap.lt_size e
 | dT kvs=>obtain ⟨_,_,_,_,o,_,_,e,_⟩:=x; exact Heap.lt_size e
 | set S n=>obtain ⟨o,_,_,_,e,_⟩:=x; exact Heap.lt_size e
 | ins C dx fs=>obtain ⟨_,_,_,e,_⟩:=x; exact Heap.lt_size e
 | own y=>obtain ⟨_,e⟩:=x; exact Heap.lt_size e
 | xd fs=>obtain ⟨_,⟨_,_,_,e,_⟩,_⟩:=x; exact Heap.lt_size e
 | rng lo hi=>obtain ⟨_,_,_,e⟩:=x; exact Heap.lt_size e
 | frz ob u=>obtain ⟨e,_⟩:=x; exact Heap.lt_size e
 | tbl ps=>exact Heap.lt_size (show h.get? a = some _ from x)
 | met f y=>exact Heap.lt_size (show h.get? a = some _ from x)
 | ext φ=>obtain ⟨_,⟨_,e⟩,_⟩:=x; exact Heap.lt_size e
theorem Paired.mapP {α β : Type} {F G : α->β->Prop}:∀ {l₁:List α} {l₂:List β},Paired F l₁ l₂->(∀ a b,F a b->G a b)->Paired G l₁ l₂
 | _,_,.nil,_=>.nil
 | _,_,.cons r t,f=>.cons (f _ _ r) (Paired.mapP t f)
theorem Paired.imp' {α β : Type} {F G : α->β->Prop} (f:∀ a b,F a b->G a b) {l₁:List α} {l₂:List β} (r:Paired F l₁ l₂):Paired G l₁ l₂:=Paired.mapP r f
theorem ObjOk.stay (x:ObjOk P w H h a o) (k:∀ b u,(b = a\/H b = some (.own a))->h.get? b = some u->h'.get? b = some u)
  (ho:∀ b,H b = some (.own a)->H' b = some (.own a)) (ht:∀ b xs,H b = some (.tup xs)->H' b = some (.tup xs)):ObjOk P w H' h' a o:=by
 induction o with
 | lst xs=>obtain ⟨z,its,n,r,e⟩:=x; exact ⟨z,its,n,r,k _ _ (.inl rfl) e⟩
 | tup xs=>obtain ⟨z,its,r,ob,e,c⟩:=x; exact ⟨z,its,r,ob,k _ _ (.inl rfl) e,c⟩
 | dK kvs=>obtain ⟨z,y,vs,r,ob,es,ep,e,c⟩:=x; exact ⟨z,y,vs,r,ob,es,ep,k _ _ (.inl rfl) e,c⟩
 | dT kvs=>
  obtain ⟨z,y,xs,r,ob,es,ep,e,c⟩:=x
  exact ⟨z,y,xs,Paired.mapP r fun p q z=>⟨z.1,ht _ _ z.2.1,z.2.2⟩,ob,es,ep,k _ _ (.inl rfl) e,c⟩
 | set S n=>obtain ⟨ob,es,ep,t,e,c⟩:=x; exact ⟨ob,es,ep,t,k _ _ (.inl rfl) e,c⟩
 | ins C dx fs=>
  obtain ⟨d,z,ne,e,mA,⟨od,es,ep,e2,c⟩,r⟩:=x
  exact ⟨ho _ d,z,ne,k _ _ (.inl rfl) e,mA,⟨od,es,ep,k _ _ (.inr d) e2,c⟩,r⟩
 | own y=>obtain ⟨ob,e⟩:=x; exact ⟨ob,k _ _ (.inl rfl) e⟩
 | xd fs=>obtain ⟨mA,⟨od,es,ep,e,c⟩,r⟩:=x; exact ⟨mA,⟨od,es,ep,k _ _ (.inl rfl) e,c⟩,r⟩
 | rng lo hi=>obtain ⟨t,u,v,e⟩:=x; exact ⟨t,u,v,k _ _ (.inl rfl) e⟩
 | frz ob u ih=>obtain ⟨e,q⟩:=x; exact ⟨k _ _ (.inl rfl) e,ih q⟩
 | tbl ps=>
  have e:h.get? a = some { cls:=.none,data:=.fields ps }:=x
  show h'.get? a = some { cls:=.none,data:=.fields ps }
  exact k a _ (.inl rfl) e
 | met f y=>
  have e:h.get? a = some (PySem.W.methodObj (.ref f) (.ref y)):=x
  show h'.get? a = some (PySem.W.methodObj (.ref f) (.ref y))
  exact k a _ (.inl rfl) e
 | ext φ=>obtain ⟨p,⟨o,e⟩,st⟩:=x; exact ⟨st _ _ p fun o q=>k _ _ (.inl rfl) q,⟨o,k _ _ (.inl rfl) e⟩,st⟩
theorem HOk.lt (x:HOk P w H h) (e:H a = some o):a < h.objs.size:=(x a o e).lt
theorem HOk.fresh (x:HOk P w H h) (e:h.objs.size<=a):H a = none:=by
 cases q:H a with
 | none=>rfl
 | some u=>exact absurd (Nat.lt_of_lt_of_le (x.lt q) e) (Nat.lt_irrefl _)
theorem HOk.kept (x:HOk P w H h) (k:∀ b u,h.get? b = some u->h'.get? b = some u):HOk P w H h':=fun a o e=>
 (x a o e).stay (fun b u _ q=>k b u q) (fun _ q=>q) fun _ _ q=>q
theorem HOk.laid (x:HOk P w H h) (k:∀ b u,h.get? b = some u->h'.get? b = some u) (hp:h.objs.size<=a) (new:ObjOk P w (upd H a o) h' a o):HOk P w (upd H a o) h':=fun b u e=>by
 have hn:=x.fresh hp
 by_cases hb:b = a
 ·subst hb; rw [upd_same] at e; cases e; exact new
 ·rw [upd_ne hb] at e
  exact (x b u e).stay (fun c v _ q=>k c v q) (fun c q=>by rw [upd_ne (ne_of_none q hn)]; exact q) fun c xs q=>by rw [upd_ne (ne_of_none q hn)]; exact q
end
def Rd (H:Hp) (a:Addr) (u:HO):Prop:=H a = some u\/∃ o,H a = some (.frz o u)
theorem Rd.ok {P:Program} {w:World} {H:Hp} {h:Heap} {a:Addr} {u:HO} (r:Rd H a u) (x:HOk P w H h):ObjOk P w H h a u:=by
 rcases r with r | ⟨o,r⟩
 ·exact x a u r
 ·obtain ⟨_,q⟩:=x a _ r
  exact q
def Mut:Option HO->Prop
 | some (.lst _)=>True
 | some (.dK _)=>True
 | some (.dT _)=>True
 | some (.set _ _)=>True
 | some (.ins _ _ _)=>True
 | some (.ext _)=>True
 | _=>False
section
variable {P:Program} {w:World} {H:Hp} {h h':Heap} {x e:Addr} {o':HO}
theorem HOk.write (ok:HOk P w H h) (mu:Mut (H x)) (he:e = x\/H e = some (.own x)) (k:∀ b u,b ≠ e->h.get? b = some u->h'.get? b = some u) (heo:∃ u,h'.get? e = some u)
  (new:ObjOk P w (upd H x o') h' x o'):HOk P w (upd H x o') h':=fun b u q=>by
 have nown:∀ c y,H c = some (.own y)->c ≠ x:=fun c y r z=>by subst z; rw [r] at mu; exact mu
 have ntup:∀ c xs,H c = some (.tup xs)->c ≠ x:=fun c xs r z=>by subst z; rw [r] at mu; exact mu
 by_cases hb:b = x
 ·subst hb; rw [upd_same] at q; cases q; exact new
 ·rw [upd_ne hb] at q
  by_cases hbe:b = e
  ·have q':H b = some (.own x):=by
    rcases he with z | z
    ·exact absurd (hbe.trans z) hb
    ·rw [hbe]; exact z
   rw [q] at q'; cases q'
   obtain ⟨v,hv⟩:=heo
   exact ⟨v,by rw [hbe]; exact hv⟩
  ·refine (ok b u q).stay (fun c v hc r=>k c v ?_ r) (fun c r=>by rw [upd_ne (nown c b r)]; exact r) fun c xs r=>by rw [upd_ne (ntup c xs r)]; exact r
   rcases hc with rfl | hc
   ·exact hbe
   ·rintro rfl
    rcases he with z | z
    ·exact nown c b hc z
    ·rw [hc] at z; cases z; exact hb rfl
end
structure Un (fs ex:List Addr) (H H':Hp) (h h':Heap):Prop where
 keep:∀ b o,h.get? b = some o->H b = none->b ∉ fs->b ∉ ex->h'.get? b = some o
 slot:∀ b o,h.get? b = some o->H b = none->b ∈ fs->b ∉ ex->∃ sl,h'.get? b = some { o with slots:=sl }
 free:∀ b o,h.get? b = some o->H b = none->b ∉ ex->H' b = none
 there:∀ b o,h.get? b = some o->b ∉ ex->∃ o',h'.get? b = some o'
 tups:∀ b xs,H b = some (.tup xs)->H' b = some (.tup xs)
 frzs:∀ b o u,H b = some (.frz o u)->H' b = some (.frz o u)
 tbls:∀ b ps,H b = some (.tbl ps)->∃ more,H' b = some (.tbl (ps ++ more))
section
variable {fs fs' ex ex':List Addr} {H H1 H2:Hp} {h h1 h2 h':Heap} {a x e:Addr} {o:HO}
theorem Un.any (u:Un fs ex H H1 h h1) {b:Addr} {ob:Obj} (q:h.get? b = some ob) (n:H b = none) (hx:b ∉ ex):∃ sl,h1.get? b = some { ob with slots:=sl }:=by
 by_cases hb:b ∈ fs
 ·exact u.slot b ob q n hb hx
 ·exact ⟨ob.slots,u.keep b ob q n hb hx⟩
theorem Un.kept (k:∀ b u,h.get? b = some u->h'.get? b = some u):Un fs ex H H h h':=
 ⟨fun b ob q _ _ _=>k b ob q,fun b ob q _ _ _=>⟨ob.slots,k b ob q⟩,fun _ _ _ n _=>n,fun b ob q _=>⟨ob,k b ob q⟩,fun _ _ q=>q,fun _ _ _ q=>q,fun _ ps q=>⟨#[],by rw [q]; simp⟩⟩
theorem Un.refl:Un fs ex H H h h:=Un.kept fun _ _ q=>q
theorem Un.laid (k:∀ b u,h.get? b = some u->h'.get? b = some u) (hp:h.objs.size<=a) (hn:H a = none):Un fs ex H (upd H a o) h h' where
 keep:=fun b u q _ _ _=>k b u q
 slot:=fun b u q _ _ _=>⟨u.slots,k b u q⟩
 free:=fun b u q n _=>by rw [upd_ne (Nat.ne_of_lt (Nat.lt_of_lt_of_le (Heap.lt_size q) hp))]; exact n
 there:=fun b u q _=>⟨u,k b u q⟩
 tups:=fun b xs q=>by rw [upd_ne (ne_of_none q hn)]; exact q
 frzs:=fun b u xs q=>by rw [upd_ne (ne_of_none q hn)]; exact q
 tbls:=fun b ps q=>⟨#[],by rw [upd_ne (ne_of_none q hn),q]; simp⟩
theorem Un.write (mu:Mut (H x)) (he:e = x\/H e = some (.own x)) (k:∀ b u,b ≠ e->h.get? b = some u->h'.get? b = some u) (heo:∃ u,h'.get? e = some u):Un fs ex H (upd H x o) h h':=by
 have hx:∀ b,H b = none->b ≠ x:=fun b n z=>by subst z; rw [n] at mu; exact mu
 have hb:∀ b,H b = none->b ≠ e:=fun b n z=>by
  subst z
  rcases he with r | r
  ·exact hx b n r
  ·rw [n] at r; cases r
 have hm:∀ b u,H b = some u->¬ Mut (some u)->b ≠ x:=fun b u q nm z=>by subst z; rw [q] at mu; exact nm mu
 refine ⟨fun b u q n _ _=>k b u (hb b n) q,fun b u q n _ _=>⟨u.slots,k b u (hb b n) q⟩,fun b u q n _=>by rw [upd_ne (hx b n)]; exact n,fun b u q _=>?_,
  fun b xs q=>by rw [upd_ne (hm b _ q fun z=>z)]; exact q,fun b u xs q=>by rw [upd_ne (hm b _ q fun z=>z)]; exact q,fun b ps q=>⟨#[],by rw [upd_ne (hm b _ q fun z=>z),q]; simp⟩⟩
 by_cases hbe:b = e
 ·subst hbe; exact heo
 ·exact ⟨u,k b u hbe q⟩
end
def trk (h:Heap) (H:Hp):List Addr:=(List.range h.objs.size).filter fun a=>(H a).isSome
def hidT (h:Heap) (H:Hp):Heap:=PySem.W.hideAll h (trk h H)
theorem hidT_size (h:Heap) (H:Hp):(hidT h H).objs.size = h.objs.size:=PySem.W.hideAll_size _ _
theorem hidT_get {h:Heap} {H:Hp} {b:Addr} {o:Obj} (e:h.get? b = some o) (n:H b = none):(hidT h H).get? b = some o:=
 PySem.W.hideAll_get _ e fun hm=>by
  have q:(H b).isSome = true:=(List.mem_filter.mp hm).2
  rw [n] at q; simp at q
theorem of_hidT {h:Heap} {H:Hp} {b:Addr} {o:Obj} (e:(hidT h H).get? b = some o):h.get? b = some o/\H b = none:=by
 have e':h.get? b = some o:=PySem.W.of_hideAll (trk h H) e
 refine ⟨e',?_⟩
 cases q:H b with
 | none=>rfl
 | some x=>
  have hm:b ∈ trk h H:=List.mem_filter.mpr ⟨List.mem_range.mpr (Heap.lt_size e'),by simp [q]⟩
  have z:(hidT h H).get? b = none:=PySem.W.hideAll_none (trk h H) hm
  rw [z] at e; cases e
def allNews (g h:Heap) (L:Addr):List (Addr × Obj):=(List.range h.objs.size).filterMap fun a=>if a = L\/(g.get? a).isSome = true then none else (h.get? a).map fun o=>(a,o)
def rest (g h:Heap) (L d:Addr):List (Addr × Obj):=(allNews g h L).filter fun p=>decide (p.1 ≠ d)
structure Mod (K:PySem.W.Frag) (mg:Str->Option Value) (base:Heap):Prop where
 kin:K.In base
 glob:base.Ns mainGlobals mg
 blt:∃ mb,base.Ns builtinsNs mb/\∀ x:Str,x ≠ "__name__"->mb x = bootBuiltins x
 nolimit:base.NoLimit
structure Cx where
 prog:Program
 w:World
 K:PySem.W.Frag
 mg:Str->Option Value
 base:Heap
 A:Around
 N:List Str
 s₀:Shared
 H₀:Hp
 env:Env
 outer:List Env
 stack:List Env
 ex:List Addr
 fn:Str->Bool
 calm:Bool
 pn:List (Addr × Obj)
 xe:Value->Shared->Prop
def frs (l:List Env):List Addr:=l.filterMap (·.frame)
abbrev Cx.fs (X:Cx):List Addr:=frs X.outer
def Vis (sc:Scope) (x:Str):Prop:=sc.names.lookup x = some .local\/sc.names.lookup x = some .cell\/sc.names.lookup x = some .free
def Loc (sc:Scope) (x:Str):Prop:=sc.names.lookup x = some .local\/sc.names.lookup x = some .cell
def Look (env:Env) (h:Heap) (m:Str->Option Value) (x:Str) (u:Value):Prop:=
 (env.kindOf x = some .local/\m x = some u)\/((env.kindOf x = some .cell\/env.kindOf x = some .free)/\∃ c,env.cells.lookup x = some c/\h.IsCell c (some u))
structure Cx.Ok (X:Cx):Prop where
 mod:Mod X.K X.mg X.base
 kind:X.env.scope.kind = .function
 glob:X.env.globals = mainGlobals
 blt:X.env.builtins = builtinsNs
 above:X.s₀.heap.objs.size<=X.env.locals
 inj:∀ x y c,X.env.cells.lookup x = some c->X.env.cells.lookup y = some c->x = y
 has:∀ x,(X.env.kindOf x = some .cell\/X.env.kindOf x = some .free)->∃ c,X.env.cells.lookup x = some c
 cab:∀ x c,X.fn x = true->X.env.cells.lookup x = some c->X.s₀.heap.objs.size<=c
 hd:X.calm = true->X.A.handled = none
 frames:X.A.frames = some X.stack
 stk:X.stack = X.outer\/(X.stack = X.env :: X.outer/\X.env.frame = some X.env.locals)
 exf:∀ b ∈ X.ex,b ≠ X.env.locals/\∀ x c,X.env.cells.lookup x = some c->c ≠ b
 bs:∀ b o,X.base.get? b = some o->X.s₀.heap.get? b = some o/\X.H₀ b = none
 bsz:X.base.objs.size<=X.s₀.heap.objs.size
 noex:∀ b o,X.base.get? b = some o->b ∉ X.ex
 exfs:∀ b ∈ X.ex,b ∉ X.fs
 funs:X.s₀.heap.FunFrames X.base X.outer
 frf:∀ b ∈ X.fs,X.H₀ b = none
structure Inv (X:Cx) (pins:List (Addr × Obj)) (σ : List (Option V)) (H:Hp) (s:Shared):Prop where
 ok:X.Ok
 os:s.os = X.s₀.os
 bare:AllBare s.gens
 base:Un X.fs X.ex X.H₀ H X.s₀.heap s.heap
 loc:∃ m,s.heap.Ns X.env.locals m/\∀ (i:Nat) (x:Str) (v:V),X.N[i]? = some x->σ[i]? = some (some v)->Vis X.env.scope x->∃ u,RelV v u/\Look X.env s.heap m x u
 cell:∀ x c,X.env.cells.lookup x = some c->∃ v,s.heap.IsCell c v
 free:H X.env.locals = none
 freeC:∀ x c,X.env.cells.lookup x = some c->H c = none
 pin:∀ p ∈ X.pn ++ pins,s.heap.get? p.1 = some p.2/\H p.1 = none/\p.1 ≠ X.env.locals/\p.1 ∉ X.fs/\∀ v,p.2.data ≠ .cell v
 hok:HOk X.prog X.w H s.heap
 len : σ.length = X.N.length
section
variable {X:Cx} {pins:List (Addr × Obj)} {σ : List (Option V)} {H H':Hp} {s:Shared} {h':Heap}
theorem Cx.Ok.nofr (ok:X.Ok) {b:Addr} {o:Obj} (e:X.base.get? b = some o):b ∉ X.fs:=fun hb=>by
 have:=(ok.funs.mem hb).1
 rw [e] at this; cases this
theorem Inv.bs (I:Inv X pins σ H s):∀ b o,X.base.get? b = some o->s.heap.get? b = some o/\H b = none:=fun b o e=>
 ⟨I.base.keep b o (I.ok.bs b o e).1 (I.ok.bs b o e).2 (I.ok.nofr e) (I.ok.noex b o e),I.base.free b o (I.ok.bs b o e).1 (I.ok.bs b o e).2 (I.ok.noex b o e)⟩
theorem Inv.bk (I:Inv X pins σ H s):∀ b o,X.base.get? b = some o->s.heap.get? b = some o:=fun b o e=>(I.bs b o e).1
theorem Inv.mod (I:Inv X pins σ H s):Mod X.K X.mg X.base:=I.ok.mod
theorem Inv.kIn (I:Inv X pins σ H s):X.K.In s.heap:=I.ok.mod.kin.keeps I.bk
theorem Inv.fr (I:Inv X pins σ H s):∃ m,Fr X.base X.env.locals s.heap m:=
 let ⟨m,hn,_⟩:=I.loc
 ⟨m,hn,I.bk,Nat.le_trans I.ok.bsz I.ok.above⟩
theorem Inv.lt (I:Inv X pins σ H s):X.env.locals < s.heap.objs.size:=let ⟨_,hn,_⟩:=I.loc; hn.lt
theorem Inv.sz (I:Inv X pins σ H s):X.s₀.heap.objs.size<=s.heap.objs.size:=Nat.le_trans I.ok.above (Nat.le_of_lt I.lt)
theorem Inv.nofs (I:Inv X pins σ H s) {a:Addr} (h:s.heap.objs.size<=a):a ∉ X.fs:=fun hb=>by
 obtain ⟨_,o,ho,_⟩:=I.ok.funs.mem hb
 exact absurd (Nat.lt_of_lt_of_le (Heap.lt_size ho) (Nat.le_trans I.sz h)) (Nat.lt_irrefl _)
theorem Inv.cne (I:Inv X pins σ H s):∀ x c,X.env.cells.lookup x = some c->c ≠ X.env.locals:=fun x c e z=>by
 obtain ⟨v,o,ho,hd⟩:=I.cell x c e
 obtain ⟨m,⟨o',es,ep,ho',hd',_⟩,_⟩:=I.loc
 rw [z,ho'] at ho; cases ho; rw [hd'] at hd; cases hd
theorem Inv.funs (I:Inv X pins σ H s):s.heap.FunFrames X.base X.outer:=by
 have all:∀ (l:List Env),(∀ b ∈ frs l,b ∈ X.fs)->X.s₀.heap.FunFrames X.base l->s.heap.FunFrames X.base l:=by
  intro l
  induction l with
  | nil=>intro _ _; trivial
  | cons env r ih=>
   intro hs hl
   obtain ⟨hk,⟨L,o,hf,hn,ho,hd⟩,hr⟩:=hl
   have hL:L ∈ X.fs:=hs L (by unfold frs; rw [List.filterMap_cons,hf]; exact List.mem_cons_self)
   obtain ⟨sl,e⟩:=I.base.slot L o ho (I.ok.frf L hL) hL fun z=>I.ok.exfs L z hL
   exact ⟨hk,⟨L,_,hf,hn,e,hd⟩,ih (fun b hb=>hs b (by unfold frs; rw [List.filterMap_cons,hf]; exact List.mem_cons_of_mem _ hb)) hr⟩
 exact all X.outer (fun _ hb=>hb) I.ok.funs
theorem Inv.stack (I:Inv X pins σ H s):s.heap.FunFrames X.base X.stack:=by
 rcases I.ok.stk with e | ⟨e,hf⟩
 ·rw [e]; exact I.funs
 ·rw [e]
  obtain ⟨m,hn,_⟩:=I.loc
  refine .cons (by rw [I.ok.kind]; decide) hf hn ?_ I.funs
  exact Heap.get?_none_of_le (Nat.le_trans I.ok.bsz I.ok.above)
theorem Inv.stkSub (I:Inv X pins σ H s):∀ b ∈ frs X.stack,b ∈ X.env.locals :: X.fs:=fun b hb=>by
 rcases I.ok.stk with e | ⟨e,hf⟩
 ·rw [e] at hb; exact List.mem_cons_of_mem _ hb
 ·rw [e] at hb
  unfold frs at hb
  rw [List.filterMap_cons,hf] at hb
  exact hb
theorem Inv.stkFree (I:Inv X pins σ H s):∀ b ∈ frs X.stack,H b = none:=fun b hb=>by
 rcases List.mem_cons.mp (I.stkSub b hb) with e | hb
 ·rw [e]; exact I.free
 ·obtain ⟨_,o,ho,_⟩:=I.ok.funs.mem hb
  exact I.base.free b o ho (I.ok.frf b hb) fun z=>I.ok.exfs b z hb
theorem Inv.step {g':Array GenState} {t':Nat} {d':Drawn} {ch:List Addr} (I:Inv X pins σ H s)
  (hch:∀ b ∈ ch,(b ∈ X.ex\/X.s₀.heap.objs.size<=b)/\b ≠ X.env.locals/\(∀ x c,X.env.cells.lookup x = some c->c ≠ b)/\∀ p ∈ X.pn ++ pins,p.1 ≠ b)
  (keep:∀ b o,b ≠ X.env.locals->b ∉ X.fs->b ∉ ch->s.heap.get? b = some o->H b = none->h'.get? b = some o)
  (slot:∀ b o,b ≠ X.env.locals->b ∈ X.fs->b ∉ ch->s.heap.get? b = some o->H b = none->∃ sl,h'.get? b = some { o with slots:=sl }) (free:∀ b o,b ∉ ch->s.heap.get? b = some o->H b = none->H' b = none)
  (there:∀ b o,b ∉ ch->s.heap.get? b = some o->∃ o',h'.get? b = some o')
  (tups:∀ b xs,H b = some (.tup xs)->H' b = some (.tup xs)) (frzs:∀ b o u,H b = some (.frz o u)->H' b = some (.frz o u)) (tbls:∀ b ps,H b = some (.tbl ps)->∃ more,H' b = some (.tbl (ps ++ more)))
  (ns:∀ m,s.heap.Ns X.env.locals m->h'.Ns X.env.locals m) (hok:HOk X.prog X.w H' h') (hg:AllBare g') :
  Inv X pins σ H' { s with heap:=h',gens:=g',drawn:=d',toks:=t' }:=by
 have neL:∀ b o,X.s₀.heap.get? b = some o->b ≠ X.env.locals:=fun b o e=>Nat.ne_of_lt (Nat.lt_of_lt_of_le (Heap.lt_size e) I.ok.above)
 have neC:∀ b o,X.s₀.heap.get? b = some o->b ∉ X.ex->b ∉ ch:=fun b o e hx hb=>by
  rcases (hch b hb).1 with z | z
  ·exact hx z
  ·exact absurd (Nat.lt_of_lt_of_le (Heap.lt_size e) z) (Nat.lt_irrefl _)
 have cellK:∀ x c,X.env.cells.lookup x = some c->∀ v,s.heap.IsCell c v->h'.IsCell c v:=fun x c e v ⟨o,ho,hd⟩=>by
  have nch:c ∉ ch:=fun z=>(hch c z).2.2.1 x c e rfl
  by_cases hc:c ∈ X.fs
  ·obtain ⟨sl,q⟩:=slot c o (I.cne x c e) hc nch ho (I.freeC x c e)
   exact ⟨_,q,hd⟩
  ·exact ⟨o,keep c o (I.cne x c e) hc nch ho (I.freeC x c e),hd⟩
 refine ⟨I.ok,I.os,hg,⟨fun b o e n hb hx=>?_,fun b o e n hb hx=>?_,fun b o e n hx=>?_,fun b o e hx=>?_,fun b xs e=>tups b xs (I.base.tups b xs e),fun b o xs e=>frzs b o xs (I.base.frzs b o xs e),fun b ps e=>?_⟩,?_,fun x c e=>?_,?_,fun x c e=>?_,fun p hp=>?_,hok,I.len⟩
 ·exact keep b o (neL b o e) hb (neC b o e hx) (I.base.keep b o e n hb hx) (I.base.free b o e n hx)
 ·obtain ⟨sl,e1⟩:=I.base.slot b o e n hb hx
  obtain ⟨sl',e2⟩:=slot b _ (neL b o e) hb (neC b o e hx) e1 (I.base.free b o e n hx)
  exact ⟨sl',e2⟩
 ·obtain ⟨o',e1⟩:=I.base.there b o e hx
  exact free b o' (neC b o e hx) e1 (I.base.free b o e n hx)
 ·obtain ⟨o',e1⟩:=I.base.there b o e hx
  exact there b o' (neC b o e hx) e1
 ·obtain ⟨m1,e1⟩:=I.base.tbls b ps e
  obtain ⟨m2,e2⟩:=tbls b _ e1
  exact ⟨m1 ++ m2,by rw [e2,Array.append_assoc]⟩
 ·obtain ⟨m,hn,hl⟩:=I.loc
  refine ⟨m,ns m hn,fun i x v e1 e2 e3=>?_⟩
  obtain ⟨u,r,l⟩:=hl i x v e1 e2 e3
  refine ⟨u,r,?_⟩
  rcases l with l | ⟨k,c,e,z⟩
  ·exact .inl l
  ·exact .inr ⟨k,c,e,cellK x c e _ z⟩
 ·obtain ⟨v,z⟩:=I.cell x c e
  exact ⟨v,cellK x c e v z⟩
 ·obtain ⟨m,⟨o,_,_,ho,_⟩,_⟩:=I.loc
  exact free _ o (fun z=>(hch _ z).2.1 rfl) ho I.free
 ·obtain ⟨v,o,ho,hd⟩:=I.cell x c e
  exact free c o (fun z=>(hch c z).2.2.1 x c e rfl) ho (I.freeC x c e)
 ·obtain ⟨e,n,ne,nf,d⟩:=I.pin p hp
  have nch:p.1 ∉ ch:=fun z=>(hch p.1 z).2.2.2 p hp rfl
  exact ⟨keep p.1 p.2 ne nf nch e n,free p.1 p.2 nch e n,ne,nf,d⟩
theorem Inv.un {t':Nat} (I:Inv X pins σ H s) (u:Un X.fs [] H H' s.heap h') (hok:HOk X.prog X.w H' h'):Inv X pins σ H' { s with heap:=h',toks:=t' }:=by
 obtain ⟨m,⟨o,es,ep,ho,r⟩,_⟩:=id I.loc
 obtain ⟨sl,hL⟩:=u.any ho I.free (by simp)
 exact I.step (g':=s.gens) (d':=s.drawn) (ch:=[]) (fun _ z=>nomatch z) (fun b o _ hb _ e n=>u.keep b o e n hb (by simp)) (fun b o _ hb _ e n=>u.slot b o e n hb (by simp)) (fun b o _ e n=>u.free b o e n (by simp)) (fun b o _ e=>u.there b o e (by simp)) u.tups u.frzs u.tbls (fun m' hm=>by
  obtain ⟨o',es',ep',ho',r'⟩:=hm
  rw [ho] at ho'; cases ho'
  exact ⟨_,es',ep',hL,r'⟩) hok I.bare
theorem Inv.call {g':Array GenState} {t':Nat} {d':Drawn} {ch:List Addr} (I:Inv X pins σ H s) (u:Un (frs X.stack) ch H H' s.heap h') (hok:HOk X.prog X.w H' h') (hg:AllBare g')
  (hch:∀ b ∈ ch,(b ∈ X.ex\/X.s₀.heap.objs.size<=b)/\b ≠ X.env.locals/\(∀ x c,X.env.cells.lookup x = some c->c ≠ b)/\∀ p ∈ X.pn ++ pins,p.1 ≠ b) :
  Inv X pins σ H' { s with heap:=h',gens:=g',drawn:=d',toks:=t' }:=by
 obtain ⟨m,⟨o,es,ep,ho,r⟩,_⟩:=id I.loc
 obtain ⟨sl,hL⟩:=u.any ho I.free fun z=>(hch _ z).2.1 rfl
 exact I.step (ch:=ch) hch (fun b o hL hb hc e n=>u.keep b o e n (fun z=>(List.mem_cons.mp (I.stkSub b z)).elim hL hb) hc) (fun b o _ _ hc e n=>u.any e n hc) (fun b o hc e n=>u.free b o e n hc) (fun b o hc e=>u.there b o e hc) u.tups u.frzs u.tbls (fun m' hm=>by
  obtain ⟨o',es',ep',ho',r'⟩:=hm
  rw [ho] at ho'; cases ho'
  exact ⟨_,es',ep',hL,r'⟩) hok hg
theorem Inv.turned {t':Nat} {it:Addr} (I:Inv X pins σ H s) (k:∀ b o,b ≠ it->s.heap.get? b = some o->h'.get? b = some o) (hn:H it = none) (hL:it ≠ X.env.locals)
  (h1:it ∈ X.ex\/X.s₀.heap.objs.size<=it) (h2:∀ x c,X.env.cells.lookup x = some c->c ≠ it) (h3:∀ p ∈ X.pn ++ pins,p.1 ≠ it):Inv X pins σ H { s with heap:=h',toks:=t' }:=by
 have nit:∀ b u,H b = some u->b ≠ it:=fun b u e z=>by rw [z,hn] at e; cases e
 refine I.step (g':=s.gens) (d':=s.drawn) (ch:=[it]) (fun b hb=>?_) (fun b o _ _ hc e _=>k b o (fun z=>hc (by simp [z])) e) (fun b o _ _ hc e _=>⟨o.slots,k b o (fun z=>hc (by simp [z])) e⟩) (fun _ _ _ _ n=>n)
  (fun b o hc e=>⟨o,k b o (fun z=>hc (by simp [z])) e⟩) (fun _ _ e=>e) (fun _ _ _ e=>e) (fun b ps e=>⟨#[],by rw [e]; simp⟩) (fun m hm=>?_) (fun b u e=>?_) I.bare
 ·have e:b = it:=by simpa using hb
  subst e
  exact ⟨h1,hL,h2,h3⟩
 ·obtain ⟨o,es,ep,ho,r⟩:=hm
  exact ⟨o,es,ep,k _ o (Ne.symm hL) ho,r⟩
 ·refine (I.hok b u e).stay (fun c v hc q=>k c v ?_ q) (fun _ q=>q) fun _ _ q=>q
  rcases hc with z | z
  ·rw [z]; exact nit b u e
  ·exact nit c _ z
theorem Inv.tok (I:Inv X pins σ H s) (t:Nat):Inv X pins σ H { s with toks:=t }:=I.un (h':=s.heap) (t':=t) Un.refl I.hok
theorem Inv.kept {t':Nat} (I:Inv X pins σ H s) (k:∀ b u,s.heap.get? b = some u->h'.get? b = some u):Inv X pins σ H { s with heap:=h',toks:=t' }:=I.un (Un.kept k) (I.hok.kept k)
theorem Inv.laid {a:Addr} {o:HO} {t':Nat} (I:Inv X pins σ H s) (k:∀ b u,s.heap.get? b = some u->h'.get? b = some u) (hp:s.heap.objs.size<=a) (new:ObjOk X.prog X.w (upd H a o) h' a o) :
  Inv X pins σ (upd H a o) { s with heap:=h',toks:=t' }:=I.un (Un.laid k hp (I.hok.fresh hp)) (I.hok.laid k hp new)
theorem Inv.write {x e:Addr} {o:HO} {t':Nat} (I:Inv X pins σ H s) (mu:Mut (H x)) (he:e = x\/H e = some (.own x)) (k:∀ b u,b ≠ e->s.heap.get? b = some u->h'.get? b = some u) (heo:∃ u,h'.get? e = some u)
  (new:ObjOk X.prog X.w (upd H x o) h' x o):Inv X pins σ (upd H x o) { s with heap:=h',toks:=t' }:=I.un (Un.write mu he k heo) (I.hok.write mu he k heo new)
theorem Inv.weak {σ':List (Option V)} (I:Inv X pins σ H s) (hl : σ'.length = σ.length) (w:∀ (i:Nat) v,σ'[i]? = some (some v)->σ[i]? = some (some v)):Inv X pins σ' H s:=
 ⟨I.ok,I.os,I.bare,I.base,let ⟨m,hn,hl'⟩:=I.loc; ⟨m,hn,fun i x v e1 e2 e3=>hl' i x v e1 (w i v e2) e3⟩,I.cell,I.free,I.freeC,I.pin,I.hok,hl.trans I.len⟩
theorem Inv.pins_of {pins':List (Addr × Obj)} (I:Inv X pins σ H s) (h:∀ p ∈ pins',s.heap.get? p.1 = some p.2/\H p.1 = none/\p.1 ≠ X.env.locals/\p.1 ∉ X.fs/\∀ v,p.2.data ≠ .cell v):Inv X pins' σ H s:=
 ⟨I.ok,I.os,I.bare,I.base,I.loc,I.cell,I.free,I.freeC,fun p hp=>(List.mem_append.mp hp).elim (fun z=>I.pin p (List.mem_append_left _ z)) (h p),I.hok,I.len⟩
theorem nodup_ix {N:List Str} (hN:N.Nodup) {i j:Nat} {x:Str} (a:N[i]? = some x) (b:N[j]? = some x):i = j:=by
 obtain ⟨h1,e1⟩:=List.getElem?_eq_some_iff.mp a
 obtain ⟨h2,e2⟩:=List.getElem?_eq_some_iff.mp b
 exact (List.getElem_inj hN).mp (e1.trans e2.symm)
theorem store_ok2 {M:Model} {A:Around} {E:Value->Shared->Prop} {i:Nat} {x:Str} {v:V} {u:Value} {Q:Unit->Shared->Prop} (I:Inv X pins σ H s) (hN:X.N.Nodup) (hi:X.N[i]? = some x) (hx:Loc X.env.scope x) (r:RelV v u)
  (h:∀ s',Inv X pins (σ.set i (some v)) H s'->(∃ a,Heap.SameBut a s.heap s'.heap/\(a = X.env.locals\/X.env.cells.lookup x = some a))->Q () s') (hf:X.fn x = true\/X.env.scope.names.lookup x = some .local:=by first | exact .inl rfl | exact .inr rfl | assumption):wpAny M A (storeName X.env x u) Q E s:=by
 obtain ⟨m,hn,hl⟩:=id I.loc
 have hcls:(X.env.scope.kind == .class || (X.env.scope.kind == .module && X.env.locals != X.env.globals)) = false:=by rw [I.ok.kind]; rfl
 have hiσ : i < σ.length:=by rw [I.len]; exact (List.getElem?_eq_some_iff.mp hi).1
 have cne:=I.cne
 have tracked:∀ {a:Addr} {h':Heap},(∃ o,s.heap.get? a = some o/\H a = none)->Heap.SameBut a s.heap h'->HOk X.prog X.w H h':=fun {a h'} ha hs b ob e=>by
  obtain ⟨_,_,hfree⟩:=ha
  refine (I.hok b ob e).stay (fun c w' hc q=>(hs.2 c ?_).trans q) (fun _ q=>q) fun _ _ q=>q
  rintro rfl
  rcases hc with rfl | hc
  ·rw [hfree] at e; cases e
  ·rw [hfree] at hc; cases hc
 rcases hx with hk | hk
 ·refine wpAny_storeName_local hk hn (fun h' hn' hs=>?_) hcls
  obtain ⟨oL,_,_,hoL,_⟩:=id hn
  refine h _ ⟨I.ok,I.os,I.bare,⟨fun b o e n hb hx=>?_,fun b o e n hb hx=>?_,I.base.free,fun b o e hx=>?_,I.base.tups,I.base.frzs,I.base.tbls⟩,⟨_,hn',fun j y v' e1 e2 e3=>?_⟩,fun y c e=>?_,I.free,I.freeC,fun p hp=>?_,tracked ⟨oL,hoL,I.free⟩ hs,by simpa using I.len⟩ ⟨_,hs,.inl rfl⟩
  ·exact (hs.2 b (Nat.ne_of_lt (Nat.lt_of_lt_of_le (Heap.lt_size e) I.ok.above))).trans (I.base.keep b o e n hb hx)
  ·obtain ⟨sl,e1⟩:=I.base.slot b o e n hb hx
   exact ⟨sl,(hs.2 b (Nat.ne_of_lt (Nat.lt_of_lt_of_le (Heap.lt_size e) I.ok.above))).trans e1⟩
  ·obtain ⟨o',e1⟩:=I.base.there b o e hx
   exact ⟨o',(hs.2 b (Nat.ne_of_lt (Nat.lt_of_lt_of_le (Heap.lt_size e) I.ok.above))).trans e1⟩
  ·by_cases hj:j = i
   ·subst hj
    rw [hi] at e1; cases e1
    rw [List.getElem?_set_self hiσ] at e2
    cases e2
    exact ⟨u,r,.inl ⟨hk,by simp⟩⟩
   ·rw [List.getElem?_set_ne (Ne.symm hj)] at e2
    obtain ⟨u',r',q⟩:=hl j y v' e1 e2 e3
    refine ⟨u',r',?_⟩
    rcases q with ⟨k,e⟩ | ⟨k,c,e,z⟩
    ·refine .inl ⟨k,?_⟩
     have:y ≠ x:=fun e=>hj (nodup_ix hN e1 (e ▸ hi))
     simp [this,e]
    ·exact .inr ⟨k,c,e,z.sameBut hs (cne y c e)⟩
  ·obtain ⟨w',z⟩:=I.cell y c e
   exact ⟨w',z.sameBut hs (cne y c e)⟩
  ·obtain ⟨e,n,ne,nf,d⟩:=I.pin p hp
   exact ⟨(hs.2 p.1 ne).trans e,n,ne,nf,d⟩
 ·have hfn:X.fn x = true:=by
   rcases hf with z | z
   ·exact z
   ·rw [z] at hk; cases hk
  obtain ⟨c,hc⟩:=I.ok.has x (.inl hk)
  obtain ⟨w',z⟩:=I.cell x c hc
  refine wpAny_storeName_cell I.ok.kind hk hc z (fun h' hc' hs=>?_)
  obtain ⟨oc,hoc,hocd⟩:=id z
  refine h { s with heap:=h' } ⟨I.ok,I.os,I.bare,⟨fun b o e n hb hx=>?_,fun b o e n hb hx=>?_,I.base.free,fun b o e hx=>?_,I.base.tups,I.base.frzs,I.base.tbls⟩,⟨m,hn.sameBut hs (Ne.symm (cne x c hc)),fun j y v' e1 e2 e3=>?_⟩,fun y c' e=>?_,I.free,I.freeC,fun p hp=>?_,tracked ⟨oc,hoc,I.freeC x c hc⟩ hs,by simpa using I.len⟩ ⟨c,hs,.inr hc⟩
  ·exact (hs.2 b (Nat.ne_of_lt (Nat.lt_of_lt_of_le (Heap.lt_size e) (I.ok.cab x c hfn hc)))).trans (I.base.keep b o e n hb hx)
  ·obtain ⟨sl,e1⟩:=I.base.slot b o e n hb hx
   exact ⟨sl,(hs.2 b (Nat.ne_of_lt (Nat.lt_of_lt_of_le (Heap.lt_size e) (I.ok.cab x c hfn hc)))).trans e1⟩
  ·obtain ⟨o',e1⟩:=I.base.there b o e hx
   exact ⟨o',(hs.2 b (Nat.ne_of_lt (Nat.lt_of_lt_of_le (Heap.lt_size e) (I.ok.cab x c hfn hc)))).trans e1⟩
  ·by_cases hj:j = i
   ·subst hj
    rw [hi] at e1; cases e1
    rw [List.getElem?_set_self hiσ] at e2
    cases e2
    exact ⟨u,r,.inr ⟨.inl hk,c,hc,hc'⟩⟩
   ·rw [List.getElem?_set_ne (Ne.symm hj)] at e2
    obtain ⟨u',r',q⟩:=hl j y v' e1 e2 e3
    refine ⟨u',r',?_⟩
    rcases q with q | ⟨k,c',e,z'⟩
    ·exact .inl q
    ·refine .inr ⟨k,c',e,z'.sameBut hs ?_⟩
     rintro rfl
     exact hj (nodup_ix hN e1 (I.ok.inj _ _ _ e hc ▸ hi))
  ·by_cases hcc:c' = c
   ·subst hcc; exact ⟨_,hc'⟩
   ·obtain ⟨w2,z2⟩:=I.cell y c' e
    exact ⟨w2,z2.sameBut hs hcc⟩
  ·obtain ⟨e,n,ne,nf,d⟩:=I.pin p hp
   refine ⟨(hs.2 p.1 ?_).trans e,n,ne,nf,d⟩
   intro q
   rw [q,hoc] at e
   have q':oc = p.2:=Option.some.inj e
   exact d w' (by rw [<- q']; exact hocd)
theorem store_ok {M:Model} {A:Around} {E:Value->Shared->Prop} {i:Nat} {x:Str} {v:V} {u:Value} {Q:Unit->Shared->Prop} (I:Inv X pins σ H s) (hN:X.N.Nodup) (hi:X.N[i]? = some x) (hx:Loc X.env.scope x) (r:RelV v u)
  (h:∀ s',Inv X pins (σ.set i (some v)) H s'->Q () s') (hf:X.fn x = true\/X.env.scope.names.lookup x = some .local:=by first | exact .inl rfl | exact .inr rfl | assumption):wpAny M A (storeName X.env x u) Q E s:=
 store_ok2 I hN hi hx r (fun s' I' _=>h s' I') hf
theorem Inv.call' {s':Shared} {ch:List Addr} (I:Inv X pins σ H s) (ho:s'.os = s.os) (u:Un (frs X.stack) ch H H' s.heap s'.heap) (hok:HOk X.prog X.w H' s'.heap) (hg:AllBare s'.gens)
  (hch:∀ b ∈ ch,(b ∈ X.ex\/X.s₀.heap.objs.size<=b)/\b ≠ X.env.locals/\(∀ x c,X.env.cells.lookup x = some c->c ≠ b)/\∀ p ∈ X.pn ++ pins,p.1 ≠ b):Inv X pins σ H' s':=by
 obtain ⟨h',g',d',t',o'⟩:=s'
 have e:o' = s.os:=ho
 subst e
 exact I.call (g':=g') (t':=t') (d':=d') u hok hg hch
end
abbrev XK:=Value->Option Addr->Hp->Prop
abbrev St:=List (Option V)
abbrev VK:=V->Hp->Prop
abbrev TE:=St->Hp->VK->Prop
abbrev TT:=St->Hp->(Bool->Hp->Prop)->Prop
abbrev TA:=St->Hp->(List V->Hp->Prop)->Prop
structure Ends where
 nx:St->Hp->Prop
 rt:VK
 bk:St->Hp->Prop:=fun _ _=>False
 ct:St->Hp->Prop:=fun _ _=>False
abbrev TS:=Ends->St->Hp->Prop
def EP (X:Cx) (pins:List (Addr × Obj)) (σ : St) (Q:VK) (u:Value) (s':Shared):Prop:=∃ v H',Inv X pins σ H' s'/\RelV v u/\Q v H'
def TP (X:Cx) (pins:List (Addr × Obj)) (σ : St) (Q:Bool->Hp->Prop) (b:Bool) (s':Shared):Prop:=∃ H',Inv X pins σ H' s'/\Q b H'
def AP (X:Cx) (pins:List (Addr × Obj)) (σ : St) (Q:List V->Hp->Prop) (us:List Value) (s':Shared):Prop:=∃ vs H',Inv X pins σ H' s'/\Vals vs us/\Q vs H'
def SP (X:Cx) (pins:List (Addr × Obj)) (D:Ends) (f:Flow) (s':Shared):Prop:=
 match f with
 | .next=>∃ σ' H',Inv X pins σ' H' s'/\D.nx σ' H'
 | .brk=>∃ σ' H',Inv X pins σ' H' s'/\D.bk σ' H'
 | .cont=>∃ σ' H',Inv X pins σ' H' s'/\D.ct σ' H'
 | .ret u=>∃ v σ' H',Inv X pins σ' H' s'/\RelV v u/\D.rt v H'
structure PE (X:Cx) (e:Expr) (t:TE):Prop where
 run:∀ (pins:List (Addr × Obj)) (s:Shared) (σ : St) (H:Hp) (Q:VK),Inv X pins σ H s->t σ H Q->wpAny (model X.prog X.w) X.A (eval e X.env) (EP X pins σ Q) X.xe s
instance {X:Cx} {e:Expr} {t:TE}:CoeFun (PE X e t) (fun _=>∀ (pins:List (Addr × Obj)) (s:Shared) (σ : St) (H:Hp) (Q:VK),Inv X pins σ H s->t σ H Q->wpAny (model X.prog X.w) X.A (eval e X.env) (EP X pins σ Q) X.xe s):=⟨PE.run⟩
structure PT (X:Cx) (e:Expr) (t:TT):Prop where
 run:∀ (pins:List (Addr × Obj)) (s:Shared) (σ : St) (H:Hp) (Q:Bool->Hp->Prop),Inv X pins σ H s->t σ H Q->wpAny (model X.prog X.w) X.A (isTrue e X.env (eval e X.env)) (TP X pins σ Q) X.xe s
instance {X:Cx} {e:Expr} {t:TT}:CoeFun (PT X e t) (fun _=>∀ (pins:List (Addr × Obj)) (s:Shared) (σ : St) (H:Hp) (Q:Bool->Hp->Prop),Inv X pins σ H s->t σ H Q->wpAny (model X.prog X.w) X.A (isTrue e X.env (eval e X.env)) (TP X pins σ Q) X.xe s):=⟨PT.run⟩
structure PW (X:Cx) (e:Expr) (t:TT):Prop where
 run:∀ (whole:Sem Value) (pins:List (Addr × Obj)) (s:Shared) (σ : St) (H:Hp) (Q:Bool->Hp->Prop),Inv X pins σ H s->t σ H Q->wpAny (model X.prog X.w) X.A (isTrue e X.env whole) (TP X pins σ Q) X.xe s
instance {X:Cx} {e:Expr} {t:TT}:CoeFun (PW X e t) (fun _=>∀ (whole:Sem Value) (pins:List (Addr × Obj)) (s:Shared) (σ : St) (H:Hp) (Q:Bool->Hp->Prop),Inv X pins σ H s->t σ H Q->wpAny (model X.prog X.w) X.A (isTrue e X.env whole) (TP X pins σ Q) X.xe s):=⟨PW.run⟩
theorem PW.pt {X:Cx} {e:Expr} {t:TT} (h:PW X e t):PT X e t:=⟨h _⟩
structure PA (X:Cx) (es:List Expr) (t:TA):Prop where
 run:∀ (pos:Pos) (pins:List (Addr × Obj)) (s:Shared) (σ : St) (H:Hp) (Q:List V->Hp->Prop),Inv X pins σ H s->t σ H Q->wpAny (model X.prog X.w) X.A (spliced (backTo pos (starEach es X.env))) (AP X pins σ Q) X.xe s
instance {X:Cx} {es:List Expr} {t:TA}:CoeFun (PA X es t) (fun _=>∀ (pos:Pos) (pins:List (Addr × Obj)) (s:Shared) (σ : St) (H:Hp) (Q:List V->Hp->Prop),Inv X pins σ H s->t σ H Q->wpAny (model X.prog X.w) X.A (spliced (backTo pos (starEach es X.env))) (AP X pins σ Q) X.xe s):=⟨PA.run⟩
structure PS (X:Cx) (st:Stmt) (t:TS):Prop where
 run:∀ (pins:List (Addr × Obj)) (s:Shared) (σ : St) (H:Hp) (D:Ends),Inv X pins σ H s->t D σ H->wpAny (model X.prog X.w) X.A (exec st X.env) (SP X pins D) X.xe s
instance {X:Cx} {st:Stmt} {t:TS}:CoeFun (PS X st t) (fun _=>∀ (pins:List (Addr × Obj)) (s:Shared) (σ : St) (H:Hp) (D:Ends),Inv X pins σ H s->t D σ H->wpAny (model X.prog X.w) X.A (exec st X.env) (SP X pins D) X.xe s):=⟨PS.run⟩
structure PSs (X:Cx) (st:List Stmt) (t:TS):Prop where
 run:∀ (pins:List (Addr × Obj)) (s:Shared) (σ : St) (H:Hp) (D:Ends),Inv X pins σ H s->t D σ H->wpAny (model X.prog X.w) X.A (execs st X.env) (SP X pins D) X.xe s
instance {X:Cx} {st:List Stmt} {t:TS}:CoeFun (PSs X st t) (fun _=>∀ (pins:List (Addr × Obj)) (s:Shared) (σ : St) (H:Hp) (D:Ends),Inv X pins σ H s->t D σ H->wpAny (model X.prog X.w) X.A (execs st X.env) (SP X pins D) X.xe s):=⟨PSs.run⟩
theorem thn {α : Type} {t:Sem α} {Q Q' : α->Shared->Prop} {M:Model} {A:Around} {E:Value->Shared->Prop} {s:Shared} (h:wpAny M A t Q E s) (hQ:∀ a s,Q a s->Q' a s):wpAny M A t Q' E s:=wpAny_mono h hQ fun _ _ x=>x
section
variable {X:Cx}
theorem bin {a b:Expr} {ta tb:TE} (ha:PE X a ta) (hb:PE X b tb) {pins:List (Addr × Obj)} {s:Shared} {σ : St} {H:Hp} {R:V->V->Hp->Prop} (I:Inv X pins σ H s) (h:ta σ H fun x H1=>tb σ H1 fun y H2=>R x y H2)
  {α : Type} {Q : α->Shared->Prop} {f:Value->Value->Sem α}
  (hf:∀ v u s2 x y H2,Inv X pins σ H2 s2->RelV x v->RelV y u->R x y H2->wpAny (model X.prog X.w) X.A (f v u) Q X.xe s2) :
  wpAny (model X.prog X.w) X.A (eval a X.env) (fun v s₁=>wpAny (model X.prog X.w) X.A (eval b X.env) (fun u s₂=>wpAny (model X.prog X.w) X.A (f v u) Q X.xe s₂) X.xe s₁) X.xe s:=by
 refine thn (ha pins s σ H _ I h) fun v s1 ⟨x,H1,I1,r1,q1⟩=>?_
 refine thn (hb pins s1 σ H1 _ I1 q1) fun u s2 ⟨y,H2,I2,r2,q2⟩=>?_
 exact hf v u s2 x y H2 I2 r1 r2 q2
inductive IVar (i:Nat) (σ : St) (H:Hp) (Q:VK):Prop where
 | mk (v:V) (e : σ[i]? = some (some v)) (q:Q v H)
def tVar (i:Nat):TE:=fun σ H Q=>IVar i σ H Q
def tC (v:V):TE:=fun _ H Q=>Q v H
theorem pe_var {i:Nat} {x:Str} {pos:Pos} (hN:X.N[i]? = some x) (hv:Vis X.env.scope x) (hd:(x == ("__debug__" : Str)) = false:=by decide) (hcd:(x == ("__classdict__" : Str)) = false:=by decide):PE X (.Name x pos) (tVar i):=by
 refine ⟨?_⟩
 intro pins s σ H Q I h
 obtain ⟨v,e,h⟩:=h
 obtain ⟨m,hn,hl⟩:=I.loc
 obtain ⟨u,r,l⟩:=hl i x v hN e hv
 have fin:EP X pins σ Q u s:=⟨v,H,I,r,h⟩
 rcases l with ⟨hk,hm⟩ | ⟨hk,c,hc,hcell⟩
 ·exact wpAny_Name (wpAny_loadName_local I.ok.kind hk hn hm fin) hd
 ·rcases hk with hk | hk
  ·exact wpAny_Name (wpAny_loadName_cell I.ok.kind hk hc hcell fin) hd
  ·exact wpAny_Name (wpAny_loadName_free I.ok.kind hk hc hcell fin hcd) hd
theorem pe_int {i j pos}:PE X (.Constant (.int i) j pos) (tC (.int i)):=⟨fun _ _ _ H _ I h=>wpAny_Constant_int ⟨.int i,H,I.tok _,⟨_,rfl⟩,h⟩⟩
theorem pe_bl {b j pos}:PE X (.Constant (.bool b) j pos) (tC (.bl b)):=⟨fun _ _ _ H _ I h=>Constant_bool ⟨.bl b,H,I,rfl,h⟩⟩
theorem pe_non {j pos}:PE X (.Constant .none j pos) (tC .non):=⟨fun _ _ _ H _ I h=>Constant_none ⟨.non,H,I,rfl,h⟩⟩
theorem pe_str {x j pos}:PE X (.Constant (.str x) j pos) (tC (.str x)):=⟨fun _ _ _ H _ I h=>Calls.Constant_str ⟨.str x,H,I.tok _,⟨_,rfl⟩,h⟩⟩
def Gl (X:Cx) (x:Str):Prop:=X.env.kindOf x = some .globalImplicit
theorem ld_glob {E:Value->Shared->Prop} {pins:List (Addr × Obj)} {s:Shared} {σ : St} {H:Hp} {x:Str} {u:Value} {pos:Pos} {Q:Value->Shared->Prop} (I:Inv X pins σ H s) (hg:Gl X x) (hm:X.mg x = some u) (h:Q u s)
  (hd:(x == ("__debug__" : Str)) = false:=by decide):wpAny (model X.prog X.w) X.A (eval (.Name x pos) X.env) Q E s:=
 Calls.Name_function_global I.ok.kind hg (Calls.loadGlobal_global (by rw [I.ok.glob]; exact I.mod.glob.keeps I.bk) hm h) hd
theorem ld_blt {E:Value->Shared->Prop} {pins:List (Addr × Obj)} {s:Shared} {σ : St} {H:Hp} {x:Str} {u:Value} {pos:Pos} {Q:Value->Shared->Prop} (I:Inv X pins σ H s) (hg:Gl X x) (hm:X.mg x = none) (hv:bootBuiltins x = some u) (h:Q u s)
  (hn:x ≠ "__name__":=by decide) (hd:(x == ("__debug__" : Str)) = false:=by decide):wpAny (model X.prog X.w) X.A (eval (.Name x pos) X.env) Q E s:=by
 obtain ⟨mb,h1,h2⟩:=I.mod.blt
 exact Calls.Name_function_global I.ok.kind hg (Calls.loadGlobal_builtin (by rw [I.ok.glob]; exact I.mod.glob.keeps I.bk) hm (by rw [I.ok.blt]; exact h1.keeps I.bk) ((h2 x hn).trans hv) h) hd
theorem pe_glob {x:Str} {v:V} {u:Value} {pos:Pos} (hg:Gl X x) (hm:X.mg x = some u) (r:RelV v u) (hd:(x == ("__debug__" : Str)) = false:=by decide):PE X (.Name x pos) (tC v):=⟨fun _ _ _ H _ I h=>ld_glob I hg hm ⟨v,H,I,r,h⟩ hd⟩
theorem pe_bltn {x:Str} {v:V} {u:Value} {pos:Pos} (hg:Gl X x) (hm:X.mg x = none) (hv:bootBuiltins x = some u) (r:RelV v u) (hn:x ≠ "__name__":=by decide) (hd:(x == ("__debug__" : Str)) = false:=by decide):PE X (.Name x pos) (tC v):=⟨fun _ _ _ H _ I h=>ld_blt I hg hm hv ⟨v,H,I,r,h⟩ hn hd⟩
variable {a b:Expr} {ta tb:TE} {pos:Pos}
structure PC (X:Cx) (op:CmpOp) (a b:Expr) (t:TE):Prop where
 run:∀ (pins:List (Addr × Obj)) (s:Shared) (σ : St) (H:Hp) (Q:VK),Inv X pins σ H s->t σ H Q->
  wpAny (model X.prog X.w) X.A (eval a X.env) (fun v s₁=>wpAny (model X.prog X.w) X.A (eval b X.env) (fun u s₂=>wpAny (model X.prog X.w) X.A (compareOp op v u) (EP X pins σ Q) X.xe s₂) X.xe s₁) X.xe s
instance {X:Cx} {op:CmpOp} {a b:Expr} {t:TE}:CoeFun (PC X op a b t) (fun _=>∀ (pins:List (Addr × Obj)) (s:Shared) (σ : St) (H:Hp) (Q:VK),Inv X pins σ H s->t σ H Q->
  wpAny (model X.prog X.w) X.A (eval a X.env) (fun v s₁=>wpAny (model X.prog X.w) X.A (eval b X.env) (fun u s₂=>wpAny (model X.prog X.w) X.A (compareOp op v u) (EP X pins σ Q) X.xe s₂) X.xe s₁) X.xe s):=⟨PC.run⟩
theorem nobehind (b:Expr) {op:CmpOp} (h:op ≠ .In) (h2:op ≠ .NotIn):behindInMarks op b = false:=by
 have e1:(op == CmpOp.In) = false:=by cases op <;> first | rfl | exact absurd rfl h
 have e2:(op == CmpOp.NotIn) = false:=by cases op <;> first | rfl | exact absurd rfl h2
 cases b <;> simp [behindInMarks,e1,e2]
def tIsN (ta:TE):TE:=fun σ H Q=>ta σ H fun x H1=>Q (.bl (decide (x = .non))) H1
def tNotN (ta:TE):TE:=fun σ H Q=>ta σ H fun x H1=>Q (.bl (!decide (x = .non))) H1
theorem RelV.none_iff {x:V} {v:Value} (r:RelV x v):(v == Value.none) = decide (x = .non):=by
 cases x with
 | non=>cases r; rfl
 | bl _=>cases r; rfl
 | int _=>obtain ⟨t,rfl⟩:=r; rfl
 | str _=>obtain ⟨t,rfl⟩:=r; rfl
 | byt _=>obtain ⟨t,rfl⟩:=r; rfl
 | flt _=>obtain ⟨t,rfl⟩:=r; rfl
 | ref _=>cases r; rfl
 | ty _=>cases r; rfl
theorem pc_isN {j pos'} (ha:PE X a ta):PC X .Is a (.Constant .none j pos') (tIsN ta):=by
 refine ⟨?_⟩
 intro pins s σ H Q I h
 refine thn (ha pins s σ H _ I h) fun v s1 ⟨x,H1,I1,r1,q1⟩=>?_
 exact Constant_none (is_none_gen ⟨.bl _,H1,I1,by rw [r1.none_iff]; rfl,q1⟩)
theorem pc_notN {j pos'} (ha:PE X a ta):PC X .IsNot a (.Constant .none j pos') (tNotN ta):=by
 refine ⟨?_⟩
 intro pins s σ H Q I h
 refine thn (ha pins s σ H _ I h) fun v s1 ⟨x,H1,I1,r1,q1⟩=>?_
 exact Constant_none (isnot_none_gen ⟨.bl _,H1,I1,by rw [r1.none_iff]; rfl,q1⟩)
def tB (t:TE):TT:=fun σ H Q=>t σ H fun x H1=>∃ c,x = .bl c/\Q c H1
theorem pe_cmp {op:CmpOp} {t:TE} (h:PC X op a b t) (h1:behindInMarks op b = false:=by first | exact nobehind _ (by decide) (by decide) | rfl):PE X (.Compare a [op] [b] pos) t:=⟨fun pins s σ H Q I hw=>wpAny_Compare1 (h pins s σ H Q I hw) h1⟩
theorem pt_cmp {op:CmpOp} {t:TE} (h:PC X op a b t) (h1:behindInMarks op b = false:=by first | exact nobehind _ (by decide) (by decide) | rfl):PT X (.Compare a [op] [b] pos) (tB t):=by
 refine ⟨?_⟩
 intro pins s σ H Q I hw
 refine wpAny_isTrue_Compare1 (thn (h pins s σ H _ I hw) fun v s1 h1=>thn h1 fun u s2 h2=>thn h2 fun c s3 ⟨x,H1,I1,r1,q1⟩=>?_) h1
 obtain ⟨d,rfl,q⟩:=q1
 cases r1
 exact wpAny_truthy_bool ⟨H1,I1,q⟩
theorem pt_val {e:Expr} {t:TE} (h:PE X e t) (he:∀ whole,isTrue e X.env whole = (do let v <- whole; standAt e.pos; holding [v] (truthy v)):=by intro _; rfl):PT X e (tB t):=by
 refine ⟨?_⟩
 intro pins s σ H Q I hw
 refine isTrue_plain (thn (h pins s σ H _ I hw) fun v s1 ⟨x,H1,I1,r1,q1⟩=>?_) (he _)
 obtain ⟨d,rfl,q⟩:=q1
 cases r1
 exact wpAny_truthy_bool ⟨H1,I1,q⟩
variable {tA tB':TT} {rest:List Expr}
def tAnd (t u:TT):TT:=fun σ H Q=>t σ H fun c H1=>if c = true then u σ H1 Q else Q false H1
def tOr (t u:TT):TT:=fun σ H Q=>t σ H fun c H1=>if c = true then Q true H1 else u σ H1 Q
def tNot (t:TT):TT:=fun σ H Q=>t σ H fun c H1=>Q (!c) H1
theorem pw_and1 (ha:PT X a tA):PW X (.BoolOp .And [a] pos) tA:=by
 refine ⟨?_⟩
 intro wh pins s σ H Q I h
 refine isTrue_and (thn (ha pins s σ H Q I h) fun c s1 e=>?_)
 cases c with
 | true=>exact isTrue_and_nil e
 | false=>exact e
theorem pw_or1 (ha:PT X a tA):PW X (.BoolOp .Or [a] pos) tA:=by
 refine ⟨?_⟩
 intro wh pins s σ H Q I h
 refine isTrue_or (thn (ha pins s σ H Q I h) fun c s1 e=>?_)
 cases c with
 | false=>exact isTrue_or_nil e
 | true=>exact e
theorem pw_and (ha:PT X a tA) (hb:PW X (.BoolOp .And (b :: rest) pos) tB'):PW X (.BoolOp .And (a :: b :: rest) pos) (tAnd tA tB'):=by
 refine ⟨?_⟩
 intro wh pins s σ H Q I h
 refine isTrue_and (thn (ha pins s σ H _ I h) fun c s1 ⟨H1,I1,q1⟩=>?_)
 cases c with
 | true=>exact hb wh pins s1 σ H1 Q I1 q1
 | false=>exact ⟨H1,I1,q1⟩
theorem pw_or (ha:PT X a tA) (hb:PW X (.BoolOp .Or (b :: rest) pos) tB'):PW X (.BoolOp .Or (a :: b :: rest) pos) (tOr tA tB'):=by
 refine ⟨?_⟩
 intro wh pins s σ H Q I h
 refine isTrue_or (thn (ha pins s σ H _ I h) fun c s1 ⟨H1,I1,q1⟩=>?_)
 cases c with
 | true=>exact ⟨H1,I1,q1⟩
 | false=>exact hb wh pins s1 σ H1 Q I1 q1
theorem pt_not (ha:PT X a tA):PT X (.UnaryOp .Not a pos) (tNot tA):=by
 refine ⟨?_⟩
 intro pins s σ H Q I h
 exact isTrue_not (ha pins s σ H (fun c H1=>Q (!c) H1) I h)
def tAndV (ta tb:TE):TE:=fun σ H Q=>ta σ H fun x H1=>∃ c,x = .bl c/\if c = true then tb σ H1 Q else Q (.bl false) H1
def tNotV (ta:TE):TE:=fun σ H Q=>ta σ H fun x H1=>∃ c,x = .bl c/\Q (.bl (!c)) H1
theorem pe_one {op} {t:TE} (h:PE X a t):PE X (.BoolOp op [a] pos) t:=⟨fun pins s σ H Q I hw=>BoolOp_one (h pins s σ H Q I hw)⟩
theorem pe_and (ha:PE X a ta) (hb:PE X (.BoolOp .And (b :: rest) pos) tb):PE X (.BoolOp .And (a :: b :: rest) pos) (tAndV ta tb):=by
 refine ⟨?_⟩
 intro pins s σ H Q I h
 refine BoolOp_and (thn (ha pins s σ H _ I h) fun v s1 ⟨x,H1,I1,r1,q1⟩=>?_)
 obtain ⟨c,rfl,q1⟩:=q1
 cases r1
 refine wpAny_truthy_bool ?_
 cases c with
 | true=>exact hb pins s1 σ H1 Q I1 q1
 | false=>exact ⟨.bl false,H1,I1,rfl,q1⟩
theorem pe_not (ha:PE X a ta):PE X (.UnaryOp .Not a pos) (tNotV ta):=by
 refine ⟨?_⟩
 intro pins s σ H Q I h
 refine UnaryOp_ (thn (ha pins s σ H _ I h) fun v s1 ⟨x,H1,I1,r1,q1⟩=>?_)
 obtain ⟨c,rfl,q1⟩:=q1
 cases r1
 exact not_of (wpAny_truthy_bool ⟨.bl (!c),H1,I1,rfl,q1⟩)
def tIf (t:TT) (ta tb:TE):TE:=fun σ H Q=>t σ H fun c H1=>if c = true then ta σ H1 Q else tb σ H1 Q
theorem pe_ifExp {c:Expr} (hc:PT X c tA) (ha:PE X a ta) (hb:PE X b tb):PE X (.IfExp c a b pos) (tIf tA ta tb):=by
 refine ⟨?_⟩
 intro pins s σ H Q I h
 refine wpAny_IfExp (thn (hc pins s σ H _ I h) fun d s1 ⟨H1,I1,q1⟩=>?_)
 cases d with
 | true=>exact ha pins s1 σ H1 Q I1 q1
 | false=>exact hb pins s1 σ H1 Q I1 q1
end
def SqL (K:PySem.W.Frag) (H:Hp) (a:Addr) (xs:List V):Prop:=
 Rd H a (.lst xs)\/
  ∃ (o:Obj) (its:Array Value) (n:Nat),K.lookup a = some o/\o.cls = .type "list"/\o.dict = none/\o.data = .seq its n/\its.size<=sizeLine/\Vals xs its.toList
def SqT (K:PySem.W.Frag) (H:Hp) (a:Addr) (xs:List V):Prop:=
 Rd H a (.tup xs)\/
  ∃ (o:Obj) (its:Array Value) (n:Nat),K.lookup a = some o/\o.cls = .type "tuple"/\o.data = .seq its n/\its.size<=sizeLine/\Vals xs its.toList
def absV:Value->Option V
 | .none=>some .non
 | .bool b=>some (.bl b)
 | .int i _=>some (.int i)
 | .str x _=>some (.str x)
 | .bytes b _=>some (.byt b)
 | .float b _=>some (.flt b)
 | .ref a=>some (.ref a)
 | .type n=>some (.ty n)
 | _=>none
theorem RelV.abs {x:V} {u:Value} (r:RelV x u):absV u = some x:=by
 cases x with
 | non=>cases r; rfl
 | bl _=>cases r; rfl
 | int _=>obtain ⟨t,rfl⟩:=r; rfl
 | str _=>obtain ⟨t,rfl⟩:=r; rfl
 | byt _=>obtain ⟨t,rfl⟩:=r; rfl
 | flt _=>obtain ⟨t,rfl⟩:=r; rfl
 | ref _=>cases r; rfl
 | ty _=>cases r; rfl
theorem RelV.inj {x y:V} {u:Value} (r:RelV x u) (q:RelV y u):x = y:=Option.some.inj (r.abs.symm.trans q.abs)
theorem Vals.inj:∀ {xs ys:List V} {us:List Value},Vals xs us->Vals ys us->xs = ys
 | _,_,_,.nil,.nil=>rfl
 | _,_,_,.cons r t,.cons r' t'=>by rw [r.inj r',Vals.inj t t']
section
variable {X:Cx} {pins:List (Addr × Obj)} {σ : St} {H:Hp} {s:Shared} {a:Addr} {xs ys:List V}
theorem SqL.of {K:PySem.W.Frag} (h:H a = some (.lst xs)):SqL K H a xs:=.inl (.inl h)
theorem SqT.of {K:PySem.W.Frag} (h:H a = some (.tup xs)):SqT K H a xs:=.inl (.inl h)
theorem Inv.list (I:Inv X pins σ H s) (h:SqL X.K H a xs):∃ its:List Value,Vals xs its/\PlainL s.heap a its.toArray/\xs.length<=sizeLine:=by
 rcases h with h | ⟨o,its,n,hk,hc,hd,hs,hz,r⟩
 ·obtain ⟨z,its,n,r,e⟩:=h.ok I.hok
  exact ⟨its,r,⟨_,n,e,rfl,rfl,rfl⟩,z⟩
 ·refine ⟨its.toList,r,⟨o,n,I.kIn a o hk,hc,hd,by simpa using hs⟩,?_⟩
  have e:=r.length
  simp only [Array.length_toList] at e
  omega
theorem Inv.tuple (I:Inv X pins σ H s) (h:SqT X.K H a xs):∃ its:List Value,Vals xs its/\IsTup s.heap a its.toArray/\xs.length<=sizeLine:=by
 rcases h with h | ⟨o,its,n,hk,hc,hs,hz,r⟩
 ·obtain ⟨z,its,r,p⟩:=h.ok I.hok
  exact ⟨its,r,p,z⟩
 ·refine ⟨its.toList,r,⟨o,I.kIn a o hk,hc,n,by simpa using hs⟩,?_⟩
  have e:=r.length
  simp only [Array.length_toList] at e
  omega
theorem Inv.list_inj (I:Inv X pins σ H s) (h:SqL X.K H a xs) (h':SqL X.K H a ys):xs = ys:=by
 obtain ⟨its,r,⟨o,n,e,_,_,d⟩,_⟩:=I.list h
 obtain ⟨its',r',⟨o',n',e',_,_,d'⟩,_⟩:=I.list h'
 rw [e] at e'; cases e'
 rw [d] at d'
 injection d' with d1 _
 have:its = its':=by simpa using congrArg Array.toList d1
 subst this
 exact r.inj r'
end
abbrev Cx.wish (X:Cx) (E:Value->Shared->Prop):Cx:={ X with xe:=E }
abbrev Cx.nox (X:Cx):Cx:=X.wish fun _ _=>False
theorem Cx.Ok.wish {X:Cx} (ok:X.Ok) (E:Value->Shared->Prop):(X.wish E).Ok:=
 ⟨ok.mod,ok.kind,ok.glob,ok.blt,ok.above,ok.inj,ok.has,ok.cab,ok.hd,ok.frames,ok.stk,ok.exf,ok.bs,ok.bsz,ok.noex,ok.exfs,ok.funs,ok.frf⟩
theorem Cx.Ok.unwish {X:Cx} {E:Value->Shared->Prop} (ok:(X.wish E).Ok):X.Ok:=
 ⟨ok.mod,ok.kind,ok.glob,ok.blt,ok.above,ok.inj,ok.has,ok.cab,ok.hd,ok.frames,ok.stk,ok.exf,ok.bs,ok.bsz,ok.noex,ok.exfs,ok.funs,ok.frf⟩
section
variable {X:Cx} {pins:List (Addr × Obj)} {σ : St} {H:Hp} {s:Shared} {E:Value->Shared->Prop}
theorem Inv.wish (I:Inv X pins σ H s) (E:Value->Shared->Prop):Inv (X.wish E) pins σ H s:=⟨I.ok.wish E,I.os,I.bare,I.base,I.loc,I.cell,I.free,I.freeC,I.pin,I.hok,I.len⟩
theorem Inv.unwish (I:Inv (X.wish E) pins σ H s):Inv X pins σ H s:=⟨I.ok.unwish,I.os,I.bare,I.base,I.loc,I.cell,I.free,I.freeC,I.pin,I.hok,I.len⟩
theorem SP.unwish {D:Ends} {f:Flow} {s':Shared} (h:SP (X.wish E) pins D f s'):SP X pins D f s':=by
 cases f with
 | next=>obtain ⟨σ',H',I,q⟩:=h; exact ⟨σ',H',I.unwish,q⟩
 | brk=>obtain ⟨σ',H',I,q⟩:=h; exact ⟨σ',H',I.unwish,q⟩
 | cont=>obtain ⟨σ',H',I,q⟩:=h; exact ⟨σ',H',I.unwish,q⟩
 | ret u=>obtain ⟨v,σ',H',I,r,q⟩:=h; exact ⟨v,σ',H',I.unwish,r,q⟩
theorem PSs.nox {st:List Stmt} {t:TS} (h:PSs X.nox st t):PSs X st t:=⟨fun pins s σ H D I hw=>
 wpAny_mono (h pins s σ H D (I.wish _) hw) (fun _ _ q=>q.unwish) fun _ _ z=>False.elim z⟩
end
section
variable {X:Cx} {st:Stmt} {rest:List Stmt} {t u:TS} {e:Expr} {te:TE} {pos:Pos}
def tNext:TS:=fun D σ H=>D.nx σ H
def tSeq (t u:TS):TS:=fun D σ H=>t { D with nx:=u D } σ H
theorem pss_nil:PSs X [] tNext:=⟨fun _ _ σ H _ I h=>wpAny_execs_nil ⟨σ,H,I,h⟩⟩
theorem pss_cons (h1:PS X st t) (h2:PSs X rest u):PSs X (st :: rest) (tSeq t u):=by
 refine ⟨?_⟩
 intro pins s σ H D I h
 refine wpAny_execs_cons (thn (h1 pins s σ H { D with nx:=u D } I h) fun f s1 q=>?_)
 cases f with
 | next=>
  obtain ⟨σ',H',I',q⟩:=q
  exact h2 pins s1 σ' H' D I' q
 | ret v=>exact q
 | brk=>exact q
 | cont=>exact q
theorem pss_one (h1:PS X st t):PSs X [st] t:=by
 refine ⟨?_⟩
 intro pins s σ H D I h
 refine wpAny_execs_cons (thn (h1 pins s σ H D I h) fun f s1 q=>?_)
 cases f with
 | next=>exact wpAny_execs_nil q
 | ret v=>exact q
 | brk=>exact q
 | cont=>exact q
theorem Inv.quiet {pins:List (Addr × Obj)} {σ : St} {H:Hp} {s:Shared} (I:Inv X pins σ H s):interactive X.env = false:=by simp [interactive,I.ok.kind]
def tDrop (te:TE):TS:=fun D σ H=>te σ H fun _ H1=>D.nx σ H1
theorem ps_expr (he:PE X e te) (hs:swapsWith e none pos.line X.env = pure false:=by rfl):PS X (.Expr e pos) (tDrop te):=by
 refine ⟨?_⟩
 intro pins s σ H D I h
 exact wpAny_Expr_any (thn (he pins s σ H _ I h) fun v s1 ⟨x,H1,I1,r1,q1⟩=>⟨σ,H1,I1,q1⟩) I.quiet hs
def tRet (te:TE):TS:=fun D σ H=>te σ H D.rt
theorem ps_ret (he:PE X e te):PS X (.Return (some e) pos) (tRet te):=by
 refine ⟨?_⟩
 intro pins s σ H D I h
 exact wpAny_Return_some (thn (he pins s σ H _ I h) fun v s1 ⟨x,H1,I1,r1,q1⟩=>⟨x,σ,H1,I1,r1,q1⟩)
def tIfS (c:TT) (t u:TS):TS:=fun D σ H=>c σ H fun b H1=>if b = true then t D σ H1 else u D σ H1
theorem ps_if {c:Expr} {a b:List Stmt} {tc:TT} (hc:PT X c tc) (ha:PSs X a t) (hb:PSs X b u):PS X (.If c a b pos) (tIfS tc t u):=by
 refine ⟨?_⟩
 intro pins s σ H D I h
 refine wpAny_If (thn (hc pins s σ H _ I h) fun d s1 ⟨H1,I1,q1⟩=>?_)
 cases d with
 | true=>exact ha pins s1 σ H1 D I1 q1
 | false=>exact hb pins s1 σ H1 D I1 q1
end
abbrev TG:=V->St->Hp->(St->Hp->Prop)->Prop
abbrev TGs:=List V->St->Hp->(St->Hp->Prop)->Prop
structure PG (X:Cx) (target:Expr) (t:TG):Prop where
 run:∀ (pins:List (Addr × Obj)) (s:Shared) (σ : St) (H:Hp) (v:V) (u:Value) (Q:St->Hp->Prop),Inv X pins σ H s->RelV v u->t v σ H Q->
  wpAny (model X.prog X.w) X.A (assign target X.env u) (fun _ s'=>∃ σ' H',Inv X pins σ' H' s'/\Q σ' H') X.xe s
instance {X:Cx} {target:Expr} {t:TG}:CoeFun (PG X target t) (fun _=>∀ (pins:List (Addr × Obj)) (s:Shared) (σ : St) (H:Hp) (v:V) (u:Value) (Q:St->Hp->Prop),Inv X pins σ H s->RelV v u->t v σ H Q->
  wpAny (model X.prog X.w) X.A (assign target X.env u) (fun _ s'=>∃ σ' H',Inv X pins σ' H' s'/\Q σ' H') X.xe s):=⟨PG.run⟩
structure PGs (X:Cx) (ts:List Expr) (t:TGs):Prop where
 run:∀ (pins:List (Addr × Obj)) (s:Shared) (σ : St) (H:Hp) (vs:List V) (us:List Value) (Q:St->Hp->Prop),Inv X pins σ H s->Vals vs us->t vs σ H Q->
  wpAny (model X.prog X.w) X.A (assignInOrder ((assignEach ts X.env).map (·.2)) us) (fun _ s'=>∃ σ' H',Inv X pins σ' H' s'/\Q σ' H') X.xe s
instance {X:Cx} {ts:List Expr} {t:TGs}:CoeFun (PGs X ts t) (fun _=>∀ (pins:List (Addr × Obj)) (s:Shared) (σ : St) (H:Hp) (vs:List V) (us:List Value) (Q:St->Hp->Prop),Inv X pins σ H s->Vals vs us->t vs σ H Q->
  wpAny (model X.prog X.w) X.A (assignInOrder ((assignEach ts X.env).map (·.2)) us) (fun _ s'=>∃ σ' H',Inv X pins σ' H' s'/\Q σ' H') X.xe s):=⟨PGs.run⟩
section
variable {X:Cx} {pos:Pos}
def gName (i:Nat):TG:=fun v σ H Q=>Q (σ.set i (some v)) H
theorem pg_name {i:Nat} {x:Str} (hN:X.N.Nodup) (hi:X.N[i]? = some x) (hx:Loc X.env.scope x) (hf:X.fn x = true\/X.env.scope.names.lookup x = some .local:=by first | exact .inl rfl | exact .inr rfl | assumption):PG X (.Name x pos) (gName i):=by
 refine ⟨?_⟩
 intro pins s σ H v u Q I r h
 exact wpAny_assign_Name (store_ok I hN hi hx r (fun s' I'=>⟨_,H,I',h⟩) hf)
def gNil:TGs:=fun vs σ H Q=>vs = []/\Q σ H
def gCons (t:TG) (u:TGs):TGs:=fun vs σ H Q=>∃ v r,vs = v :: r/\t v σ H fun σ' H'=>u r σ' H' Q
theorem pgs_nil:PGs X [] gNil:=by
 refine ⟨?_⟩
 intro pins s σ H vs us Q I r h
 obtain ⟨e,h⟩:=h
 subst e
 cases r
 exact assignInOrder_nil ⟨σ,H,I,h⟩
theorem pgs_cons {e:Expr} {es:List Expr} {t:TG} {u:TGs} (h1:PG X e t) (h2:PGs X es u)
  (hs:(assignEach (e :: es) X.env).map (·.2) = assign e X.env :: (assignEach es X.env).map (·.2):=by rfl):PGs X (e :: es) (gCons t u):=by
 refine ⟨?_⟩
 intro pins s σ H vs us Q I r h
 obtain ⟨v,vr,e1,h⟩:=h
 subst e1
 cases r with
 | cons r rr=>
  rw [hs]
  refine assignInOrder_cons (thn (h1 pins s σ H _ _ _ I r h) fun _ s1 ⟨σ1,H1,I1,q1⟩=>?_)
  exact h2 pins s1 σ1 H1 _ _ Q I1 rr q1
def gTup (K:PySem.W.Frag) (n:Nat) (t:TGs):TG:=fun v σ H Q=>∃ a xs,v = .ref a/\SqT K H a xs/\xs.length = n/\t xs σ H Q
theorem pg_tup {es:List Expr} {k:Nat} {t:TGs} {n:Nat} (hc:X.calm = true) (h:PGs X es t)
  (hn:(assignEach es X.env).length = n:=by rfl) (hst:(assignEach es X.env).findIdx? (·.1) = none:=by rfl):PG X (.Tuple es k pos) (gTup X.K n t):=by
 refine ⟨?_⟩
 intro pins s σ H v u Q I r hw
 obtain ⟨a,xs,e1,hq,hl,hw⟩:=hw
 subst e1
 cases r
 obtain ⟨its,rv,ht,hz⟩:=I.tuple hq
 refine assign_Tuple_tuple (I.ok.hd hc) ht (by simp [hn,<- hl,rv.length]) hst fun h' hx=>?_
 have I1:Inv X pins σ H { s with heap:=h' }:=I.kept (t':=s.toks) fun b o e=>hx b o (Nat.ne_of_lt (Heap.lt_size e)) e
 exact h pins _ σ H xs _ Q I1 (by simpa using rv) hw
def tAsg (te:TE) (g:TG):TS:=fun D σ H=>te σ H fun x H1=>g x σ H1 D.nx
theorem ps_asg {tg e:Expr} {te:TE} {g:TG} (he:PE X e te) (hg:PG X tg g) (hs:swapsWithSole [tg] e pos.line X.env = pure false:=by rfl) (hw:swappedStores [tg] e X.env = pure none:=by rfl)
  (h1:(assignEach [tg] X.env).map (·.2) = [assign tg X.env]:=by rfl):PS X (.Assign [tg] e pos) (tAsg te g):=by
 refine ⟨?_⟩
 intro pins s σ H D I h
 refine wpAny_Assign_stores (thn (he pins s σ H _ I h) fun v s1 ⟨x,H1,I1,r1,q1⟩=>?_) hs hw
 rw [h1]
 exact thn (hg pins s1 σ H1 x v _ I1 r1 q1) fun _ s2 q=>q
theorem ps_set {i:Nat} {x:Str} {e:Expr} {te:TE} {pos':Pos} (hN:X.N.Nodup) (hi:X.N[i]? = some x) (hx:Loc X.env.scope x) (he:PE X e te) (hs:swapsWith e (some (.Name x pos')) pos.line X.env = pure false:=by rfl) (hf:X.fn x = true\/X.env.scope.names.lookup x = some .local:=by first | exact .inl rfl | exact .inr rfl | assumption) :
  PS X (.Assign [.Name x pos'] e pos) (tAsg te (gName i)):=by
 refine ⟨?_⟩
 intro pins s σ H D I h
 refine wpAny_Assign_Name (thn (he pins s σ H _ I h) fun v s1 ⟨y,H1,I1,r1,q1⟩=>?_) hs
 exact store_ok I1 hN hi hx r1 (fun s2 I2=>⟨_,H1,I2,q1⟩) hf
def tWhile (c:TT) (tb:TS):TS:=fun D σ H=>∃ W:Nat->St->Hp->Prop,(∃ m,W m σ H)/\∀ m σ H,W m σ H->
 c σ H fun b H1=>if b = true then ∃ N:St->Hp->Prop,(∀ σ' H',N σ' H'->∃ m',m' < m/\W m' σ' H')/\tb { D with nx:=N,ct:=N,bk:=D.nx } σ H1 else D.nx σ H1
theorem ps_while {c:Expr} {body:List Stmt} {tc:TT} {tb:TS} (hp:PassesOwn (model X.prog X.w) X.A X.env X.xe) (hc:PT X c tc) (hb:PSs X body tb):PS X (.While c body [] pos) (tWhile tc tb):=by
 refine ⟨?_⟩
 intro pins s σ H D I h
 obtain ⟨W,⟨m0,w0⟩,turn⟩:=h
 refine wpAny_While (codeAny_whileLoop (fun n s'=>∃ σ' H',Inv X pins σ' H' s'/\W n σ' H') ?_ m0 ⟨σ,H,I,w0⟩)
 rintro n s1 ⟨σ1,H1,I1,w1⟩
 refine wpAny_passesOwn hp (thn (hc pins s1 σ1 H1 _ I1 (turn n σ1 H1 w1)) fun b s2 ⟨H2,I2,q2⟩=>?_)
 cases b with
 | true=>
  obtain ⟨N,hN,q2⟩:=q2
  rw [if_pos rfl]
  refine wpAny_passesOwn hp (thn (hb pins s2 σ1 H2 _ I2 q2) fun f s3 q3=>?_)
  cases f with
  | next=>
   obtain ⟨σ3,H3,I3,n3⟩:=q3
   obtain ⟨m',hm,w3⟩:=hN σ3 H3 n3
   exact ⟨m',hm,σ3,H3,I3,w3⟩
  | cont=>
   obtain ⟨σ3,H3,I3,n3⟩:=q3
   obtain ⟨m',hm,w3⟩:=hN σ3 H3 n3
   exact ⟨m',hm,σ3,H3,I3,w3⟩
  | brk=>exact q3
  | ret v=>exact q3
 | false=>
  rw [if_neg Bool.false_ne_true]
  exact wpAny_execs_nil ⟨σ1,H2,I2,q2⟩
end
structure It where
 go:Nat->Hp->Prop
 yld:Nat->Hp->V->Hp->Prop
 stop:Nat->Hp->Prop
def FpOk (X:Cx) (pins:List (Addr × Obj)) (H:Hp) (b:Addr):Prop:=
 H b = none/\b ≠ X.env.locals/\b ∉ X.fs/\(b ∈ X.ex\/X.s₀.heap.objs.size<=b)/\(∀ x c,X.env.cells.lookup x = some c->c ≠ b)/\∀ p ∈ X.pn ++ pins,p.1 ≠ b
theorem Inv.fpOk {X:Cx} {pins:List (Addr × Obj)} {σ : St} {H H':Hp} {s:Shared} {b:Addr} (I:Inv X pins σ H s) (hb:s.heap.objs.size<=b) (hn:H' b = none):FpOk X pins H' b:=by
 refine ⟨hn,Nat.ne_of_gt (Nat.lt_of_lt_of_le I.lt hb),I.nofs hb,.inr (Nat.le_trans I.sz hb),fun x c e z=>?_,fun p hp z=>?_⟩
 ·obtain ⟨v,q⟩:=I.cell x c e
  exact absurd (Nat.lt_of_lt_of_le q.lt (by rw [z]; exact hb)) (Nat.lt_irrefl _)
 ·exact absurd (Nat.lt_of_lt_of_le (Heap.lt_size (I.pin p hp).1) (by rw [z]; exact hb)) (Nat.lt_irrefl _)
structure Turn (P:Program) (w:World) (K:PySem.W.Frag) (tg:Expr) (J:It) (fp:List Addr) (it:Addr) (tn:Nat->Heap->Prop):Prop where
 mem:it ∈ fp
 obj:∀ i h,tn i h->∀ b ∈ fp,∃ o,h.get? b = some o/\∀ v,o.data ≠ .cell v
 keep:∀ i h h',tn i h->(∀ b ∈ fp,∀ o,h.get? b = some o->h'.get? b = some o)->tn i h'
 item:∀ (X:Cx),X.prog = P->X.w = w->X.K = K->X.calm = true->∀ (i:Nat) (pins:List (Addr × Obj)) (s:Shared) (σ : St) (H:Hp) (E:Value->Shared->Prop),Inv X pins σ H s->(∀ b ∈ fp,FpOk X pins H b)->tn i s.heap->J.go i H->
  wpAny (model P w) X.A (pyNext (.ref it)) (fun r s1=>∃ u,r = some u/\
   wpAny (model P w) X.A (letOwnedTupleGo tg (.ref it) u) (fun _ s2=>∃ x H',Inv X pins σ H' s2/\RelV x u/\J.yld i H x H'/\tn (i + 1) s2.heap/\∀ b ∈ fp,H' b = none) E s1) E s
 done:∀ (X:Cx),X.prog = P->X.w = w->X.K = K->X.calm = true->∀ (i:Nat) (pins:List (Addr × Obj)) (s:Shared) (σ : St) (H:Hp) (E:Value->Shared->Prop),Inv X pins σ H s->(∀ b ∈ fp,FpOk X pins H b)->tn i s.heap->J.stop i H->
  wpAny (model P w) X.A (pyNext (.ref it)) (fun r s1=>r = none/\Inv X pins σ H s1) E s
 self:∀ (A:Around) (i:Nat) (s:Shared) (Q:Value->Shared->Prop) (E:Value->Shared->Prop),tn i s.heap->Q (.ref it) s->wpAny (model P w) A (pyIter (.ref it)) Q E s
abbrev TI:=St->Hp->(It->Hp->Prop)->Prop
def PIE (X:Cx) (pins:List (Addr × Obj)) (σ : St) (tg:Expr) (R:It->Hp->Prop) (itv:Value) (s2:Shared):Prop:=
 ∃ (it:Addr) (fp:List Addr) (tn:Nat->Heap->Prop) (J:It) (H':Hp),itv = .ref it/\Inv X pins σ H' s2/\Turn X.prog X.w X.K tg J fp it tn/\tn 0 s2.heap/\(∀ b ∈ fp,FpOk X pins H' b)/\R J H'
structure PI (X:Cx) (tg iter:Expr) (wi:TI):Prop where
 run:∀ (pins:List (Addr × Obj)) (s:Shared) (σ : St) (H:Hp) (R:It->Hp->Prop),Inv X pins σ H s->wi σ H R->
  wpAny (model X.prog X.w) X.A (eval iter X.env) (fun v s1=>wpAny (model X.prog X.w) X.A (pyIter v) (PIE X pins σ tg R) X.xe s1) X.xe s
instance {X:Cx} {tg iter:Expr} {wi:TI}:CoeFun (PI X tg iter wi) (fun _=>∀ (pins:List (Addr × Obj)) (s:Shared) (σ : St) (H:Hp) (R:It->Hp->Prop),Inv X pins σ H s->wi σ H R->
  wpAny (model X.prog X.w) X.A (eval iter X.env) (fun v s1=>wpAny (model X.prog X.w) X.A (pyIter v) (PIE X pins σ tg R) X.xe s1) X.xe s):=⟨PI.run⟩
theorem go_of {M:Model} {A:Around} {E:Value->Shared->Prop} {s:Shared} {tg:Expr} {it:Addr} {u:Value} {o:Obj} {n:String} {vs:Array Value} {Q:Unit->Shared->Prop} (ho:s.heap.get? it = some o) (hc:o.cls = .type n) (hd:o.data = .fields vs)
  (hn:["enumerate","zip","dict_itemiterator","dict_reverseitemiterator","odict_iterator","itertools.zip_longest","itertools.pairwise"].contains n = false) (hQ:Q () s):wpAny M A (letOwnedTupleGo tg (.ref it) u) Q E s:=by
 unfold letOwnedTupleGo
 cases tg <;> first
  | exact wpAny_pure hQ
  | (cases u <;> first
    | exact wpAny_pure hQ
    | (refine wpAny_bind (wpAny_load ho ?_)
       rw [hc,hd]
       show wpAny M A (if (["enumerate","zip","dict_itemiterator","dict_reverseitemiterator","odict_iterator","itertools.zip_longest","itertools.pairwise"].contains n && vs[0]? == some (rawInt _)) = true then _ else _) Q E s
       rw [if_neg (by intro h; rw [hn,Bool.false_and] at h; cases h)]
       exact wpAny_pure hQ))
def Itl (K:PySem.W.Frag) (a:Addr):It:=
 ⟨fun i H=>∃ xs x,SqL K H a xs/\xs[i]? = some x,fun i H x H'=>H' = H/\∀ xs,SqL K H a xs->xs[i]? = some x,fun i H=>∃ xs,SqL K H a xs/\xs.length<=i⟩
def Itr (lo:Int) (n:Nat):It:=⟨fun i _=>i < n,fun i H x H'=>H' = H/\x = .int (lo + i),fun i _=>n<=i⟩
theorem turn_list {P:Program} {w:World} {K:PySem.W.Frag} {tg:Expr} (a it:Addr):Turn P w K tg (Itl K a) [it] it (fun i h=>h.IsListIter it a i) where
 mem:=by simp
 obj:=fun i h st b hb=>by
  have e:b = it:=by simpa using hb
  subst e
  obtain ⟨o,e,c,d⟩:=st
  exact ⟨o,e,fun v z=>by rw [d] at z; cases z⟩
 keep:=fun i h h' st k=>st.at fun o e=>k it (by simp) o e
 item:=by
  intro X hP hw hK hc i pins s σ H E I hf st hg
  subst hP hw hK
  obtain ⟨xs,x,hq,hx⟩:=hg
  obtain ⟨its,rv,p,hz⟩:=I.list hq
  obtain ⟨u,hu,ru⟩:=rv.get hx
  obtain ⟨f0,f1,f2,f3,f4,f5⟩:=hf it (by simp)
  refine wpAny_pyNext_list_item st p.isList (x:=u) (by simpa using hu) fun h' st' sb=>?_
  have I1:Inv X pins σ H { s with heap:=h' }:=I.turned (t':=s.toks) (fun b o hb e=>(sb.2 b hb).trans e) f0 f1 f3 f4 f5
  obtain ⟨o,e,c,d⟩:=id st'
  exact ⟨u,rfl,go_of (s:={ s with heap:=h' }) e c d (by decide) ⟨x,H,I1,ru,⟨rfl,fun ys hy=>by rw [I.list_inj hy hq]; exact hx⟩,st',fun b hb=>(hf b hb).1⟩⟩
 done:=by
  intro X hP hw hK hc i pins s σ H E I hf st hg
  subst hP hw hK
  obtain ⟨xs,hq,hx⟩:=hg
  obtain ⟨its,rv,p,hz⟩:=I.list hq
  obtain ⟨f0,f1,f2,f3,f4,f5⟩:=hf it (by simp)
  have hl:=rv.length
  exact wpAny_pyNext_list_end (I.ok.hd hc) st p.isList (by simp; omega) fun h' eb=>⟨rfl,I.turned (t':=s.toks) (fun b o hb e=>eb b o hb e) f0 f1 f3 f4 f5⟩
 self:=fun _ _ _ _ _ st h=>wpAny_pyIter_listiter st h
theorem turn_range {P:Program} {w:World} {K:PySem.W.Frag} {tg:Expr} (it:Addr) (lo:Int) (n:Nat):Turn P w K tg (Itr lo n) [it] it (fun i h=>IsRangeIter h it (lo + (i:Nat) * 1) ((n:Int) - (i:Nat)) 1) where
 mem:=by simp
 obj:=fun i h st b hb=>by
  have e:b = it:=by simpa using hb
  subst e
  exact ⟨_,st,fun v z=>by
   have z':Data.fields _ = Data.cell v:=z
   cases z'⟩
 keep:=fun i h h' st k=>k it (by simp) _ st
 item:=by
  intro X hP hw hK hc i pins s σ H E I hf st hg
  subst hP hw hK
  obtain ⟨f0,f1,f2,f3,f4,f5⟩:=hf it (by simp)
  have W:=Walks.range (prog:=X.prog) (w:=X.w) (I.ok.hd hc) it lo 1 n
  refine W.item i s _ _ hg st fun v h' tk hv st' kk=>?_
  obtain ⟨t,rfl⟩:=hv
  have I1:Inv X pins σ H { s with heap:=h',toks:=tk }:=I.turned (fun b o hb e=>kk b o (by simpa using hb) e) f0 f1 f3 f4 f5
  refine ⟨_,rfl,go_of (s:={ s with heap:=h',toks:=tk }) (n:="range_iterator") st' rfl rfl (by decide) ⟨.int (lo + i),H,I1,⟨t,?_⟩,⟨rfl,rfl⟩,st',fun b hb=>(hf b hb).1⟩⟩
  rw [Int.mul_one]
 done:=by
  intro X hP hw hK hc i pins s σ H E I hf st hg
  subst hP hw hK
  obtain ⟨f0,f1,f2,f3,f4,f5⟩:=hf it (by simp)
  exact wpAny_pyNext_range_end (I.ok.hd hc) st (by have:n<=i:=hg; omega) fun h' eb=>⟨rfl,I.turned (t':=s.toks) (fun b o hb e=>eb b o hb e) f0 f1 f3 f4 f5⟩
 self:=fun _ _ _ _ _ st h=>wpAny_pyIter_rangeiter st h
section
variable {X:Cx} {tg:Expr}
def iList (K:PySem.W.Frag) (tl:TE):TI:=fun σ H R=>tl σ H fun x H1=>∃ a,x = .ref a/\(∃ xs,SqL K H1 a xs)/\R (Itl K a) H1
theorem pi_list {l:Expr} {tl:TE} (hl:PE X l tl):PI X tg l (iList X.K tl):=by
 refine ⟨?_⟩
 intro pins s σ H R I h
 refine thn (hl pins s σ H _ I h) fun v s1 ⟨x,H1,I1,r1,q1⟩=>?_
 obtain ⟨a,e,⟨xs,hq⟩,q⟩:=q1
 subst e
 cases r1
 obtain ⟨its,rv,p,hz⟩:=I1.list hq
 refine wpAny_pyIter_list p.isList ?_
 refine ⟨s1.heap.objs.size,[s1.heap.objs.size],_,_,H1,rfl,I1.kept (t':=s1.toks) fun b o e=>Heap.get?_push_of_some _ e,turn_list a _,⟨_,Heap.get?_push_size _ rfl,rfl,rfl⟩,fun b hb=>?_,q⟩
 have e:b = s1.heap.objs.size:=by simpa using hb
 subst e
 exact I1.fpOk (Nat.le_refl _) (I1.hok.fresh (Nat.le_refl _))
theorem range_it {pins:List (Addr × Obj)} {σ : St} {H:Hp} {s:Shared} {R:It->Hp->Prop} {E:Value->Shared->Prop} {lo hi:Int} {t u v:Tok} {tk:Nat} (I:Inv X pins σ H s) (h1 : -(2 ^ 62)<=lo) (h2:lo < 2 ^ 62) (h3 : -(2 ^ 62)<=hi) (h4:hi < 2 ^ 62)
  (q:R (Itr lo (hi - lo).toNat) H):wpAny (model X.prog X.w) X.A (pyIter (.ref s.heap.objs.size)) (PIE X pins σ tg R) E { s with heap:=s.heap.push { cls:=.type "range",data:=.fields #[.int lo t,.int hi u,.int 1 v] },toks:=tk }:=by
 refine wpAny_pyIter_range (IsRange.new ..) (small_one h1 h2 h3 h4) ?_
 have I1:Inv X pins σ H { s with heap:=s.heap.push { cls:=.type "range",data:=.fields #[.int lo t,.int hi u,.int 1 v] },toks:=tk }:=I.kept fun b o e=>Heap.get?_push_of_some _ e
 refine ⟨(s.heap.push { cls:=.type "range",data:=.fields #[.int lo t,.int hi u,.int 1 v] }).objs.size,[(s.heap.push { cls:=.type "range",data:=.fields #[.int lo t,.int hi u,.int 1 v] }).objs.size],_,_,H,rfl,
  I1.kept (t':=tk) fun b o e=>Heap.get?_push_of_some _ e,turn_range _ lo (hi - lo).toNat,?_,fun b hb=>?_,q⟩
 ·have e1:lo + ((0:Nat):Int) * 1 = lo:=by simp
  have e2:(((hi - lo).toNat:Nat):Int) - ((0:Nat):Int) = Builtin.Range.rangeSize lo hi 1:=by rw [rangeSize_one]; split <;> omega
  show IsRangeIter _ _ (lo + ((0:Nat):Int) * 1) ((((hi - lo).toNat:Nat):Int) - ((0:Nat):Int)) 1
  rw [e1,e2]
  exact Heap.get?_push_size _ rfl
 ·have e:b = (s.heap.push { cls:=.type "range",data:=.fields #[.int lo t,.int hi u,.int 1 v] }).objs.size:=by simpa using hb
  subst e
  exact I1.fpOk (Nat.le_refl _) (I1.hok.fresh (Nat.le_refl _))
def iRng1 (ta:TA):TI:=fun σ H R=>ta σ H fun vs H1=>∃ j:Int,vs = [.int j]/\-(2 ^ 62)<=j/\j < 2 ^ 62/\R (Itr 0 j.toNat) H1
def iRng2 (ta:TA):TI:=fun σ H R=>ta σ H fun vs H1=>∃ i j:Int,vs = [.int i,.int j]/\(-(2 ^ 62)<=i/\i < 2 ^ 62/\-(2 ^ 62)<=j/\j < 2 ^ 62)/\R (Itr i (j - i).toNat) H1
theorem pi_range1 {a:Expr} {ta:TA} {p pos:Pos} (hg:Gl X "range") (hm:X.mg "range" = none) (ha:PA X [a] ta) (hs:starEach [a] X.env = [(false,eval a X.env)]:=by rfl):PI X tg (.Call (.Name "range" p) [a] [] pos) (iRng1 ta):=by
 refine ⟨?_⟩
 intro pins s σ H R I h
 refine Call_ (ld_blt I hg hm boot_range (PyProof.Rows.callWith_type1 (thn (ha pos pins s σ H _ I h) fun us s1 ⟨vs,H1,I1,r1,q1⟩=>?_) hs rfl))
 obtain ⟨j,e,q1,q2,q⟩:=q1
 subst e
 cases r1 with
 | cons r rr=>
  cases rr
  obtain ⟨t,rfl⟩:=r
  exact call_range_1 (range_it I1 (by omega) (by omega) q1 q2 (by simpa using q))
theorem pi_range2 {a b:Expr} {ta:TA} {p pos:Pos} (hg:Gl X "range") (hm:X.mg "range" = none) (ha:PA X [a,b] ta) (hs:starEach [a,b] X.env = [(false,eval a X.env),(false,eval b X.env)]:=by rfl) (hs2:starEach [b] X.env = [(false,eval b X.env)]:=by rfl) :
  PI X tg (.Call (.Name "range" p) [a,b] [] pos) (iRng2 ta):=by
 refine ⟨?_⟩
 intro pins s σ H R I h
 refine Call_ (ld_blt I hg hm boot_range (PyProof.Rows.callWith_type1 (thn (ha pos pins s σ H _ I h) fun us s1 ⟨vs,H1,I1,r1,q1⟩=>?_) (by rw [hs,hs2]) (by rw [hs2]; rfl)))
 obtain ⟨i,j,e,⟨q1,q2,q3,q4⟩,q⟩:=q1
 subst e
 cases r1 with
 | cons r rr=>
  cases rr with
  | cons r' rr=>
   cases rr
   obtain ⟨t,rfl⟩:=r
   obtain ⟨t',rfl⟩:=r'
   exact call_range_2 (range_it I1 q1 q2 q3 q4 q)
def tFor (wi:TI) (g:TG) (tb:TS):TS:=fun D σ H=>wi σ H fun J H1=>∃ W:Nat->Nat->St->Hp->Prop,(∃ m,W 0 m σ H1)/\∀ i m σ H,W i m σ H->
 (J.stop i H/\D.nx σ H)\/(J.go i H/\∃ N:St->Hp->Prop,(∀ σ' H',N σ' H'->∃ m',m' < m/\W (i + 1) m' σ' H')/\∀ x H',J.yld i H x H'->g x σ H' fun σ2 H2=>tb { D with nx:=N,ct:=N,bk:=D.nx } σ2 H2)
def pinsAt (fp:List Addr) (h:Heap):List (Addr × Obj):=fp.filterMap fun b=>(h.get? b).map fun o=>(b,o)
theorem mem_pinsAt {fp:List Addr} {h:Heap} {b:Addr} {o:Obj} (hb:b ∈ fp) (e:h.get? b = some o):(b,o) ∈ pinsAt fp h:=List.mem_filterMap.mpr ⟨b,hb,by rw [e]; rfl⟩
theorem of_pinsAt {fp:List Addr} {h:Heap} {p:Addr × Obj} (hp:p ∈ pinsAt fp h):p.1 ∈ fp/\h.get? p.1 = some p.2:=by
 obtain ⟨b,hb,e⟩:=List.mem_filterMap.mp hp
 cases q:h.get? b with
 | none=>rw [q] at e; cases e
 | some o=>
  rw [q] at e
  have e':(b,o) = p:=Option.some.inj e
  subst e'
  exact ⟨hb,q⟩
theorem Inv.pinned {pins:List (Addr × Obj)} {σ : St} {H:Hp} {s:Shared} {fp:List Addr} (I:Inv X pins σ H s) (hf:∀ b ∈ fp,FpOk X pins H b) (ho:∀ b ∈ fp,∃ o,s.heap.get? b = some o/\∀ v,o.data ≠ .cell v):Inv X (pins ++ pinsAt fp s.heap) σ H s:=
 I.pins_of fun p hp=>(List.mem_append.mp hp).elim (fun z=>I.pin p (List.mem_append_right _ z)) fun z=>by
  obtain ⟨hb,e⟩:=of_pinsAt z
  obtain ⟨f0,f1,f2,_⟩:=hf p.1 hb
  obtain ⟨o,e',d⟩:=ho p.1 hb
  rw [e] at e'; cases e'
  exact ⟨e,f0,f1,f2,d⟩
theorem Inv.unpinned {pins pl:List (Addr × Obj)} {σ : St} {H:Hp} {s:Shared} (I:Inv X (pins ++ pl) σ H s):Inv X pins σ H s:=I.pins_of fun p hp=>I.pin p (List.mem_append_right _ (List.mem_append_left _ hp))
theorem ps_for {iter:Expr} {body:List Stmt} {wi:TI} {g:TG} {tb:TS} {pos:Pos} (hp:PassesOwn (model X.prog X.w) X.A X.env X.xe) (hc:X.calm = true) (hi:PI X tg iter wi) (hg:PG X tg g) (hb:PSs X body tb)
  (hs:∀ x,foldedSetIterable iter X.env x = pure x:=by intro _; rfl):PS X (.For tg iter body [] pos) (tFor wi g tb):=by
 refine ⟨?_⟩
 intro pins s σ H D I h
 refine wpAny_For (thn (hi pins s σ H _ I h) fun v s1 h1=>thn h1 fun itv s2 h2=>?_) hs
 obtain ⟨it,fp,tn,J,H2,e,I2,T,st2,f2,W,⟨m0,w0⟩,turn⟩:=h2
 subst e
 have stat:∀ {H':Hp},(∀ b ∈ fp,H' b = none)->∀ b ∈ fp,FpOk X pins H' b:=fun hn b hb=>⟨hn b hb,(f2 b hb).2⟩
 refine codeAny_forLoop_any (fun n s'=>∃ i σ' H',Inv X pins σ' H' s'/\tn i s'.heap/\(∀ b ∈ fp,H' b = none)/\W i n σ' H') ?_ m0 ⟨0,σ,H2,I2,st2,fun b hb=>(f2 b hb).1,w0⟩
 rintro n s3 ⟨i,σ3,H3,I3,st3,fr3,w3⟩
 rcases turn i n σ3 H3 w3 with ⟨stop,qn⟩ | ⟨go,N,hN,step⟩
 ·refine wpAny_passesOwn hp (thn (T.done X rfl rfl rfl hc i pins s3 σ3 H3 X.xe I3 (stat fr3) st3 stop) fun r s4 ⟨hr,I4⟩=>?_)
  subst hr
  exact wpAny_execs_nil ⟨σ3,H3,I4,qn⟩
 ·refine wpAny_passesOwn hp (thn (T.item X rfl rfl rfl hc i pins s3 σ3 H3 X.xe I3 (stat fr3) st3 go) fun r s4 ⟨u,hr,h4⟩=>?_)
  subst hr
  refine wpAny_passesOwn hp (thn h4 fun _ s5 ⟨x,H5,I5,r5,y5,st5,fr5⟩=>?_)
  have I5':=I5.pinned (stat fr5) (T.obj _ _ st5)
  refine wpAny_passesOwn hp (thn (hg _ s5 σ3 H5 x u _ I5' r5 (step x H5 y5)) fun _ s6 ⟨σ6,H6,I6,q6⟩=>?_)
  refine wpAny_passesOwn hp (thn (hb _ s6 σ6 H6 _ I6 q6) fun f s7 q7=>?_)
  have again:∀ {σ7:St} {H7:Hp},Inv X (pins ++ pinsAt fp s5.heap) σ7 H7 s7->N σ7 H7->∃ m,m < n/\∃ i σ' H',Inv X pins σ' H' s7/\tn i s7.heap/\(∀ b ∈ fp,H' b = none)/\W i m σ' H':=fun {σ7 H7} I7 n7=>by
   obtain ⟨m',hm,w7⟩:=hN σ7 H7 n7
   refine ⟨m',hm,i + 1,σ7,H7,I7.unpinned,T.keep _ _ _ st5 fun b hb o e=>(I7.pin (b,o) (List.mem_append_right _ (List.mem_append_right _ (mem_pinsAt hb e)))).1,fun b hb=>?_,w7⟩
   obtain ⟨o,e,d⟩:=T.obj _ _ st5 b hb
   exact (I7.pin (b,o) (List.mem_append_right _ (List.mem_append_right _ (mem_pinsAt hb e)))).2.1
  cases f with
  | next=>obtain ⟨σ7,H7,I7,n7⟩:=q7; exact again I7 n7
  | cont=>obtain ⟨σ7,H7,I7,n7⟩:=q7; exact again I7 n7
  | brk=>obtain ⟨σ7,H7,I7,q7⟩:=q7; exact ⟨σ7,H7,I7.unpinned,q7⟩
  | ret v=>obtain ⟨x7,σ7,H7,I7,r7,q7⟩:=q7; exact ⟨x7,σ7,H7,I7.unpinned,r7,q7⟩
end
theorem for_list {K:PySem.W.Frag} {a:Addr} {xs:List V} {g:TG} {tb:TS} {D:Ends} {σ : St} {H:Hp} (Pv:Nat->St->Hp->Prop) (h0:Pv 0 σ H) (hl:∀ i σ H,i<=xs.length->Pv i σ H->SqL K H a xs)
  (hs:∀ i x σ H,xs[i]? = some x->Pv i σ H->g x σ H fun σ2 H2=>tb { D with nx:=Pv (i + 1),ct:=Pv (i + 1),bk:=D.nx } σ2 H2) (hd:∀ σ H,Pv xs.length σ H->D.nx σ H) :
  ∃ W:Nat->Nat->St->Hp->Prop,(∃ m,W 0 m σ H)/\∀ i m σ H,W i m σ H->
   ((Itl K a).stop i H/\D.nx σ H)\/((Itl K a).go i H/\∃ N:St->Hp->Prop,(∀ σ' H',N σ' H'->∃ m',m' < m/\W (i + 1) m' σ' H')/\∀ x H',(Itl K a).yld i H x H'->g x σ H' fun σ2 H2=>tb { D with nx:=N,ct:=N,bk:=D.nx } σ2 H2):=by
 refine ⟨fun i m σ H=>m = xs.length - i/\i<=xs.length/\Pv i σ H,⟨xs.length,by simp,Nat.zero_le _,h0⟩,?_⟩
 rintro i m σ H ⟨rfl,hi,p⟩
 have q:=hl i σ H hi p
 by_cases hlt:i < xs.length
 ·refine .inr ⟨⟨xs,xs[i],q,by simp [hlt]⟩,Pv (i + 1),fun σ' H' p'=>⟨xs.length - (i + 1),by omega,rfl,hlt,p'⟩,fun x H' y=>?_⟩
  obtain ⟨e,y⟩:=y
  subst e
  exact hs i x σ _ (y xs q) p
 ·have e:i = xs.length:=by omega
  subst e
  exact .inl ⟨⟨xs,q,Nat.le_refl _⟩,hd σ H p⟩
theorem for_range {lo:Int} {n:Nat} {g:TG} {tb:TS} {D:Ends} {σ : St} {H:Hp} (Pv:Nat->St->Hp->Prop) (h0:Pv 0 σ H)
  (hs:∀ i σ H,i < n->Pv i σ H->g (.int (lo + i)) σ H fun σ2 H2=>tb { D with nx:=Pv (i + 1),ct:=Pv (i + 1),bk:=D.nx } σ2 H2) (hd:∀ σ H,Pv n σ H->D.nx σ H) :
  ∃ W:Nat->Nat->St->Hp->Prop,(∃ m,W 0 m σ H)/\∀ i m σ H,W i m σ H->
   ((Itr lo n).stop i H/\D.nx σ H)\/((Itr lo n).go i H/\∃ N:St->Hp->Prop,(∀ σ' H',N σ' H'->∃ m',m' < m/\W (i + 1) m' σ' H')/\∀ x H',(Itr lo n).yld i H x H'->g x σ H' fun σ2 H2=>tb { D with nx:=N,ct:=N,bk:=D.nx } σ2 H2):=by
 refine ⟨fun i m σ H=>m = n - i/\i<=n/\Pv i σ H,⟨n,by simp,Nat.zero_le _,h0⟩,?_⟩
 rintro i m σ H ⟨rfl,hi,p⟩
 by_cases hlt:i < n
 ·refine .inr ⟨hlt,Pv (i + 1),fun σ' H' p'=>⟨n - (i + 1),by omega,rfl,hlt,p'⟩,fun x H' y=>?_⟩
  obtain ⟨e,y⟩:=y
  subst e y
  exact hs i σ _ hlt p
 ·have e:i = n:=by omega
  subst e
  exact .inl ⟨Nat.le_refl _,hd σ H p⟩
abbrev R2:=V->V->Hp->VK->Prop
def OpR (X:Cx) (f:Value->Value->Sem Value) (r:R2):Prop:=
 ∀ (pins:List (Addr × Obj)) (s:Shared) (σ : St) (H:Hp) (x y:V) (v u:Value) (Q:VK),Inv X pins σ H s->RelV x v->RelV y u->r x y H Q->
  wpAny (model X.prog X.w) X.A (f v u) (EP X pins σ Q) X.xe s
def UnR (X:Cx) (f:Value->Sem Value) (r:V->Hp->VK->Prop):Prop:=
 ∀ (pins:List (Addr × Obj)) (s:Shared) (σ : St) (H:Hp) (x:V) (v:Value) (Q:VK),Inv X pins σ H s->RelV x v->r x H Q->
  wpAny (model X.prog X.w) X.A (f v) (EP X pins σ Q) X.xe s
def CallR (X:Cx) (f:Value) (r:List V->Hp->VK->Prop):Prop:=
 ∀ (pins:List (Addr × Obj)) (s:Shared) (σ : St) (H:Hp) (xs:List V) (us:List Value) (Q:VK),Inv X pins σ H s->Vals xs us->r xs H Q->
  wpAny (model X.prog X.w) X.A (call f us) (EP X pins σ Q) X.xe s
def tOp (r:R2) (ta tb:TE):TE:=fun σ H Q=>ta σ H fun x H1=>tb σ H1 fun y H2=>r x y H2 Q
def tUn (r:V->Hp->VK->Prop) (ta:TE):TE:=fun σ H Q=>ta σ H fun x H1=>r x H1 Q
inductive IrI (C:Int->Int->Prop) (g:Int->Int->V) (x y:V) (H:Hp) (Q:VK):Prop where
 | mk (i j:Int) (e1:x = .int i) (e2:y = .int j) (c:C i j) (q:Q (g i j) H)
def rI (C:Int->Int->Prop) (g:Int->Int->V):R2:=fun x y H Q=>IrI C g x y H Q
inductive IrI0 (g:Int->Int->V) (x y:V) (H:Hp) (Q:VK):Prop where
 | mk (i j:Int) (e1:x = .int i) (e2:y = .int j) (q:Q (g i j) H)
def rI0 (g:Int->Int->V):R2:=fun x y H Q=>IrI0 g x y H Q
def rU (g:Int->V):V->Hp->VK->Prop:=fun x H Q=>∃ i,x = .int i/\Q (g i) H
section
variable {X:Cx} {a b c:Expr} {ta tb tc:TE} {pos:Pos}
theorem binT (ha:PE X a ta) (hb:PE X b tb) {pins:List (Addr × Obj)} {s:Shared} {σ : St} {H:Hp} {R:V->V->Hp->Prop} (I:Inv X pins σ H s)
  (h:ta σ H fun x H1=>tb σ H1 fun y H2=>R x y H2) {Q:Value->Shared->Prop} {f:Value->Value->Sem Value}
  (hf:∀ v u s2 x y H2,Inv X pins σ H2 s2->RelV x v->RelV y u->R x y H2->wpAny (model X.prog X.w) X.A (f v u) Q X.xe s2) :
  wpAny (model X.prog X.w) X.A (eval a X.env) (fun v s₁=>wpAny (model X.prog X.w) X.A (eval b X.env) (fun u s₂=>wpAny (model X.prog X.w) X.A (f v u) Q X.xe s₂) X.xe s₁) X.xe s:=by
 refine thn (ha pins s σ H _ I h) fun v s1 ⟨x,H1,I1,r1,q1⟩=>?_
 refine thn (hb pins s1 σ H1 _ I1 q1) fun u s2 ⟨y,H2,I2,r2,q2⟩=>?_
 exact hf v u s2 x y H2 I2 r1 r2 q2
theorem pe_op {op:Operator} {r:R2} (ho:OpR X (binaryOp op) r) (ha:PE X a ta) (hb:PE X b tb):PE X (.BinOp a op b pos) (tOp r ta tb):=by
 refine ⟨?_⟩
 intro pins s σ H Q I h
 exact wpAny_BinOp (binT ha hb I h fun v u s2 x y H2 I2 rx ry q=>ho pins s2 σ H2 x y v u Q I2 rx ry q)
theorem pe_un {op:UnaryOp} {r:V->Hp->VK->Prop} (ho:UnR X (unaryOp op) r) (ha:PE X a ta):PE X (.UnaryOp op a pos) (tUn r ta):=by
 refine ⟨?_⟩
 intro pins s σ H Q I h
 exact UnaryOp_ (thn (ha pins s σ H _ I h) fun v s1 ⟨x,H1,I1,r1,q1⟩=>ho pins s1 σ H1 x v Q I1 r1 q1)
theorem opI {f:Value->Value->Sem Value} {C:Int->Int->Prop} {g:Int->Int->Int}
  (rule:∀ (i j:Int) (t u:Tok) (s:Shared) (Q:Value->Shared->Prop) (E:Value->Shared->Prop),C i j->Q (.int (g i j) s.toks) { s with toks:=s.toks + 1 }->wpAny (model X.prog X.w) X.A (f (.int i t) (.int j u)) Q E s) :
  OpR X f (rI C fun i j=>.int (g i j)):=by
 intro pins s σ H x y v u Q I rx ry h
 obtain ⟨i,j,rfl,rfl,hc,q⟩:=h
 obtain ⟨t,rfl⟩:=rx
 obtain ⟨t',rfl⟩:=ry
 exact rule i j t t' s _ _ hc ⟨.int (g i j),H,I.tok _,⟨_,rfl⟩,q⟩
theorem opI0 {f:Value->Value->Sem Value} {g:Int->Int->Int}
  (rule:∀ (i j:Int) (t u:Tok) (s:Shared) (Q:Value->Shared->Prop) (E:Value->Shared->Prop),Q (.int (g i j) s.toks) { s with toks:=s.toks + 1 }->wpAny (model X.prog X.w) X.A (f (.int i t) (.int j u)) Q E s) :
  OpR X f (rI0 fun i j=>.int (g i j)):=by
 intro pins s σ H x y v u Q I rx ry h
 obtain ⟨i,j,rfl,rfl,q⟩:=h
 obtain ⟨t,rfl⟩:=rx
 obtain ⟨t',rfl⟩:=ry
 exact rule i j t t' s _ _ ⟨.int (g i j),H,I.tok _,⟨_,rfl⟩,q⟩
theorem opB0 {f:Value->Value->Sem Value} {g:Int->Int->Bool}
  (rule:∀ (i j:Int) (t u:Tok) (s:Shared) (Q:Value->Shared->Prop) (E:Value->Shared->Prop),Q (.bool (g i j)) s->wpAny (model X.prog X.w) X.A (f (.int i t) (.int j u)) Q E s) :
  OpR X f (rI0 fun i j=>.bl (g i j)):=by
 intro pins s σ H x y v u Q I rx ry h
 obtain ⟨i,j,rfl,rfl,q⟩:=h
 obtain ⟨t,rfl⟩:=rx
 obtain ⟨t',rfl⟩:=ry
 exact rule i j t t' s _ _ ⟨.bl (g i j),H,I,rfl,q⟩
def CDiv (i j:Int):Prop:=0 < j/\j < 1073741824
def CMul (i j:Int):Prop:=(-(2 ^ 64) < i/\i < 2 ^ 64)\/(-(2 ^ 64) < j/\j < 2 ^ 64)
theorem CMul.ok {i j:Int} (h:CMul i j):IntMulOk i j:=by
 rcases h with ⟨h1,h2⟩ | ⟨h1,h2⟩
 ·exact .of_left (intBits_le_64 h1 h2)
 ·exact .of_right (intBits_le_64 h1 h2)
theorem op_add:OpR X (binaryOp .Add) (rI0 fun i j=>.int (i + j)):=opI0 fun _ _ _ _ _ _ _ q=>add_int q
theorem op_sub:OpR X (binaryOp .Sub) (rI0 fun i j=>.int (i - j)):=opI0 fun _ _ _ _ _ _ _ q=>sub_int q
theorem op_mul:OpR X (binaryOp .Mult) (rI CMul fun i j=>.int (i * j)):=opI fun _ _ _ _ _ _ _ hc q=>mul_int q hc.ok
theorem op_fdiv:OpR X (binaryOp .FloorDiv) (rI CDiv fun i j=>.int (i / j)):=opI fun i j _ _ _ _ _ hc q=>by
 have h1:(0:Int) < j:=hc.1
 have h2:j < 1073741824:=hc.2
 exact floordiv_int (by omega) (by rw [Int.fdiv_eq_ediv_of_nonneg i (by omega)]; exact q) (.inl (PyProof.noPylong_small (by omega)))
theorem op_mod:OpR X (binaryOp .Mod) (rI (fun _ j=>0 < j) fun i j=>.int (i % j)):=opI fun i j _ _ _ _ _ hc q=>by
 have h1:(0:Int) < j:=hc
 exact mod_int' (by omega) (by rw [Int.fmod_eq_emod_of_nonneg i (by omega)]; exact q)
theorem unI {f:Value->Sem Value} {g:Int->Int}
  (rule:∀ (i:Int) (t:Tok) (s:Shared) (Q:Value->Shared->Prop) (E:Value->Shared->Prop),Q (.int (g i) s.toks) { s with toks:=s.toks + 1 }->wpAny (model X.prog X.w) X.A (f (.int i t)) Q E s) :
  UnR X f (rU fun i=>.int (g i)):=by
 intro pins s σ H x v Q I rx h
 obtain ⟨i,rfl,q⟩:=h
 obtain ⟨t,rfl⟩:=rx
 exact rule i t s _ _ ⟨.int (g i),H,I.tok _,⟨_,rfl⟩,q⟩
theorem un_neg:UnR X (unaryOp .USub) (rU fun i=>.int (-i)):=unI fun _ _ _ _ _ q=>neg_int q
end
def scal:V->V->Bool
 | .non,.non=>true | .non,.int _=>true | .int _,.non=>true | .non,.bl _=>true | .bl _,.non=>true | .non,.str _=>true | .str _,.non=>true
 | .int _,.int _=>true | .bl _,.bl _=>true | .str _,.str _=>true | .byt _,.byt _=>true
 | .int _,.str _=>true | .str _,.int _=>true | .bl _,.str _=>true | .str _,.bl _=>true
 | _,_=>false
def rEq:R2:=fun x y H Q=>scal x y = true/\Q (.bl (decide (x = y))) H
def rNe:R2:=fun x y H Q=>scal x y = true/\Q (.bl (!decide (x = y))) H
theorem dec_int {i j:Int}:decide (V.int i = V.int j) = (i == j):=by
 rw [Bool.eq_iff_iff]
 simp
theorem dec_bl {i j:Bool}:decide (V.bl i = V.bl j) = (i == j):=by
 rw [Bool.eq_iff_iff]
 simp
theorem dec_str {i j:Str}:decide (V.str i = V.str j) = (i == j):=by
 rw [Bool.eq_iff_iff]
 simp
theorem dec_byt {i j:Array UInt8}:decide (V.byt i = V.byt j) = (i.toList == j.toList):=by
 rw [Bool.eq_iff_iff]
 cases i
 cases j
 simp
section
variable {X:Cx} {a b c:Expr} {ta tb tc:TE} {pos:Pos}
theorem fin_bl {pins:List (Addr × Obj)} {σ : St} {H:Hp} {s:Shared} {Q:VK} {k k':Bool} (I:Inv X pins σ H s) (q:Q (.bl k) H) (e:k = k'):EP X pins σ Q (.bool k') s:=by
 subst e
 exact ⟨.bl k,H,I,rfl,q⟩
theorem op_eq:OpR X (compareOp .Eq) rEq:=by
 intro pins s σ H x y v u Q I rx ry h
 obtain ⟨hs,q⟩:=h
 cases x with
 | non=>
  cases rx
  cases y with
  | non=>cases ry; exact PySem.EqNone.eq_none_none (fin_bl I q (by simp))
  | bl j=>cases ry; exact PySem.EqNone.eq_none_bool (fin_bl I q (by simp))
  | int j=>obtain ⟨t',rfl⟩:=ry; exact PySem.EqNone.eq_none_int (fin_bl I q (by simp))
  | str j=>obtain ⟨t',rfl⟩:=ry; exact PySem.EqNone.eq_none_str (fin_bl I q (by simp))
  | _=>exact absurd (show false = true from hs) Bool.false_ne_true
 | bl i=>
  cases rx
  cases y with
  | non=>cases ry; exact PySem.EqNone.eq_bool_none (fin_bl I q (by simp))
  | bl j=>cases ry; exact eq_bool (fin_bl I q dec_bl)
  | str j=>obtain ⟨t',rfl⟩:=ry; exact PySem.EqMixed.eq_bool_str (fin_bl I q (by simp))
  | _=>exact absurd (show false = true from hs) Bool.false_ne_true
 | int i=>
  obtain ⟨t,rfl⟩:=rx
  cases y with
  | non=>cases ry; exact PySem.EqNone.eq_int_none (fin_bl I q (by simp))
  | int j=>obtain ⟨t',rfl⟩:=ry; exact eq_int (fin_bl I q dec_int)
  | str j=>obtain ⟨t',rfl⟩:=ry; exact PySem.EqMixed.eq_int_str (fin_bl I q (by simp))
  | _=>exact absurd (show false = true from hs) Bool.false_ne_true
 | str i=>
  obtain ⟨t,rfl⟩:=rx
  cases y with
  | non=>cases ry; exact PySem.EqNone.eq_str_none (fin_bl I q (by simp))
  | bl j=>cases ry; exact PySem.EqMixed.eq_str_bool (fin_bl I q (by simp))
  | int j=>obtain ⟨t',rfl⟩:=ry; exact PySem.EqMixed.eq_str_int (fin_bl I q (by simp))
  | str j=>obtain ⟨t',rfl⟩:=ry; exact eq_str (fin_bl I q dec_str)
  | _=>exact absurd (show false = true from hs) Bool.false_ne_true
 | byt i=>
  obtain ⟨t,rfl⟩:=rx
  cases y with
  | byt j=>obtain ⟨t',rfl⟩:=ry; exact PySem.W.eq_bytes (fin_bl I q dec_byt)
  | _=>exact absurd (show false = true from hs) Bool.false_ne_true
 | _=>cases y <;> exact absurd (show false = true from hs) Bool.false_ne_true
theorem op_ne:OpR X (compareOp .NotEq) rNe:=by
 intro pins s σ H x y v u Q I rx ry h
 obtain ⟨hs,q⟩:=h
 cases x with
 | non=>
  cases rx
  cases y with
  | non=>cases ry; exact PySem.EqNone.ne_none_none (fin_bl I q (by simp))
  | bl j=>cases ry; exact PySem.EqNone.ne_none_bool (fin_bl I q (by simp))
  | int j=>obtain ⟨t',rfl⟩:=ry; exact PySem.EqNone.ne_none_int (fin_bl I q (by simp))
  | str j=>obtain ⟨t',rfl⟩:=ry; exact PySem.EqNone.ne_none_str (fin_bl I q (by simp))
  | _=>exact absurd (show false = true from hs) Bool.false_ne_true
 | bl i=>
  cases rx
  cases y with
  | non=>cases ry; exact PySem.EqNone.ne_bool_none (fin_bl I q (by simp))
  | bl j=>cases ry; exact ne_bool (fin_bl I q (congrArg not dec_bl))
  | str j=>obtain ⟨t',rfl⟩:=ry; exact PySem.EqMixed.ne_bool_str (fin_bl I q (by simp))
  | _=>exact absurd (show false = true from hs) Bool.false_ne_true
 | int i=>
  obtain ⟨t,rfl⟩:=rx
  cases y with
  | non=>cases ry; exact PySem.EqNone.ne_int_none (fin_bl I q (by simp))
  | int j=>obtain ⟨t',rfl⟩:=ry; exact ne_int (fin_bl I q (congrArg not dec_int))
  | str j=>obtain ⟨t',rfl⟩:=ry; exact PySem.EqMixed.ne_int_str (fin_bl I q (by simp))
  | _=>exact absurd (show false = true from hs) Bool.false_ne_true
 | str i=>
  obtain ⟨t,rfl⟩:=rx
  cases y with
  | non=>cases ry; exact PySem.EqNone.ne_str_none (fin_bl I q (by simp))
  | bl j=>cases ry; exact PySem.EqMixed.ne_str_bool (fin_bl I q (by simp))
  | int j=>obtain ⟨t',rfl⟩:=ry; exact PySem.EqMixed.ne_str_int (fin_bl I q (by simp))
  | str j=>obtain ⟨t',rfl⟩:=ry; exact ne_str (fin_bl I q (congrArg not dec_str))
  | _=>exact absurd (show false = true from hs) Bool.false_ne_true
 | byt i=>
  obtain ⟨t,rfl⟩:=rx
  cases y with
  | byt j=>obtain ⟨t',rfl⟩:=ry; exact PySem.W.ne_bytes (fin_bl I q (congrArg not dec_byt))
  | _=>exact absurd (show false = true from hs) Bool.false_ne_true
 | _=>cases y <;> exact absurd (show false = true from hs) Bool.false_ne_true
theorem op_lt:OpR X (compareOp .Lt) (rI0 fun i j=>.bl (decide (i < j))):=opB0 fun _ _ _ _ _ _ _ q=>lt_int q
theorem op_le:OpR X (compareOp .LtE) (rI0 fun i j=>.bl (decide (i<=j))):=opB0 fun _ _ _ _ _ _ _ q=>le_int q
theorem op_gt:OpR X (compareOp .Gt) (rI0 fun i j=>.bl (decide (j < i))):=opB0 fun _ _ _ _ _ _ _ q=>gt_int q
theorem op_in_str:OpR X (compareOp .In) (fun x y H Q=>∃ i j,x = .str i/\y = .str j/\Q (.bl (!(Builtin.Str.occurrences j i 0 j.length 1).isEmpty)) H):=by
 intro pins s σ H x y v u Q I rx ry h
 obtain ⟨i,j,rfl,rfl,q⟩:=h
 obtain ⟨t,rfl⟩:=rx
 obtain ⟨t',rfl⟩:=ry
 exact in_str (fin_bl I q rfl)
theorem OpR.or {f:Value->Value->Sem Value} {r r':R2} (h:OpR X f r) (h':OpR X f r'):OpR X f (fun x y H Q=>r x y H Q\/r' x y H Q):=by
 intro pins s σ H x y v u Q I rx ry q
 rcases q with q | q
 ·exact h pins s σ H x y v u Q I rx ry q
 ·exact h' pins s σ H x y v u Q I rx ry q
theorem nomark (b:Expr) {op:CmpOp} (h:op ≠ .In:=by decide) (h2:op ≠ .NotIn:=by decide):behindInMarks op b = false:=by
 have e1:(op == CmpOp.In) = false:=by cases op <;> first | rfl | exact absurd rfl h
 have e2:(op == CmpOp.NotIn) = false:=by cases op <;> first | rfl | exact absurd rfl h2
 cases b <;> simp [behindInMarks,e1,e2]
theorem pe_cmpR {op:CmpOp} {r:R2} (ho:OpR X (compareOp op) r) (ha:PE X a ta) (hb:PE X b tb) (hm:behindInMarks op b = false):PE X (.Compare a [op] [b] pos) (tOp r ta tb):=by
 refine ⟨?_⟩
 intro pins s σ H Q I h
 exact wpAny_Compare1 (binT ha hb I h fun v u s2 x y H2 I2 rx ry q=>ho pins s2 σ H2 x y v u Q I2 rx ry q) hm
inductive ITest (x:V) (H:Hp) (Q:Bool->Hp->Prop):Prop where
 | mk (k:Bool) (e:x = .bl k) (q:Q k H)
def tTest (t:TE):TT:=fun σ H Q=>t σ H fun x H'=>ITest x H' Q
theorem pt_cmpR {op:CmpOp} {r:R2} (ho:OpR X (compareOp op) r) (ha:PE X a ta) (hb:PE X b tb) (hm:behindInMarks op b = false):PT X (.Compare a [op] [b] pos) (tTest (tOp r ta tb)):=by
 refine ⟨?_⟩
 intro pins s σ H Q I h
 refine wpAny_isTrue_Compare1 (thn (ha pins s σ H _ I h) fun v s1 ⟨x,H1,I1,r1,q1⟩=>thn (hb pins s1 σ H1 _ I1 q1) fun u s2 ⟨y,H2,I2,r2,q2⟩=>
  thn (ho pins s2 σ H2 x y v u _ I2 r1 r2 q2) fun c s3 ⟨z,H3,I3,r3,k,e,q3⟩=>?_) hm
 subst e
 cases r3
 exact wpAny_truthy_bool ⟨H3,I3,q3⟩
def tChain (r r':R2) (ta tb tc:TE):TE:=fun σ H Q=>ta σ H fun x H1=>tb σ H1 fun y H2=>r x y H2 fun z H3=>∃ k,z = .bl k/\
 (if k = true then tc σ H3 fun w' H4=>r' y w' H4 Q else Q (.bl false) H3)
theorem pt_chain {op op':CmpOp} {r r':R2} (ho:OpR X (compareOp op) r) (ho':OpR X (compareOp op') r') (ha:PE X a ta) (hb:PE X b tb) (hc:PE X c tc)
  (hm:lastMarks [op,op'] [b,c] = false:=by with_unfolding_all rfl):PT X (.Compare a [op,op'] [b,c] pos) (tTest (tChain r r' ta tb tc)):=by
 refine ⟨?_⟩
 intro pins s σ H Q I h
 refine isTrue_chain (thn (ha pins s σ H _ I h) fun v s1 ⟨x,H1,I1,r1,q1⟩=>test_link (thn (hb pins s1 σ H1 _ I1 q1) fun u s2 ⟨y,H2,I2,r2,q2⟩=>
  thn (ho pins s2 σ H2 x y v u _ I2 r1 r2 q2) fun d s3 ⟨z,H3,I3,r3,k,e,q3⟩=>?_)) hm
 subst e
 cases r3
 refine wpAny_truthy_bool ?_
 cases k with
 | false=>
  obtain ⟨k',e',q'⟩:=q3
  cases e'
  exact ite_ff ⟨H3,I3,q'⟩
 | true=>
  refine ite_tt (test_last (thn (hc pins s3 σ H3 _ I3 q3) fun w' s4 ⟨z',H4,I4,r4,q4⟩=>thn (ho' pins s4 σ H4 y z' u w' _ I4 r2 r4 q4) fun d' s5 ⟨z2,H5,I5,r5,k2,e2,q5⟩=>?_))
  subst e2
  cases r5
  exact wpAny_truthy_bool ⟨H5,I5,q5⟩
theorem line63:(sizeLine:Nat) < 2 ^ 63:=by rw [sizeLine_eq]; decide
theorem op_add_str:OpR X (binaryOp .Add) (fun x y H Q=>∃ i j,x = .str i/\y = .str j/\i.length + j.length<=sizeLine/\Q (.str (i ++ j)) H):=by
 intro pins s σ H x y v u Q I rx ry h
 obtain ⟨i,j,rfl,rfl,hz,q⟩:=h
 obtain ⟨t,rfl⟩:=rx
 obtain ⟨t',rfl⟩:=ry
 exact add_str (fun t' tk=>⟨.str (i ++ j),H,I.tok _,⟨_,rfl⟩,q⟩) hz
theorem vals1 {x:V} {us:List Value} (r:Vals [x] us):∃ u,us = [u]/\RelV x u:=by
 cases r with
 | cons r1 r2=>cases r2; exact ⟨_,rfl,r1⟩
theorem vals2 {x y:V} {us:List Value} (r:Vals [x,y] us):∃ u w',us = [u,w']/\RelV x u/\RelV y w':=by
 cases r with
 | cons r1 r2=>
  cases r2 with
  | cons r3 r4=>cases r4; exact ⟨_,_,rfl,r1,r3⟩
theorem call_min2 (hc:X.calm = true):CallR X (.builtin "min") (fun xs H Q=>∃ i j,xs = [.int i,.int j]/\Q (.int (if j < i then j else i)) H):=by
 intro pins s σ H xs us Q I r h
 obtain ⟨i,j,rfl,q⟩:=h
 obtain ⟨u,w',rfl,⟨t,rfl⟩,⟨t',rfl⟩⟩:=vals2 r
 refine min_two_ints (I.ok.hd hc) fun h' tk k=>⟨_,H,I.kept k,?_,q⟩
 by_cases hj:j < i
 ·rw [if_pos hj,if_pos hj]; exact ⟨_,rfl⟩
 ·rw [if_neg hj,if_neg hj]; exact ⟨_,rfl⟩
end
structure ObjM (h:Heap) (x dx C:Addr) (mA:Str->Option Value):Prop where
 obj:h.get? x = some (PySem.W.instObj C dx)
 ns:h.Ns1 dx mA
 ne:dx ≠ x
theorem lookIn_ns {h:Heap} {dx:Addr} {mA:Str->Option Value} (n:h.Ns1 dx mA):∃ od,h.get? dx = some od/\∀ name,PySem.W.lookIn name od = some (mA name):=by
 obtain ⟨o,es,ep,ho,hd,hk,_,hm⟩:=n
 refine ⟨o,ho,fun name=>?_⟩
 have e:=hm name
 unfold nsFind findBy at e
 rw [<- Array.find?_toList] at e
 unfold PySem.W.lookIn
 rw [hd]
 dsimp only
 split
 ·rename_i y q
  rw [q] at e
  exact congrArg some e
 ·rename_i q
  rw [q] at e
  have a:es.toList.any (·.refKey) = false:=by
   rw [List.any_eq_false]
   intro y hy
   obtain ⟨z,t,hkey⟩:=hk y (Array.mem_toList_iff.mp hy)
   simp [DictEntry.refKey,hkey]
  have a':¬ es.toList.any (·.refKey) = true:=by rw [a]; exact Bool.false_ne_true
  rw [if_neg a']
  exact congrArg some e
theorem ObjM.look {h:Heap} {x dx C:Addr} {mA:Str->Option Value} (I:ObjM h x dx C mA):∃ od,PySem.W.InstAt h x (PySem.W.instObj C dx) C (some od)/\∀ name,PySem.W.lookIn name od = some (mA name):=
 let ⟨od,ho,hl⟩:=lookIn_ns I.ns
 ⟨od,⟨I.obj,rfl,rfl,ho⟩,hl⟩
section
variable {prog:Program} {w:World} {A:Around} {E:Value->Shared->Prop} {s:Shared} {K:PySem.W.Frag} {x dx C f:Addr} {mA:Str->Option Value} {name:Str} {v:Value}
theorem get_map {expr:Bool} {Q:Value->Shared->Prop} (X:K.In s.heap) (I:ObjM s.heap x dx C mA) (hg:PySem.W.plainGet K C name = true) (hh:PySem.W.hasDictIn K C = true)
  (ha:PySem.W.findIn K (.ref C) name = some none) (hv:mA name = some v) (hv':PySem.W.handedIn v = true) (h:Q v { s with toks:=s.toks + 1 }) :
  wpAny (model prog w) A (getAttr (.ref x) name expr) Q E s:=by
 obtain ⟨od,J,hl⟩:=I.look
 exact PySem.W.get_value X J (PySem.W.plainGet_of hg).1 (PySem.W.findObj_own hh ha rfl (by rw [hl,hv])) hv' h
theorem get_meth {pl:Sem Bool} {Q:Value × List Value->Shared->Prop} (X:K.In s.heap) (I:ObjM s.heap x dx C mA) (hg:PySem.W.plainGet K C name = true)
  (hf:PySem.W.findIn K (.ref C) name = some (some (.ref f))) (ht:PySem.W.isFn K (.ref f) = true) (hv:mA name = none) (h:Q (.ref f,[.ref x]) s) :
  wpAny (model prog w) A (getMethod (.ref x) name pl) Q E s:=by
 obtain ⟨od,J,hl⟩:=I.look
 exact PySem.W.method_fn X J (PySem.W.plainGet_of hg).1 (PySem.W.plainGet_of hg).2 hf (beq_iff_eq.mp ht) (by show (PySem.W.lookIn name od).map (·.isSome) = some false; rw [hl,hv]; rfl) h
theorem set_map {ns:List Str} {Q:Unit->Shared->Prop} (X:K.In s.heap) (I:ObjM s.heap x dx C mA)
  (hs:PySem.W.findIn K (.ref C) "__setattr__" = some (some (.builtin "object.__setattr__"))) (hp:PySem.W.plainOver K C = true) (ht:PySem.W.takerIn K C name = some none) (hh:PySem.W.hasDictIn K C = true)
  (hw:PySem.Within mA ns) (hsz:ns.length<=sizeLine)
  (h:∀ h',ObjM h' x dx C (fun y=>if y = name then some v else mA y)->Heap.SameBut dx s.heap h'->Q () { s with heap:=h',toks:=s.toks + 2 }) :
  wpAny (model prog w) A (setAttr (.ref x) name v) Q E s:=by
 obtain ⟨od,J,hl⟩:=I.look
 refine PySem.W.set_plain X J hs (PySem.W.osa_open (s:={ s with toks:=s.toks + 1 }) (r:=none) X J hp ht fun b=>?_)
 obtain ⟨cd,hc,hd'⟩:=PySem.W.any_some hh
 have hx:s.heap.get? x = some ⟨.ref C,some dx,.plain,#[]⟩:=I.obj
 refine wpAny_bind (wpAny_pure (wpAny_bind (wpAny_bind (wpAny_loadPart hx (wpAny_bind (PySem.W.Looks.here (s:={ s with toks:=s.toks + 1 }) (PySem.W.looks_clsIn X hc) ?_))))))
 rw [hd']
 refine wpAny_pure (a:=some dx) (wpAny_bind (wpAny_pure (wpAny_bind ?_)))
 refine wpAny_nsSet1 (s:={ s with toks:=s.toks + 1 }) I.ns fun h' hn2 hs2=>?_
 obtain ⟨oD,esD,epD,hoD,hdD,hcD⟩:=hn2.count (PySem.Within.cons name v hw)
 refine wpAny_bind (wpAny_lookBehind hoD (by rw [hdD]; exact pastItsLine_dict (Nat.le_trans hcD (by rw [List.length_cons]; omega))) ?_)
 exact wpAny_pure (h _ ⟨(hs2.2 _ (Ne.symm I.ne)).trans I.obj,hn2,I.ne⟩ hs2)
theorem make_map {R:Result->Shared->Prop} {vs:List Value} {kw:List (Str × Value)} (X:K.In s.heap) (hm:PySem.W.makesIn K C = true)
  (hi:PySem.W.findIn K (.ref C) "__init__" = some (some (.ref f))) (hf:PySem.W.typeIn K (.ref f) = some (.type "function"))
  (h:codeAny (model prog w) (A.under (.builtin "type.__call__" ⟨.ref C :: vs,kw⟩)) (.call (.ref f) ⟨.ref (s.heap.objs.size + 1) :: vs,kw⟩) (PySem.W.InitBack (s.heap.objs.size + 1) R)
   { s with heap:=(s.heap.push PySem.W.emptyDict).push (PySem.W.instObj C s.heap.objs.size) }) :
  codeAny (model prog w) A (.call (.ref C) ⟨vs,kw⟩) R s:=by
 obtain ⟨hh,g,d,t,os⟩:=s
 exact PySem.W.make_core (PySem.W.makes_of X hm) (PySem.W.looks_findIn X hi) (fun self=>PySem.W.bind_fn X self hf) (.inl rfl) h
end
def putF (f:Str) (v:V):List (Str × V)->List (Str × V)
 | []=>[(f,v)]
 | (g,x) :: r=>if g = f then (g,v) :: r else (g,x) :: putF f v r
theorem lookup_putF (f g:Str) (v:V):∀ fs:List (Str × V),(putF f v fs).lookup g = if g = f then some v else fs.lookup g
 | []=>by
  show List.lookup g [(f,v)] = _
  by_cases h:g = f
  ·have hb:(g == f) = true:=beq_iff_eq.mpr h
   simp only [List.lookup,hb,if_pos h]
  ·have hb:(g == f) = false:=beq_eq_false_iff_ne.mpr h
   simp only [List.lookup,hb,if_neg h]
 | (k,x) :: r=>by
  have ih:=lookup_putF f g v r
  rw [show putF f v ((k,x) :: r) = (if k = f then (k,v) :: r else (k,x) :: putF f v r) from rfl]
  by_cases hk:k = f
  ·rw [if_pos hk]
   by_cases h:g = k
   ·have hb:(g == k) = true:=beq_iff_eq.mpr h
    simp only [List.lookup,hb,if_pos (h.trans hk)]
   ·have hb:(g == k) = false:=beq_eq_false_iff_ne.mpr h
    simp only [List.lookup,hb,if_neg (fun e:g = f=>h (e.trans hk.symm))]
  ·rw [if_neg hk]
   by_cases h:g = k
   ·have hb:(g == k) = true:=beq_iff_eq.mpr h
    simp only [List.lookup,hb,if_neg (fun e:g = f=>hk (h.symm.trans e))]
   ·have hb:(g == k) = false:=beq_eq_false_iff_ne.mpr h
    simp only [List.lookup,hb]
    exact ih
theorem keys_putF (f:Str) (v:V):∀ fs:List (Str × V),f ∈ (putF f v fs).map (·.1)/\∀ g,g ∈ fs.map (·.1)->g ∈ (putF f v fs).map (·.1)
 | []=>⟨by simp [putF],fun g h=>by simp at h⟩
 | (k,x) :: r=>by
  obtain ⟨i1,i2⟩:=keys_putF f v r
  rw [show putF f v ((k,x) :: r) = (if k = f then (k,v) :: r else (k,x) :: putF f v r) from rfl]
  by_cases hk:k = f
  ·rw [if_pos hk]
   subst hk
   exact ⟨by simp,fun g h=>by simpa using h⟩
  ·rw [if_neg hk]
   refine ⟨?_,fun g h=>?_⟩
   ·rw [List.map_cons]
    exact List.mem_cons_of_mem _ i1
   ·rw [List.map_cons] at h |-
    rcases List.mem_cons.mp h with e | e
    ·exact List.mem_cons.mpr (.inl e)
    ·exact List.mem_cons_of_mem _ (i2 g e)
theorem length_putF (f:Str) (v:V):∀ fs:List (Str × V),(putF f v fs).length<=fs.length + 1
 | []=>by simp [putF]
 | (k,x) :: r=>by
  have ih:=length_putF f v r
  rw [show putF f v ((k,x) :: r) = (if k = f then (k,v) :: r else (k,x) :: putF f v r) from rfl]
  by_cases hk:k = f
  ·rw [if_pos hk,List.length_cons,List.length_cons]; omega
  ·rw [if_neg hk,List.length_cons,List.length_cons]; omega
theorem RelO.some_of {v:V} {o:Option Value} (r:RelO (some v) o):∃ u,o = some u/\RelV v u:=by
 cases o with
 | none=>exact (show False from r).elim
 | some u=>exact ⟨u,rfl,r⟩
theorem RelO.none_of {o:Option Value} (r:RelO none o):o = none:=by
 cases o with
 | none=>rfl
 | some u=>exact (show False from r).elim
theorem handed_of {v:V} {u:Value} (r:RelV v u):PySem.W.handedIn u = true:=by
 cases v with
 | non=>cases (show u = Value.none from r); rfl
 | bl b=>cases (show u = Value.bool b from r); rfl
 | int i=>obtain ⟨t,e⟩:=(show ∃ t,u = Value.int i t from r); cases e; rfl
 | str x=>obtain ⟨t,e⟩:=(show ∃ t,u = Value.str x t from r); cases e; rfl
 | byt b=>obtain ⟨t,e⟩:=(show ∃ t,u = Value.bytes b t from r); cases e; rfl
 | flt b=>obtain ⟨t,e⟩:=(show ∃ t,u = Value.float b t from r); cases e; rfl
 | ref a=>cases (show u = Value.ref a from r); rfl
 | ty n=>cases (show u = Value.type n from r); rfl
section
variable {P:Program} {w:World} {H H':Hp} {h h':Heap} {a C dx:Addr} {fs fs':List (Str × V)}
theorem ins_get (hok:HOk P w H h) (e:H a = some (.ins C dx fs)):∃ mA,ObjM h a dx C mA/\(∀ f,RelO (fs.lookup f) (mA f))/\PySem.Within mA (fs.map (·.1))/\fs.length<=1000/\H dx = some (.own a):=by
 obtain ⟨d,z,ne,ob,mA,n,r,q⟩:=(show ObjOk P w H h a (.ins C dx fs) from hok a _ e)
 exact ⟨mA,⟨ob,n,ne⟩,r,q,z,d⟩
end
structure Cls (K:PySem.W.Frag) (C:Addr):Prop where
 pg:PySem.W.plainGet K C Str.empty = true
 hd:PySem.W.hasDictIn K C = true
 po:PySem.W.plainOver K C = true
 sa:PySem.W.findIn K (.ref C) "__setattr__" = some (some (.builtin "object.__setattr__"))
theorem Cls.get {K:PySem.W.Frag} {C:Addr} (c:Cls K C) (f:Str):PySem.W.plainGet K C f = true:=c.pg
def NoAttr (K:PySem.W.Frag) (C:Addr) (f:Str):Prop:=PySem.W.findIn K (.ref C) f = some none
theorem NoAttr.taker {K:PySem.W.Frag} {C:Addr} {f:Str} (n:NoAttr K C f):PySem.W.takerIn K C f = some none:=by
 unfold PySem.W.takerIn
 rw [show PySem.W.findIn K (.ref C) f = some none from n]
 rfl
structure Meth (K:PySem.W.Frag) (C:Addr) (m:Str) (f:Addr):Prop where
 at_:PySem.W.findIn K (.ref C) m = some (some (.ref f))
 fn:PySem.W.isFn K (.ref f) = true
 kp:PySem.W.keepIn K (.ref f) = true
section
variable {X:Cx} {pins:List (Addr × Obj)} {σ : St} {H:Hp} {s:Shared} {a C dx:Addr} {fs:List (Str × V)} {f:Str} {v:V} {A:Around} {E:Value->Shared->Prop}
theorem getattr_ok {b:Bool} {Q:Value->Shared->Prop} (I:Inv X pins σ H s) (e:H a = some (.ins C dx fs)) (c:Cls X.K C) (n:NoAttr X.K C f) (l:fs.lookup f = some v)
  (h:∀ u s',Inv X pins σ H s'->RelV v u->Q u s'):wpAny (model X.prog X.w) A (getAttr (.ref a) f b) Q E s:=by
 obtain ⟨mA,O,r,_,_,_⟩:=ins_get I.hok e
 obtain ⟨u,hu,ru⟩:=RelO.some_of (v:=v) (o:=mA f) (by rw [<- l]; exact r f)
 exact get_map I.kIn O (c.get f) c.hd n hu (handed_of ru) (h u _ (I.tok _) ru)
theorem getmeth_ok {m:Str} {g:Addr} {pl:Sem Bool} {Q:Value × List Value->Shared->Prop} (I:Inv X pins σ H s) (e:H a = some (.ins C dx fs)) (c:Cls X.K C) (k:Meth X.K C m g) (l:fs.lookup m = none)
  (h:Q (.ref g,[.ref a]) s):wpAny (model X.prog X.w) A (getMethod (.ref a) m pl) Q E s:=by
 obtain ⟨mA,O,r,_,_,_⟩:=ins_get I.hok e
 have hn:mA m = none:=RelO.none_of (by rw [<- l]; exact r m)
 exact get_meth I.kIn O (c.get m) k.at_ k.fn hn h
theorem setattr_ok {y:V} {u:Value} {Q:Unit->Shared->Prop} (I:Inv X pins σ H s) (e:H a = some (.ins C dx fs)) (c:Cls X.K C) (n:NoAttr X.K C f) (hl:fs.length < 1000) (ry:RelV y u)
  (h:∀ s',Inv X pins σ (upd H a (.ins C dx (putF f y fs))) s'->Q () s'):wpAny (model X.prog X.w) A (setAttr (.ref a) f u) Q E s:=by
 obtain ⟨mA,O,r,wi,_,ho⟩:=ins_get I.hok e
 have hz:(fs.map (·.1)).length<=sizeLine:=by rw [List.length_map,sizeLine_eq]; omega
 refine set_map I.kIn O c.sa c.po n.taker c.hd wi hz fun h' O' sb=>h _ ?_
 have hd:∃ o,h'.get? dx = some o:=let ⟨o,_,_,e',_⟩:=O'.ns; ⟨o,e'⟩
 refine I.write (x:=a) (e:=dx) (by rw [e]; exact True.intro) (.inr ho) (fun b q hb z=>(sb.2 b hb).trans z) hd ?_
 refine ⟨by rw [upd_ne O.ne]; exact ho,?_,O.ne,O'.obj,_,O'.ns,fun g=>?_,fun g hg=>?_⟩
 ·have:=length_putF f y fs; omega
 ·show RelO ((putF f y fs).lookup g) (if g = f then some u else mA g)
  rw [lookup_putF]
  by_cases q:g = f
  ·rw [if_pos q,if_pos q]; exact ry
  ·rw [if_neg q,if_neg q]; exact r g
 ·by_cases q:g = f
  ·rw [q]; exact (keys_putF f y fs).1
  ·refine (keys_putF f y fs).2 g (wi g fun z=>hg ?_)
   show (if g = f then some u else mA g) = none
   rw [if_neg q]; exact z
theorem Inv.made (I:Inv X pins σ H s):Inv X pins σ (upd (upd H s.heap.objs.size (.own (s.heap.objs.size + 1))) (s.heap.objs.size + 1) (.ins C s.heap.objs.size []))
  { s with heap:=(s.heap.push PySem.W.emptyDict).push (PySem.W.instObj C s.heap.objs.size) }:=by
 have e1:(s.heap.push PySem.W.emptyDict).get? s.heap.objs.size = some PySem.W.emptyDict:=Heap.get?_push_size s.heap rfl
 have e2:((s.heap.push PySem.W.emptyDict).push (PySem.W.instObj C s.heap.objs.size)).get? (s.heap.objs.size + 1) = some (PySem.W.instObj C s.heap.objs.size):=by
  have:=Heap.get?_push_size (s.heap.push PySem.W.emptyDict) (o:=PySem.W.instObj C s.heap.objs.size) rfl
  rwa [Heap.size_push] at this
 have e3:(s.heap.push PySem.W.emptyDict).Ns s.heap.objs.size (fun _=>none):=⟨PySem.W.emptyDict,#[],_,e1,rfl,(fun e he=>absurd he (by simp)),fun _=>rfl⟩
 have I1:=I.laid (a:=s.heap.objs.size) (o:=.own (s.heap.objs.size + 1)) (h':=s.heap.push PySem.W.emptyDict) (t':=s.toks) (fun b u q=>Heap.get?_push_of_some _ q) (Nat.le_refl _) ⟨_,e1⟩
 refine I1.laid (a:=s.heap.objs.size + 1) (o:=.ins C s.heap.objs.size []) (t':=s.toks) (fun b u q=>Heap.get?_push_of_some _ q) (Nat.le_of_eq (Heap.size_push _ _)) ?_
 have ne:s.heap.objs.size ≠ s.heap.objs.size + 1:=Nat.ne_of_lt (Nat.lt_succ_self _)
 refine ⟨by rw [upd_ne ne,upd_same],Nat.zero_le _,ne,e2,fun _=>none,(Heap.Ns1.of_empty e3).at fun o q=>Heap.get?_push_of_some _ q,fun _=>True.intro,fun y hy=>absurd rfl hy⟩
theorem attr_of {prog:Program} {w:World} {env:Env} {e:Expr} {f:Str} {pos:Pos} {s:Shared} {Q:Value->Shared->Prop} (hb:attributeBase e f env (eval e env) = eval e env)
  (h:wpAny (model prog w) A (eval e env) (fun o s₁=>wpAny (model prog w) A (getAttr o f true) Q E s₁) E s):wpAny (model prog w) A (eval (.Attribute e f pos) env) Q E s:=
 Attribute_any_ h (by rw [arm_eval_Attribute,hb])
end
def tFld (K:PySem.W.Frag) (ta:TE) (f:Str):TE:=fun σ H Q=>ta σ H fun x H1=>∃ a C dx fs v,x = .ref a/\H1 a = some (.ins C dx fs)/\Cls K C/\NoAttr K C f/\fs.lookup f = some v/\Q v H1
def sFld (K:PySem.W.Frag) (ta tv:TE) (f:Str):TS:=fun D σ H=>tv σ H fun y H1=>ta σ H1 fun x H2=>∃ a C dx fs,x = .ref a/\H2 a = some (.ins C dx fs)/\Cls K C/\NoAttr K C f/\fs.length < 1000/\
 D.nx σ (upd H2 a (.ins C dx (putF f y fs)))
section
variable {X:Cx} {o e value:Expr} {f:Str} {pos pos' tpos:Pos} {ta tv:TE}
theorem pe_fld (he:PE X e ta) (hb:attributeBase e f X.env (eval e X.env) = eval e X.env):PE X (.Attribute e f pos) (tFld X.K ta f):=by
 refine ⟨?_⟩
 intro pins s σ H Q I h
 refine attr_of hb (thn (he pins s σ H _ I h) fun u s1 ⟨x,H1,I1,rx,a,C,dx,fs,v,ex,ea,c,n,l,q⟩=>?_)
 subst ex
 obtain rfl:u = Value.ref a:=rx
 exact getattr_ok I1 ea c n l fun u' s2 I2 ru=>⟨v,H1,I2,ru,q⟩
theorem ps_fld (ha:PE X o ta) (hv:PE X value tv) (hs:swapsWith value (some (.Attribute o f pos')) pos.line X.env = pure false):PS X (.Assign [.Attribute o f pos'] value pos) (sFld X.K ta tv f):=by
 refine ⟨?_⟩
 intro pins s σ H D I h
 refine plainObj_wpAny_Assign_Attribute (thn (hv pins s σ H _ I h) fun u s1 ⟨y,H1,I1,ry,q⟩=>thn (ha pins s1 σ H1 _ I1 q) fun ov s2 ⟨x,H2,I2,rx,a,C,dx,fs,ex,ea,c,n,l,q2⟩=>?_) hs
 subst ex
 obtain rfl:ov = Value.ref a:=rx
 exact setattr_ok I2 ea c n l ry fun s3 I3=>⟨σ,_,I3,q2⟩
theorem methcall_of {pl:Sem Bool} {m:Str} {apos:Pos} {args:List Expr} {pins:List (Addr × Obj)} {s:Shared} {σ : St} {H:Hp} {Q:Value->Shared->Prop} {te:TE} (he:PE X e te) (I:Inv X pins σ H s)
  (h:te σ H fun x H1=>∃ a C dx fs g,x = .ref a/\H1 a = some (.ins C dx fs)/\Cls X.K C/\Meth X.K C m g/\fs.lookup m = none/\
   ∀ s1,Inv X pins σ H1 s1->wpAny (model X.prog X.w) X.A (callWith pos (.ref g) [.ref a] (backTo pos (starEach args X.env)) (backToKw pos (keywordEach [] X.env))) Q X.xe s1)
  (ht:eval (.Call (.Attribute e m apos) args [] pos) X.env = (do
   let ov <- eval e X.env
   standAt apos.atName
   let (f,first) <- holding [ov] (getMethod ov m pl)
   callWith pos f first (backTo pos (starEach args X.env)) (backToKw pos (keywordEach [] X.env)))) :
  wpAny (model X.prog X.w) X.A (eval (.Call (.Attribute e m apos) args [] pos) X.env) Q X.xe s:=by
 refine PySem.W.methodCall_KW (pl:=pl) (thn (he pins s σ H _ I h) fun u s1 ⟨x,H1,I1,rx,a,C,dx,fs,g,ex,ea,c,k,l,q⟩=>?_) ht
 subst ex
 obtain rfl:u = Value.ref a:=rx
 exact getmeth_ok I1 ea c k l (q s1 I1)
end
section
variable {X:Cx} {pins:List (Addr × Obj)} {σ : St} {H:Hp} {s:Shared} {A:Around} {E:Value->Shared->Prop} {Q:Value->Shared->Prop} {c:Value} {b:Bool}
inductive TyOf (K:PySem.W.Frag) (H:Hp):V->Value->Prop where
 | non:TyOf K H .non (.type "NoneType")
 | bl (x:Bool):TyOf K H (.bl x) (.type "bool")
 | int (i:Int):TyOf K H (.int i) (.type "int")
 | str (x:Str):TyOf K H (.str x) (.type "str")
 | flt (x:UInt64):TyOf K H (.flt x) (.type "float")
 | lst {a:Addr} {xs:List V} (e:H a = some (.lst xs)):TyOf K H (.ref a) (.type "list")
 | frz {a:Addr} {o:Obj} {xs:List V} (e:H a = some (.frz o (.lst xs))):TyOf K H (.ref a) (.type "list")
 | tup {a:Addr} {xs:List V} (e:H a = some (.tup xs)):TyOf K H (.ref a) (.type "tuple")
 | dK {a:Addr} {kvs:List (Key × V)} (e:H a = some (.dK kvs)):TyOf K H (.ref a) (.type "dict")
 | dT {a:Addr} {kvs:List (List Key × V)} (e:H a = some (.dT kvs)):TyOf K H (.ref a) (.type "dict")
 | ins {a C dx:Addr} {fs:List (Str × V)} (e:H a = some (.ins C dx fs)) (cl:Cls K C) (ha:PySem.W.findIn K (.ref C) "__class__" = some (some (.builtin "object.__class__")))
   (hn:PySem.W.specialIn K (.builtin "object.__class__") "__get__" = some (some (.builtin "getset_descriptor.__get__"))) (htk:PySem.W.takesIn K (.builtin "object.__class__") = some true)
   (hm:PySem.W.mroIn K C (.type "object") = some true):TyOf K H (.ref a) (.ref C)
theorem isinst_ok {x:V} {u t:Value} (I:Inv X pins σ H s) (rx:RelV x u) (ty:TyOf X.K H x t) (e:PySem.W.kitOne X.K t c = some b) (h:∀ tk,Q (.bool b) { s with toks:=tk }) :
  wpAny (model X.prog X.w) A (call (.builtin "isinstance") [u,c]) Q E s:=by
 cases ty with
 | non=>cases (show u = Value.none from rx); exact PySem.W.kia_one PySem.W.kitx_none I.kIn True.intro e (fun z=>nomatch z) h
 | bl y=>cases (show u = Value.bool y from rx); exact PySem.W.kia_one PySem.W.kitx_bool I.kIn True.intro e (fun z=>nomatch z) h
 | int i=>obtain ⟨t,q⟩:=(show ∃ t,u = Value.int i t from rx); cases q; exact PySem.W.kia_one PySem.W.kitx_int I.kIn True.intro e (fun z=>nomatch z) h
 | str y=>obtain ⟨t,q⟩:=(show ∃ t,u = Value.str y t from rx); cases q; exact PySem.W.kia_one PySem.W.kitx_str I.kIn True.intro e (fun z=>nomatch z) h
 | flt y=>obtain ⟨t,q⟩:=(show ∃ t,u = Value.float y t from rx); cases q; exact PySem.W.kia_one PySem.W.kitx_float I.kIn True.intro e (fun z=>nomatch z) h
 | @lst a xs ea=>
  cases (show u = Value.ref a from rx)
  obtain ⟨_,_,n,_,h1⟩:=(show ObjOk X.prog X.w H s.heap a (.lst xs) from I.hok a _ ea)
  exact PySem.W.kia_one PySem.W.kitx_list I.kIn ⟨_,h1,rfl⟩ e (fun z=>nomatch z) h
 | @frz a ob xs ea=>
  cases (show u = Value.ref a from rx)
  obtain ⟨_,_,_,n,_,h1⟩:=(show ObjOk X.prog X.w H s.heap a (.frz ob (.lst xs)) from I.hok a _ ea)
  exact PySem.W.kia_one PySem.W.kitx_list I.kIn ⟨_,h1,rfl⟩ e (fun z=>nomatch z) h
 | @tup a xs ea=>
  cases (show u = Value.ref a from rx)
  obtain ⟨_,_,_,p⟩:=(show ObjOk X.prog X.w H s.heap a (.tup xs) from I.hok a _ ea)
  obtain ⟨o,h1,h2,_⟩:=p
  exact PySem.W.kia_one PySem.W.kitx_tuple I.kIn ⟨o,h1,h2⟩ e (fun z=>nomatch z) h
 | @dK a kvs ea=>
  cases (show u = Value.ref a from rx)
  obtain ⟨_,_,vs,_,p⟩:=(show ObjOk X.prog X.w H s.heap a (.dK kvs) from I.hok a _ ea)
  obtain ⟨o,es,ep,h1,h2,_⟩:=p
  exact PySem.W.kia_one PySem.W.kitx_dict I.kIn ⟨o,h1,h2.1⟩ e (fun z=>nomatch z) h
 | @dT a kvs ea=>
  cases (show u = Value.ref a from rx)
  obtain ⟨_,_,xs,_,o,es,ep,h1,h2,_⟩:=(show ObjOk X.prog X.w H s.heap a (.dT kvs) from I.hok a _ ea)
  exact PySem.W.kia_one PySem.W.kitx_dict I.kIn ⟨o,h1,h2.1⟩ e (fun z=>nomatch z) h
 | @ins a C dx fs ea cl ha hn htk hm=>
  cases (show u = Value.ref a from rx)
  obtain ⟨mA,O,_⟩:=ins_get I.hok ea
  obtain ⟨od,J,_⟩:=O.look
  exact PySem.W.kia_one (PySem.W.kitx_own (cl.get _) cl.hd ha hn htk hm) I.kIn J e (fun z=>nomatch z) h
end
structure Room (k:Nat) (A:Around):Prop where
 hd:A.handled = none
 dp:A.depth + 3 * k + 5 < recursionLimit
 un:A.units + 16 * k + 200 < cLine
theorem Room.mono {j k:Nat} {A:Around} (r:Room k A) (h:j<=k):Room j A:=⟨r.hd,by have:=r.dp; omega,by have:=r.un; omega⟩
theorem Room.deeper {k:Nat} {A:Around} (r:Room (k + 1) A) (env:Env):Room k (A.deeper env):=
 ⟨r.hd,by have:=r.dp; show A.depth + 1 + 3 * k + 5 < _; omega,by have:=r.un; show A.units + 3 + 16 * k + 200 < _; omega⟩
theorem make_depth {A:Around} {C:Addr} {us:List Value} {kw:List (Str × Value)}:(A.under (.builtin "type.__call__" ⟨.ref C :: us,kw⟩)).depth = A.depth + 1:=by
 first | rfl | simp [Around.under,Code.weight,Code.isCreation,Code.isGuard,Code.isCaller,Code.frames,Code.isFrame,guardIds]
theorem make_units {A:Around} {C:Addr} {us:List Value} {kw:List (Str × Value)}:(A.under (.builtin "type.__call__" ⟨.ref C :: us,kw⟩)).units = A.units + 1:=by
 first | rfl | simp [Around.under,Code.cUnits,Code.frames,Code.isFrame]
theorem Room.make {k:Nat} {A:Around} (r:Room (k + 1) A) (C:Addr) (us:List Value) (kw:List (Str × Value)):Room k (A.under (.builtin "type.__call__" ⟨.ref C :: us,kw⟩)):=
 ⟨r.hd,by have:=r.dp; rw [make_depth]; omega,by have:=r.un; rw [make_units]; omega⟩
theorem Room.depth {k:Nat} {A:Around} (r:Room k A):A.depth < recursionLimit:=by have:=r.dp; omega
theorem Room.units {k:Nat} {A:Around} (r:Room k A):A.units + 64 < cLine:=by have:=r.un; omega
theorem Room.units0 {k:Nat} {A:Around} (r:Room k A):A.units < cLine:=by have:=r.un; omega
def tNil:TA:=fun _ H Q=>Q [] H
def tCons (ta:TE) (tr:TA):TA:=fun σ H Q=>ta σ H fun x H1=>tr σ H1 fun xs H2=>Q (x :: xs) H2
section
variable {X:Cx} {e:Expr} {es:List Expr} {te:TE} {t:TA} {pos:Pos}
theorem pa_nil:PA X [] tNil:=⟨fun _ _ _ _ H Q I h=>Calls.spliced_nil ⟨[],H,I,.nil,h⟩⟩
theorem pa_cons (ha:PE X e te) (hr:PA X es t) (hs:starEach (e :: es) X.env = (false,eval e X.env) :: starEach es X.env:=by rfl):PA X (e :: es) (tCons te t):=by
 refine ⟨?_⟩
 intro pos pins s σ H Q I h
 rw [hs]
 show wpAny _ _ (spliced ((false,eval e X.env) :: backTo pos (starEach es X.env))) _ _ s
 refine Calls.spliced_cons (thn (ha pins s σ H _ I h) fun u s1 ⟨x,H1,I1,r1,q1⟩=>?_)
 exact thn (hr pos pins s1 σ H1 _ I1 q1) fun us s2 ⟨xs,H2,I2,r2,q2⟩=>⟨x :: xs,H2,I2,.cons r1 r2,q2⟩
def tTup (t:TA):TE:=fun σ H Q=>t σ H fun xs H1=>xs.length<=sizeLine/\∀ p,H1 p = none->Q (.ref p) (upd H1 p (.tup xs))
def tLst (t:TA):TE:=fun σ H Q=>t σ H fun xs H1=>xs.length<=sizeLine/\∀ p,H1 p = none->Q (.ref p) (upd H1 p (.lst xs))
theorem pe_tup {x1} (h:PA X es t):PE X (.Tuple es x1 pos) (tTup t):=by
 refine ⟨?_⟩
 intro pins s σ H Q I hq
 refine wpAny_Tuple_spliced (thn (h pos pins s σ H _ I hq) fun us s1 ⟨xs,H1,I1,r,z,q⟩=>⟨by rw [<- r.length]; exact z,?_⟩)
 have hf:H1 s1.heap.objs.size = none:=I1.hok.fresh (Nat.le_refl _)
 refine ⟨.ref s1.heap.objs.size,upd H1 s1.heap.objs.size (.tup xs),I1.laid (t':=s1.toks) (fun b u e=>Heap.get?_push_of_some _ e) (Nat.le_refl _) ?_,rfl,q _ hf⟩
 exact ⟨z,us,r,⟨_,Heap.get?_push_size _ rfl,rfl,_,rfl⟩⟩
theorem pe_lst (h:PA X es t):PE X (.List es pos) (tLst t):=by
 refine ⟨?_⟩
 intro pins s σ H Q I hq
 refine wpAny_List_spliced (thn (h pos pins s σ H _ I hq) fun us s1 ⟨xs,H1,I1,r,z,q⟩=>⟨by rw [<- r.length]; exact z,?_⟩)
 have hf:H1 s1.heap.objs.size = none:=I1.hok.fresh (Nat.le_refl _)
 refine ⟨.ref s1.heap.objs.size,upd H1 s1.heap.objs.size (.lst xs),I1.laid (t':=s1.toks) (fun b u e=>Heap.get?_push_of_some _ e) (Nat.le_refl _) ?_,rfl,q _ hf⟩
 exact ⟨z,us,0,r,Heap.get?_push_size _ rfl⟩
end
abbrev Sp:=List V->Hp->VK->XK->Prop
abbrev CXT:=List Env->Hp->Shared->XK->Value->Shared->Prop
structure Env0 (P:Program) (w:World) (K:PySem.W.Frag) (mg:Str->Option Value) (base:Heap) (A:Around) (outer:List Env) (s:Shared) (H:Hp):Prop where
 frames:A.frames = some outer
 mod:Mod K mg base
 bs:∀ b o,base.get? b = some o->s.heap.get? b = some o/\H b = none
 bsz:base.objs.size<=s.heap.objs.size
 funs:s.heap.FunFrames base outer
 frf:∀ b ∈ frs outer,H b = none
 hok:HOk P w H s.heap
 bare:AllBare s.gens
def CE (outer:List Env) (P:Program) (w:World) (H:Hp) (s:Shared) (Q:VK) (u:Value) (s':Shared):Prop:=
 ∃ v H',s'.os = s.os/\AllBare s'.gens/\Un (frs outer) [] H H' s.heap s'.heap/\HOk P w H' s'.heap/\RelV v u/\Q v H'
def CR (CX:CXT) (outer:List Env) (P:Program) (w:World) (H:Hp) (s:Shared) (Q:VK) (E:XK) (r:Result) (s':Shared):Prop:=
 match r with
 | .ok (.ret u)=>CE outer P w H s Q u s'
 | .ok _=>False
 | .error e=>CX outer H s E e s'
structure FnOk (P:Program) (w:World) (K:PySem.W.Frag) (mg:Str->Option Value) (base:Heap) (CX:CXT) (k:Nat) (f:Addr) (fd:FuncData) (ps:List Str) (sp:Sp):Prop where
 len:∀ vs H Q E,sp vs H Q E->vs.length = ps.length
 run:∀ (A:Around) (outer:List Env) (s:Shared) (H:Hp) (args:Args) (us:List Value) (vs:List V) (Q:VK) (E:XK),Room k A->Env0 P w K mg base A outer s H->BindsTo s fd args (ps.zip us)->Vals vs us->sp vs H Q E->
  codeAny (model P w) A (.call (.ref f) args) (CR CX outer P w H s Q E) s
theorem Env0.make {P:Program} {w:World} {K:PySem.W.Frag} {mg:Str->Option Value} {base:Heap} {A:Around} {outer:List Env} {s:Shared} {H:Hp} (e:Env0 P w K mg base A outer s H) (C:Addr) (us:List Value) (kw:List (Str × Value)) :
  Env0 P w K mg base (A.under (.builtin "type.__call__" ⟨.ref C :: us,kw⟩)) outer s H:=⟨by first | exact e.frames | (simpa [Around.under,Code.envs,Code.isFrame,pushEnvs] using e.frames),e.mod,e.bs,e.bsz,e.funs,e.frf,e.hok,e.bare⟩
section
variable {X:Cx} {pins:List (Addr × Obj)} {σ : St} {H:Hp} {s s':Shared}
theorem Inv.env0 (I:Inv X pins σ H s):Env0 X.prog X.w X.K X.mg X.base X.A X.stack s H:=
 ⟨I.ok.frames,I.ok.mod,I.bs,Nat.le_trans I.ok.bsz I.sz,I.stack,I.stkFree,I.hok,I.bare⟩
theorem Inv.after {Q:VK} {u:Value} (I:Inv X pins σ H s) (h:CE X.stack X.prog X.w H s Q u s'):EP X pins σ Q u s':=by
 obtain ⟨v,H',os,bare,un,hok,r,q⟩:=h
 obtain ⟨hh,g,d,t,os'⟩:=s'
 obtain rfl:os' = s.os:=os
 exact ⟨v,H',I.call (h':=hh) (g':=g) (d':=d) (t':=t) (ch:=[]) un hok bare (fun b z=>absurd z (by simp)),r,q⟩
end
def tCall (sp:Sp) (dvs:List V) (E:XK) (t:TA):TE:=fun σ H Q=>t σ H fun vs H1=>sp (vs ++ dvs) H1 Q E
def tMeth (C:Addr) (m:Str) (sp:Sp) (dvs:List V) (E:XK) (ta:TE) (t:TA):TE:=fun σ H Q=>ta σ H fun x H1=>∃ a dx fs,x = .ref a/\H1 a = some (.ins C dx fs)/\fs.lookup m = none/\
 t σ H1 fun vs H2=>sp (x :: (vs ++ dvs)) H2 Q E
def tMake (C:Addr) (sp:Sp) (dvs:List V) (E:XK) (t:TA):TE:=fun σ H Q=>t σ H fun vs H1=>∀ x dx,H1 x = none->H1 dx = none->dx ≠ x->
 sp (.ref x :: (vs ++ dvs)) (upd (upd H1 dx (.own x)) x (.ins C dx [])) (fun v H2=>v = .non/\Q (.ref x) H2) E
def Binds (K:PySem.W.Frag) (fd:FuncData) (ps:List Str) (ds:List Value):Prop:=
 ∀ (s:Shared) (us:List Value),K.In s.heap->(us ++ ds).length = ps.length->BindsTo s fd ⟨us,[]⟩ (ps.zip (us ++ ds))
theorem Binds.all {K:PySem.W.Frag} {fd:FuncData} {ps:List Str} (h:∀ us:List Value,us.length = ps.length->bindArgs fd ⟨us,[]⟩ = pure (ps.zip us)):Binds K fd ps []:=fun s us _ hl=>by
 rw [List.append_nil] at hl |-
 exact .of_eq (h us hl)
def Passes (CX:CXT) (X:Cx) (E:XK):Prop:=∀ (pins:List (Addr × Obj)) (σ : St) (H:Hp) (s:Shared) (e:Value) (s':Shared),Inv X pins σ H s->CX X.stack H s E e s'->X.xe e s'
section
variable {X:Cx} {CX:CXT} {k:Nat} {f C:Addr} {fd:FuncData} {ps:List Str} {sp:Sp} {dvs:List V} {ds:List Value} {E:XK} {x m:Str} {p pos apos:Pos} {e o:Expr} {es:List Expr} {ta:TE} {t:TA}
theorem run_fn {pins:List (Addr × Obj)} {σ : St} {H:Hp} {s:Shared} {Q:VK} {us:List Value} {vs:List V} (F:FnOk X.prog X.w X.K X.mg X.base CX k f fd ps sp) (hr:Room k X.A) (hb:Binds X.K fd ps ds) (hd:Vals dvs ds) (hx:Passes CX X E)
  (I:Inv X pins σ H s) (r:Vals vs us) (h:sp (vs ++ dvs) H Q E):wpAny (model X.prog X.w) X.A (call (.ref f) us) (EP X pins σ Q) X.xe s:=by
 have r2:Vals (vs ++ dvs) (us ++ ds):=r.append hd
 have hl:(us ++ ds).length = ps.length:=by rw [<- r2.length]; exact F.len _ _ _ _ h
 refine wpAny_call (codeAny_mono (F.run X.A X.stack s H ⟨us,[]⟩ (us ++ ds) (vs ++ dvs) Q E hr I.env0 (hb s us I.kIn hl) r2 h) fun r s' hq=>?_)
 cases r with
 | error e=>exact hx pins σ H s e s' I hq
 | ok fl=>
  cases fl with
  | ret u=>exact I.after hq
  | next=>exact False.elim hq
  | brk=>exact False.elim hq
  | cont=>exact False.elim hq
theorem pe_call (F:FnOk X.prog X.w X.K X.mg X.base CX k f fd ps sp) (hr:Room k X.A) (hg:Gl X x) (hm:X.mg x = some (.ref f)) (hk:PySem.W.keepIn X.K (.ref f) = true) (hb:Binds X.K fd ps ds) (hd:Vals dvs ds) (hx:Passes CX X E)
  (ha:PA X (e :: es) t) (hdb:(x == ("__debug__" : Str)) = false:=by decide) (he:starEach (e :: es) X.env = (false,eval e X.env) :: starEach es X.env:=by rfl) (hpl:(backTo pos (starEach es X.env)).any (·.1) = false:=by rfl) :
  PE X (.Call (.Name x p) (e :: es) [] pos) (tCall sp dvs E t):=by
 refine ⟨?_⟩
 intro pins s σ H Q I h
 refine wpAny_Call_Name_kw (ld_glob I hg hm ?_ hdb)
 refine PySem.W.callWith_K (h₀:=X.base) I.ok.mod.kin hk (thn (ha pos pins s σ H _ I h) fun us s1 ⟨vs,H1,I1,r,q⟩=>⟨I1.kIn,?_⟩) he hpl
 exact run_fn F hr hb hd hx I1 r q
theorem pe_meth {pl:Sem Bool} (he:PE X o ta) (c:Cls X.K C) (hm:Meth X.K C m f) (F:FnOk X.prog X.w X.K X.mg X.base CX k f fd ps sp) (hr:Room k X.A) (hb:Binds X.K fd ps ds) (hd:Vals dvs ds) (hx:Passes CX X E) (ha:PA X (e :: es) t)
  (hst:starEach (e :: es) X.env = (false,eval e X.env) :: starEach es X.env:=by rfl) (hpl:(backTo pos (starEach es X.env)).any (·.1) = false:=by rfl)
  (ht:eval (.Call (.Attribute o m apos) (e :: es) [] pos) X.env = (do
   let ov <- eval o X.env
   standAt apos.atName
   let (f,first) <- holding [ov] (getMethod ov m pl)
   callWith pos f first (backTo pos (starEach (e :: es) X.env)) (backToKw pos (keywordEach [] X.env))):=by rfl) :
  PE X (.Call (.Attribute o m apos) (e :: es) [] pos) (tMeth C m sp dvs E ta t):=by
 refine ⟨?_⟩
 intro pins s σ H Q I h
 refine PySem.W.methodCall_KW (pl:=pl) (thn (he pins s σ H _ I h) fun u s1 ⟨x,H1,I1,rx,a,dx,fs,ex,ea,l,q⟩=>?_) ht
 subst ex
 obtain rfl:u = Value.ref a:=rx
 refine getmeth_ok I1 ea c hm l ?_
 refine PySem.W.callWith_K (first:=[.ref a]) (h₀:=X.base) I.ok.mod.kin hm.kp (thn (ha pos pins s1 σ H1 _ I1 q) fun us s2 ⟨vs,H2,I2,r,q2⟩=>⟨I2.kIn,?_⟩) hst hpl
 exact run_fn (us:=.ref a :: us) (vs:=.ref a :: vs) F hr hb hd hx I2 (.cons rfl r) q2
theorem pe_meth0 {pl:Sem Bool} (he:PE X o ta) (c:Cls X.K C) (hm:Meth X.K C m f) (F:FnOk X.prog X.w X.K X.mg X.base CX k f fd ps sp) (hr:Room k X.A) (hb:Binds X.K fd ps ds) (hd:Vals dvs ds) (hx:Passes CX X E)
  (ht:eval (.Call (.Attribute o m apos) [] [] pos) X.env = (do
   let ov <- eval o X.env
   standAt apos.atName
   let (f,first) <- holding [ov] (getMethod ov m pl)
   callWith pos f first (backTo pos (starEach [] X.env)) (backToKw pos (keywordEach [] X.env))):=by rfl) :
  PE X (.Call (.Attribute o m apos) [] [] pos) (tMeth C m sp dvs E ta tNil):=by
 refine ⟨?_⟩
 intro pins s σ H Q I h
 refine PySem.W.methodCall_KW (pl:=pl) (thn (he pins s σ H _ I h) fun u s1 ⟨x,H1,I1,rx,a,dx,fs,ex,ea,l,q⟩=>?_) ht
 subst ex
 obtain rfl:u = Value.ref a:=rx
 refine getmeth_ok I1 ea c hm l ?_
 exact PySem.W.callWith_K0 (first:=[.ref a]) I1.kIn hm.kp (run_fn (us:=[.ref a]) (vs:=[.ref a]) F hr hb hd hx I1 (.cons rfl .nil) q)
structure Mk (K:PySem.W.Frag) (C f:Addr):Prop where
 makes:PySem.W.makesIn K C = true
 init:PySem.W.findIn K (.ref C) "__init__" = some (some (.ref f))
 fn:PySem.W.isFn K (.ref f) = true
 kp:PySem.W.keepIn K (.ref C) = true
theorem run_make {pins:List (Addr × Obj)} {σ : St} {H:Hp} {s:Shared} {Q:VK} {us:List Value} {vs:List V} (M:Mk X.K C f) (F:FnOk X.prog X.w X.K X.mg X.base CX k f fd ps sp) (hr:Room (k + 1) X.A) (hb:Binds X.K fd ps ds) (hd:Vals dvs ds)
  (hx:Passes CX X E) (I:Inv X pins σ H s) (r:Vals vs us)
  (h:∀ x dx,H x = none->H dx = none->dx ≠ x->sp (.ref x :: (vs ++ dvs)) (upd (upd H dx (.own x)) x (.ins C dx [])) (fun v H2=>v = .non/\Q (.ref x) H2) E) :
  wpAny (model X.prog X.w) X.A (call (.ref C) us) (EP X pins σ Q) X.xe s:=by
 have hq:=h (s.heap.objs.size + 1) s.heap.objs.size (I.hok.fresh (Nat.le_succ _)) (I.hok.fresh (Nat.le_refl _)) (Nat.ne_of_lt (Nat.lt_succ_self _))
 have I2:=Inv.made (C:=C) I
 have r2:Vals (V.ref (s.heap.objs.size + 1) :: (vs ++ dvs)) (Value.ref (s.heap.objs.size + 1) :: (us ++ ds)):=.cons rfl (r.append hd)
 have hl:(Value.ref (s.heap.objs.size + 1) :: us ++ ds).length = ps.length:=by
  have e:=r2.length
  rw [F.len _ _ _ _ hq] at e
  exact e.symm
 refine wpAny_call (make_map (f:=f) I.kIn M.makes M.init (beq_iff_eq.mp M.fn) (codeAny_mono (F.run _ X.stack _ _ ⟨Value.ref (s.heap.objs.size + 1) :: us,[]⟩ (Value.ref (s.heap.objs.size + 1) :: (us ++ ds)) _ _ E (hr.make C us [])
  (I2.env0.make C us []) (hb _ (Value.ref (s.heap.objs.size + 1) :: us) I2.kIn hl) r2 hq) fun r s' hq'=>?_))
 cases r with
 | error e=>exact hx pins σ _ _ e s' I2 hq'
 | ok fl=>
  cases fl with
  | ret u=>
   obtain ⟨v,H',I3,rv,ev,q3⟩:=I2.after hq'
   subst ev
   exact ⟨rv,⟨V.ref (s.heap.objs.size + 1),H',I3,rfl,q3⟩⟩
  | next=>exact False.elim hq'
  | brk=>exact False.elim hq'
  | cont=>exact False.elim hq'
theorem pe_make (M:Mk X.K C f) (F:FnOk X.prog X.w X.K X.mg X.base CX k f fd ps sp) (hr:Room (k + 1) X.A) (hg:Gl X x) (hm:X.mg x = some (.ref C)) (hb:Binds X.K fd ps ds) (hd:Vals dvs ds) (hx:Passes CX X E)
  (ha:PA X (e :: es) t) (hdb:(x == ("__debug__" : Str)) = false:=by decide) (he:starEach (e :: es) X.env = (false,eval e X.env) :: starEach es X.env:=by rfl) (hpl:(backTo pos (starEach es X.env)).any (·.1) = false:=by rfl) :
  PE X (.Call (.Name x p) (e :: es) [] pos) (tMake C sp dvs E t):=by
 refine ⟨?_⟩
 intro pins s σ H Q I h
 refine wpAny_Call_Name_kw (ld_glob I hg hm ?_ hdb)
 refine PySem.W.callWith_K (h₀:=X.base) I.ok.mod.kin M.kp (thn (ha pos pins s σ H _ I h) fun us s1 ⟨vs,H1,I1,r,q⟩=>⟨I1.kIn,?_⟩) he hpl
 exact run_make M F hr hb hd hx I1 r q
end
section
variable {X:Cx} {CX:CXT} {k:Nat} {f C:Addr} {fd:FuncData} {ps ks:List Str} {sp:Sp} {E:XK} {x m:Str} {p pos apos kpos:Pos} {e o:Expr} {es:List Expr} {kws:List Keyword} {te ta:TE} {t tk:TA} {nm:Option Str}
variable {g:List Value->List Value->List Value} {gV:List V->List V->List V}
end
structure FnScope (N P:List Str) (sc:Scope):Prop where
 kind:sc.kind = .function
 co:sc.isCoroutine = false
 gen:sc.isGenerator = false
 nd:N.Nodup
 pre:N.take P.length = P
 par:∀ x ∈ P,sc.names.lookup x = some .local\/sc.names.lookup x = some .cell
 nofree:∀ y ∈ sc.names,y.2 ≠ .free
theorem bindL_out {kindOf:Str->Option NameKind} {x:Str}:∀ {binds:List (Str × Value)} {m:Str->Option Value},(∀ v,(x,v) ∉ binds)->bindL kindOf binds m x = m x
 | [],_,_=>rfl
 | (n,v) :: r,m,h=>by
  unfold bindL
  rw [bindL_out fun w hw=>h w (List.mem_cons_of_mem _ hw)]
  split
  ·have:x ≠ n:=by rintro rfl; exact h v List.mem_cons_self
   simp [this]
  ·rfl
theorem bindC_out {kindOf:Str->Option NameKind} {x:Str}:∀ {binds:List (Str × Value)} {m:Str->Option Value},(∀ v,(x,v) ∉ binds)->bindC kindOf binds m x = m x
 | [],_,_=>rfl
 | (n,v) :: r,m,h=>by
  unfold bindC
  rw [bindC_out fun w hw=>h w (List.mem_cons_of_mem _ hw)]
  split
  ·rfl
  ·have:x ≠ n:=by rintro rfl; exact h v List.mem_cons_self
   simp [this]
theorem bindL_get {kindOf:Str->Option NameKind} {x:Str} {v:Value}:∀ {P:List Str} {vs:List Value} {i:Nat} {m:Str->Option Value},P.Nodup->P[i]? = some x->vs[i]? = some v->kindOf x = some .local->
  bindL kindOf (P.zip vs) m x = some v
 | [],_,_,_,_,h,_,_=>by simp at h
 | _ :: _,[],_,_,_,_,h,_=>by simp at h
 | p :: P,w :: vs,0,m,nd,h1,h2,hk=>by
  simp at h1 h2; subst h1; subst h2
  show bindL kindOf ((p,w) :: P.zip vs) m p = _
  unfold bindL
  rw [bindL_out fun v hv=>(List.nodup_cons.mp nd).1 (List.of_mem_zip hv).1,if_pos hk]
  simp
 | p :: P,w :: vs,i + 1,m,nd,h1,h2,hk=>by
  show bindL kindOf ((p,w) :: P.zip vs) m x = _
  unfold bindL
  exact bindL_get (i:=i) (List.nodup_cons.mp nd).2 (by simpa using h1) (by simpa using h2) hk
theorem bindC_get {kindOf:Str->Option NameKind} {x:Str} {v:Value}:∀ {P:List Str} {vs:List Value} {i:Nat} {m:Str->Option Value},P.Nodup->P[i]? = some x->vs[i]? = some v->kindOf x ≠ some .local->
  bindC kindOf (P.zip vs) m x = some v
 | [],_,_,_,_,h,_,_=>by simp at h
 | _ :: _,[],_,_,_,_,h,_=>by simp at h
 | p :: P,w :: vs,0,m,nd,h1,h2,hk=>by
  simp at h1 h2; subst h1; subst h2
  show bindC kindOf ((p,w) :: P.zip vs) m p = _
  unfold bindC
  rw [bindC_out fun v hv=>(List.nodup_cons.mp nd).1 (List.of_mem_zip hv).1,if_neg hk]
  simp
 | p :: P,w :: vs,i + 1,m,nd,h1,h2,hk=>by
  show bindC kindOf ((p,w) :: P.zip vs) m x = _
  unfold bindC
  exact bindC_get (i:=i) (List.nodup_cons.mp nd).2 (by simpa using h1) (by simpa using h2) hk
def start (N:List Str) (vs:List V):St:=vs.map some ++ List.replicate (N.length - vs.length) none
def cxOf (CX:CXT) (P:Program) (w:World) (K:PySem.W.Frag) (mg:Str->Option Value) (base:Heap) (N:List Str) (qual:Str) (scope:Scope) (f:Addr) (cd:Value) (A:Around) (outer:List Env) (s:Shared) (H:Hp) (E:XK):Cx where
 prog:=P
 w:=w
 K:=K
 mg:=mg
 base:=base
 A:=A.deeper (envOfC qual scope s.heap.objs.size f cd)
 N:=N
 s₀:=s
 H₀:=H
 env:=envOfC qual scope s.heap.objs.size f cd
 outer:=outer
 stack:=envOfC qual scope s.heap.objs.size f cd :: outer
 ex:=[]
 calm:=true
 fn:=fun _=>true
 pn:=[]
 xe:=fun e s'=>wpAny (model P w) (A.deeper (envOfC qual scope s.heap.objs.size f cd)) (leaving (envOfC qual scope s.heap.objs.size f cd) e) (fun _ s''=>CX outer H s E e s'') (fun e' s''=>CX outer H s E e' s'') s'
theorem cell_has {sc:Scope} {n:Nat} {x:Str} (h:sc.names.lookup x = some .cell):∃ c,(cellsFrom n sc.names []).lookup x = some c:=by
 have q:=PySem.W.cellsFrom_some sc.names n [] (.inl h)
 exact Option.isSome_iff_exists.mp q
theorem inv_start {CX:CXT} {P:Program} {w:World} {K:PySem.W.Frag} {mg:Str->Option Value} {base:Heap} {N ps:List Str} {qual:Str} {scope:Scope} {f:Addr} {cd:Value} {A:Around} {outer:List Env} {s s1:Shared} {H:Hp} {E:XK} {us:List Value} {vs:List V}
  (S:FnScope N ps scope) (hd:A.handled = none) (e0:Env0 P w K mg base A outer s H) (hl:vs.length = ps.length) (r:Vals vs us)
  (x:InCallC s s.heap.objs.size (bindL (envOfC qual scope s.heap.objs.size f cd).kindOf (ps.zip us) fun _=>none) (cellsFrom (s.heap.objs.size + 1) scope.names []) (bindC (envOfC qual scope s.heap.objs.size f cd).kindOf (ps.zip us) fun _=>none) s1) :
  Inv (cxOf CX P w K mg base N qual scope f cd A outer s H E) [] (start N vs) H s1:=by
 have hpl:ps.length<=N.length:=by have:=congrArg List.length S.pre; rw [List.length_take] at this; omega
 obtain ⟨h1,tk,rfl,hk⟩:=x.done
 have noA:∀ b:Addr,b ∉ (cxOf CX P w K mg base N qual scope f cd A outer s H E).ex:=fun b z=>absurd (show b ∈ ([]:List Addr) from z) (by simp)
 refine ⟨⟨e0.mod,S.kind,rfl,rfl,Nat.le_refl _,fun y z c h1 h2=>?_,fun y hy=>?_,fun y c _ h=>?_,fun _=>hd,Around.frames_deeper e0.frames,.inr ⟨rfl,rfl⟩,fun b z=>absurd z (noA b),e0.bs,e0.bsz,fun b _ _=>noA b,fun b z=>absurd z (noA b),e0.funs,e0.frf⟩,
  rfl,e0.bare,Un.kept hk,⟨_,x.toInCall.ns,fun i y v h1 h2 h3=>?_⟩,fun y c h=>⟨_,x.cell y c h⟩,e0.hok.fresh (Nat.le_refl _),fun y c h=>?_,fun p hp=>absurd (show p ∈ ([]:List (Addr × Obj)) from hp) (by simp),e0.hok.kept hk,?_⟩
 ·exact name_of_addr x.apart (PySem.mem_of_lookup h1) (PySem.mem_of_lookup h2)
 ·have hy:scope.names.lookup y = some .cell\/scope.names.lookup y = some .free:=hy
  rcases hy with hy | hy
  ·exact cell_has hy
  ·exact absurd rfl (S.nofree _ (PySem.mem_of_lookup hy))
 ·exact Nat.le_of_lt (x.above y c (PySem.mem_of_lookup h))
 ·have hi:i < vs.length:=by
   unfold start at h2
   by_cases hi:i < vs.length
   ·exact hi
   ·rw [List.getElem?_append_right (by simpa using hi)] at h2
    rw [List.getElem?_replicate] at h2
    split at h2 <;> cases h2
  have ha:vs[i]? = some v:=by
   unfold start at h2
   rw [List.getElem?_append_left (by simpa using hi),List.getElem?_map] at h2
   cases e:vs[i]? with
   | none=>rw [e] at h2; cases h2
   | some a=>rw [e] at h2; cases h2; rfl
  obtain ⟨u,hu,rv⟩:=r.get ha
  have hp:ps[i]? = some y:=by
   rw [<- S.pre,List.getElem?_take_of_lt (by omega)]; exact h1
  have ndP:ps.Nodup:=by rw [<- S.pre]; exact S.nd.sublist (List.take_sublist _ _)
  refine ⟨u,rv,?_⟩
  rcases S.par y (List.mem_of_getElem? hp) with k | k
  ·exact .inl ⟨k,bindL_get ndP hp hu k⟩
  ·obtain ⟨c,e⟩:=cell_has (n:=s.heap.objs.size + 1) k
   refine .inr ⟨.inl k,c,e,?_⟩
   have q:=x.cell y c e
   rw [bindC_get ndP hp hu (by show scope.names.lookup y ≠ _; rw [k]; decide)] at q
   exact q
 ·exact e0.hok.fresh (Nat.le_of_lt (x.above y c (PySem.mem_of_lookup h)))
 ·unfold start
  show _ = N.length
  rw [List.length_append,List.length_map,List.length_replicate]
  omega
theorem fn_of {CX:CXT} {P:Program} {w:World} {K:PySem.W.Frag} {mg:Str->Option Value} {base:Heap} {k:Nat} {f:Addr} {name qual:Str} {params:Arguments} {body:List Stmt} {scope:Scope} {dV kV doc pm cdv ct oc:Value} {an od:Option Addr}
  {osl:Array (Option Value)} {N ps:List Str} {sp:Sp} (lk:K.lookup f = some ⟨oc,od,.func (PySem.W.fnOf name qual params body scope dV kV doc pm an cdv ct),osl⟩) (hcd:PySem.W.codeIn K cdv qual = true) (S:FnScope N ps scope)
  (len:∀ vs H Q E,sp vs H Q E->vs.length = ps.length)
  (hbody:∀ (A:Around) (outer:List Env) (s:Shared) (H:Hp) (vs:List V) (Q:VK) (E:XK),Room k (A.deeper (envOfC qual scope s.heap.objs.size f cdv))->sp vs H Q E->
   ∃ t,PSs (cxOf CX P w K mg base N qual scope f cdv A outer s H E) body t/\t { nx:=fun _ H'=>Q .non H',rt:=Q } (start N vs) H) :
  FnOk P w K mg base CX (k + 1) f (PySem.W.fnOf name qual params body scope dV kV doc pm an cdv ct) ps sp:=by
 refine ⟨len,fun A outer s H args us vs Q E hr e0 hb r hsp=>?_⟩
 have hl:=len _ _ _ _ hsp
 have KX:K.In s.heap:=e0.mod.kin.keeps fun b o e=>(e0.bs b o e).1
 have lim:s.heap.NoLimit:=e0.mod.nolimit.keeps fun b o e=>(e0.bs b o e).1
 have hkind:∀ y ∈ ps.zip us,scope.names.lookup y.1 = some .local\/(scope.names.lookup y.1 = some .cell/\((cellsFrom (s.heap.objs.size + 1) scope.names []).lookup y.1).isSome = true):=fun ⟨n,v⟩ hy=>by
  rcases S.par n (List.of_mem_zip hy).1 with q | q
  ·exact .inl q
  ·exact .inr ⟨q,PySem.W.cellsFrom_some _ _ _ (.inl q)⟩
 refine codeAny_call_function hr.depth (KX _ _ lk) rfl S.co S.gen rfl (PySem.W.codeRec_of KX hcd) (hb _ _ _ _ ?_)
 refine wpAny_newFunctionEnv_cells S.kind hkind fun env he s1 x=>?_
 subst he
 refine ⟨lim.keeps x.toInCall.keep,codeAny_func ?_⟩
 obtain ⟨t,ht,hq⟩:=hbody A outer s H vs Q E (hr.deeper _) hsp
 have I:Inv (cxOf CX P w K mg base N qual scope f cdv A outer s H E) [] (start N vs) H s1:=inv_start S hr.hd e0 hl r x
 refine wpAny_mono (ht [] s1 (start N vs) H _ I hq) (fun fl s' hs=>?_) fun e s' hs=>hs
 have fin:∀ {σ':St} {H':Hp} {v:V} {u:Value},Inv (cxOf CX P w K mg base N qual scope f cdv A outer s H E) [] σ' H' s'->RelV v u->Q v H'->CE outer P w H s Q u s':=
  fun {σ' H' v u} J rv q=>⟨v,H',J.os,J.bare,J.base,J.hok,rv,q⟩
 cases fl with
 | ret u=>
  obtain ⟨v,σ',H',J,rv,q⟩:=hs
  exact fin J rv q
 | next=>
  obtain ⟨σ',H',J,q⟩:=hs
  exact fin (v:=V.non) (u:=Value.none) J rfl q
 | brk=>
  obtain ⟨_,_,_,q⟩:=hs
  exact False.elim q
 | cont=>
  obtain ⟨_,_,_,q⟩:=hs
  exact False.elim q
section
variable {X:Cx} {x:Str} {p pos:Pos} {e:Expr} {es:List Expr} {t:TA} {id T:String} {r:List V->Hp->VK->Prop}
def tCB (r:List V->Hp->VK->Prop) (t:TA):TE:=fun σ H Q=>t σ H fun vs H1=>r vs H1 Q
theorem pe_callB (hc:CallR X (.builtin id) r) (hg:Gl X x) (hm:X.mg x = none) (hv:bootBuiltins x = some (.builtin id)) (ha:PA X (e :: es) t) (hn:x ≠ "__name__":=by decide) (hdb:(x == ("__debug__" : Str)) = false:=by decide)
  (he:starEach (e :: es) X.env = (false,eval e X.env) :: starEach es X.env:=by rfl) (hpl:(backTo pos (starEach es X.env)).any (·.1) = false:=by rfl):PE X (.Call (.Name x p) (e :: es) [] pos) (tCB r t):=by
 refine ⟨?_⟩
 intro pins s σ H Q I h
 refine wpAny_Call_Name_kw (ld_blt I hg hm hv ?_ hn hdb)
 exact PyProof.Rows.callWith_builtin1 (thn (ha pos pins s σ H _ I h) fun us s1 ⟨vs,H1,I1,r1,q1⟩=>hc pins s1 σ H1 vs us Q I1 r1 q1) he hpl
theorem pe_callTy (hc:CallR X (.type T) r) (hg:Gl X x) (hm:X.mg x = none) (hv:bootBuiltins x = some (.type T)) (ha:PA X (e :: es) t) (hn:x ≠ "__name__":=by decide) (hdb:(x == ("__debug__" : Str)) = false:=by decide)
  (he:starEach (e :: es) X.env = (false,eval e X.env) :: starEach es X.env:=by rfl) (hpl:(backTo pos (starEach es X.env)).any (·.1) = false:=by rfl):PE X (.Call (.Name x p) (e :: es) [] pos) (tCB r t):=by
 refine ⟨?_⟩
 intro pins s σ H Q I h
 refine wpAny_Call_Name_kw (ld_blt I hg hm hv ?_ hn hdb)
 exact PyProof.Rows.callWith_type1 (thn (ha pos pins s σ H _ I h) fun us s1 ⟨vs,H1,I1,r1,q1⟩=>hc pins s1 σ H1 vs us Q I1 r1 q1) he hpl
theorem pe_callTy0 (hc:CallR X (.type T) r) (hg:Gl X x) (hm:X.mg x = none) (hv:bootBuiltins x = some (.type T)) (hn:x ≠ "__name__":=by decide) (hdb:(x == ("__debug__" : Str)) = false:=by decide) :
  PE X (.Call (.Name x p) [] [] pos) (tCB r tNil):=by
 refine ⟨?_⟩
 intro pins s σ H Q I h
 refine wpAny_Call_Name_kw (ld_blt I hg hm hv ?_ hn hdb)
 exact PyProof.Rows.callWith_type0 (hc pins s σ H [] [] Q I .nil h)
end
end L2
namespace HT
open PySem PyProof.Rows
section
open PySem.SeqAt
open PySem.AutoSeq1 (wpAny_loadPart')
open PySem.MeetsSeq PySem.MeetsSeq2 PySem.MeetsSeq3
end
section
variable {prog:Program} {w:World} {A:Around} {E:Value->Shared->Prop} {s:Shared}
def sIx (n d:Nat):Option Int->Nat
 | none=>d
 | some v=>if v < 0 then (v + (n:Int)).toNat else min v.toNat n
theorem sIx_none (n d:Nat):sIx n d none = d:=rfl
theorem sIx_nat (n d k:Nat):sIx n d (some (k:Int)) = min k n:=by
 show (if (k:Int) < 0 then ((k:Int) + (n:Int)).toNat else min (k:Int).toNat n) = min k n
 rw [if_neg (by omega),Int.toNat_natCast]
end
end HT
namespace L2
open PySem PySem.Spec PyProof.Rows
abbrev TO:=St->Hp->(Option Int->Hp->Prop)->Prop
structure PO (X:Cx) (e:Option Expr) (t:TO):Prop where
 run:∀ (pins:List (Addr × Obj)) (s:Shared) (σ : St) (H:Hp) (Q:Option Int->Hp->Prop),Inv X pins σ H s->t σ H Q->
  wpAny (model X.prog X.w) X.A (evalPart e X.env) (fun u s'=>∃ o H',Inv X pins σ H' s'/\IsPart u o/\Q o H') X.xe s
instance {X:Cx} {e:Option Expr} {t:TO}:CoeFun (PO X e t) (fun _=>∀ (pins:List (Addr × Obj)) (s:Shared) (σ : St) (H:Hp) (Q:Option Int->Hp->Prop),Inv X pins σ H s->t σ H Q->
  wpAny (model X.prog X.w) X.A (evalPart e X.env) (fun u s'=>∃ o H',Inv X pins σ H' s'/\IsPart u o/\Q o H') X.xe s):=⟨PO.run⟩
def tNoPart:TO:=fun _ H Q=>Q none H
def tPart (t:TE):TO:=fun σ H Q=>t σ H fun x H1=>∃ i,x = .int i/\Q (some i) H1
section
variable {X:Cx} {e:Expr} {te:TE} {lo hi:Option Expr} {tl th:TO} {pos p2:Pos}
theorem po_none:PO X none tNoPart:=by
 refine ⟨?_⟩
 intro pins s σ H Q I h
 rw [evalPart_none]
 exact wpAny_pure ⟨none,H,I,.none,h⟩
theorem po_some (h:PE X e te):PO X (some e) (tPart te):=by
 refine ⟨?_⟩
 intro pins s σ H Q I hw
 rw [evalPart_some]
 refine thn (h pins s σ H _ I hw) fun u s1 ⟨x,H1,I1,r1,q1⟩=>?_
 obtain ⟨i,rfl,q⟩:=q1
 obtain ⟨t,rfl⟩:=r1
 exact ⟨some i,H1,I1,.int i t,q⟩
def SlR (X:Cx) (r:V->Option Int->Option Int->Hp->VK->Prop):Prop:=
 ∀ (pins:List (Addr × Obj)) (s:Shared) (σ : St) (H:Hp) (x:V) (v vl vu:Value) (lo hi:Option Int) (sl:Addr) (Q:VK),Inv X pins σ H s->RelV x v->s.heap.IsSliceOf sl vl vu .none->IsPart vl lo->IsPart vu hi->r x lo hi H Q->
  ∃ T id,typeLookup (.type T) "__getitem__" = pure (some (.builtin id))/\s.TypeIs v T/\wpAny (model X.prog X.w) X.A (getItem v (.ref sl)) (EP X pins σ Q) X.xe s
def tSl (r:V->Option Int->Option Int->Hp->VK->Prop) (te:TE) (tl th:TO):TE:=fun σ H Q=>te σ H fun x H1=>tl σ H1 fun l H2=>th σ H2 fun u H3=>r x l u H3 Q
theorem pe_slice {r:V->Option Int->Option Int->Hp->VK->Prop} (hr:SlR X r) (he:PE X e te) (hl:PO X lo tl) (hu:PO X hi th):PE X (.Subscript e (.Slice lo hi none p2) pos) (tSl r te tl th):=by
 refine ⟨?_⟩
 intro pins s σ H Q I h
 refine Subscript_ (thn (he pins s σ H _ I h) fun v s1 ⟨x,H1,I1,r1,q1⟩=>?_)
 refine wpAny_Slice (thn (hl pins s1 σ H1 _ I1 q1) fun vl s2 ⟨l,H2,I2,pl,q2⟩=>thn (hu pins s2 σ H2 _ I2 q2) fun vu s3 ⟨u,H3,I3,pu,q3⟩=>?_)
 rw [evalPart_none]
 refine wpAny_pure ?_
 have I4:Inv X pins σ H3 { s3 with heap:=s3.heap.push { cls:=.type "slice",data:=.fields #[vl,vu,.none] } }:=I3.kept (t':=s3.toks) fun b ob q=>Heap.get?_push_of_some _ q
 obtain ⟨T,id,hT,ht,hg⟩:=hr pins { s3 with heap:=s3.heap.push { cls:=.type "slice",data:=.fields #[vl,vu,.none] } } σ H3 x v vl vu l u s3.heap.objs.size Q I4 r1 (Heap.IsSliceOf.new ..) pl pu q3
 show wpAny (model X.prog X.w) X.A (subscriptTail e (.Slice lo hi none p2) v (.ref s3.heap.objs.size)) (EP X pins σ Q) X.xe { s3 with heap:=s3.heap.push { cls:=.type "slice",data:=.fields #[vl,vu,.none] } }
 exact tail_any (ops:=[.ref s3.heap.objs.size,v]) ht hT hg (by with_unfolding_all rfl)
def cutV (xs:List V) (lo hi:Option Int):List V:=(xs.drop (HT.sIx xs.length 0 lo)).take (HT.sIx xs.length xs.length hi - HT.sIx xs.length 0 lo)
theorem cutV_length (xs:List V) (lo hi:Option Int):(cutV xs lo hi).length<=xs.length:=by
 unfold cutV
 rw [List.length_take,List.length_drop]
 omega
end
def ixN (n:Nat) (i:Int):Option Nat:=if 0<=i then (if i < n then some i.toNat else none) else if -(n:Int)<=i then some (i + n).toNat else none
def atI {α : Type} (xs:List α) (i:Int):Option α:=(ixN xs.length i).bind fun j=>xs[j]?
theorem ixN_seq {n:Nat} {i:Int} {j:Nat} (h:ixN n i = some j):seqIndex? i n = some j/\j < n/\-(n:Int)<=i/\i < n:=by
 unfold ixN at h
 by_cases h0 : 0<=i
 ·rw [if_pos h0] at h
  by_cases h1:i < n
  ·rw [if_pos h1] at h
   have e:i.toNat = j:=Option.some.inj h
   exact ⟨by rw [seqIndex_of h0 h1,e],by omega,by omega,h1⟩
  ·rw [if_neg h1] at h; cases h
 ·rw [if_neg h0] at h
  by_cases h1 : -(n:Int)<=i
  ·rw [if_pos h1] at h
   have e:(i + n).toNat = j:=Option.some.inj h
   exact ⟨by rw [seqIndex_neg (by omega) h1,e],by omega,h1,by omega⟩
  ·rw [if_neg h1] at h; cases h
theorem atI_get {α : Type} {xs:List α} {i:Int} {v : α} (h:atI xs i = some v):∃ j,seqIndex? i xs.length = some j/\xs[j]? = some v/\j < xs.length/\-(xs.length:Int)<=i/\i < xs.length:=by
 unfold atI at h
 cases e:ixN xs.length i with
 | none=>rw [e] at h; cases h
 | some j=>
  rw [e] at h
  obtain ⟨h1,h2,h3,h4⟩:=ixN_seq e
  exact ⟨j,h1,h,h2,h3,h4⟩
theorem atI_nat {α : Type} {xs:List α} {j:Nat} {v : α} (h:xs[j]? = some v):atI xs (j:Int) = some v:=by
 have hj:j < xs.length:=(List.getElem?_eq_some_iff.mp h).1
 have e:ixN xs.length (j:Int) = some j:=by
  unfold ixN
  rw [if_pos (by omega),if_pos (by omega)]; simp
 unfold atI; rw [e]; exact h
def PlainIx (b:Expr):Prop:=∀ o i,subscripted b false o i = operate [o,i] (getItem o i)
def IxR (X:Cx) (r:R2):Prop:=
 ∀ (value slice:Expr) (pins:List (Addr × Obj)) (s:Shared) (σ : St) (H:Hp) (x y:V) (v u:Value) (Q:VK),Inv X pins σ H s->RelV x v->RelV y u->r x y H Q->
  subscripted slice false v u = operate [v,u] (getItem v u)->wpAny (model X.prog X.w) X.A (subscriptTail value slice v u) (EP X pins σ Q) X.xe s
def MtR (X:Cx) (id:String) (r:V->List V->Hp->VK->Prop):Prop:=
 ∀ (pins:List (Addr × Obj)) (s:Shared) (σ : St) (H:Hp) (x:V) (xs:List V) (v:Value) (us:List Value) (Q:VK),Inv X pins σ H s->RelV x v->Vals xs us->r x xs H Q->
  wpAny (model X.prog X.w) X.A (call (.builtin id) (v :: us)) (EP X pins σ Q) X.xe s
section
variable {X:Cx} {a b:Expr} {ta tb:TE} {pos:Pos}
theorem pe_ix {r:R2} (hr:IxR X r) (ha:PE X a ta) (hb:PE X b tb) (hs:PlainIx b):PE X (.Subscript a b pos) (tOp r ta tb):=by
 refine ⟨?_⟩
 intro pins s σ H Q I h
 exact Subscript_ (binT ha hb I h fun v u s2 x y H2 I2 rx ry q=>hr a b pins s2 σ H2 x y v u Q I2 rx ry q (hs _ _))
inductive IIxL (K:PySem.W.Frag) (x y:V) (H:Hp) (Q:VK):Prop where
 | mk (p:Addr) (xs:List V) (i:Int) (v:V) (e1:x = .ref p) (e2:y = .int i) (h:SqL K H p xs) (a:atI xs i = some v) (q:Q v H)
def rIxL (K:PySem.W.Frag):R2:=fun x y H Q=>IIxL K x y H Q
inductive IIxT (K:PySem.W.Frag) (x y:V) (H:Hp) (Q:VK):Prop where
 | mk (p:Addr) (xs:List V) (i:Int) (v:V) (e1:x = .ref p) (e2:y = .int i) (h:SqT K H p xs) (a:atI xs i = some v) (q:Q v H)
def rIxT (K:PySem.W.Frag):R2:=fun x y H Q=>IIxT K x y H Q
def rIxS:R2:=fun x y H Q=>∃ z i c,x = .str z/\y = .int i/\z.length<=sizeLine/\atI z.cps.toList i = some c/\Q (.str ⟨#[c]⟩) H
theorem ix_list:IxR X (rIxL X.K):=by
 intro value slice pins s σ H x y v u Q I rx ry h hs
 obtain ⟨p,xs,i,z,rfl,rfl,hq,he,q⟩:=h
 cases rx
 obtain ⟨t,rfl⟩:=ry
 obtain ⟨its,r,pl,hz⟩:=I.list hq
 obtain ⟨j,h1,h2,h3,h4,h5⟩:=atI_get he
 obtain ⟨w,ew,rw'⟩:=r.get h2
 have hl:=r.length
 have hn:=line63
 have fin:EP X pins σ Q w s:=⟨z,H,I,rw',q⟩
 by_cases h0 : 0<=i
 ·have hj:i.toNat = j:=by
   rw [seqIndex_of h0 h5] at h1
   exact Option.some.inj h1
  exact item_listR pl.isList h0 (by omega) (by rw [hj]; simpa using ew) fin hs
 ·have hj:(i + (its.toArray.size:Int)).toNat = j:=by
   rw [seqIndex_neg (by omega) h4] at h1
   rw [List.size_toArray,<- hl]
   exact Option.some.inj h1
  exact subscriptTail_builtinR (x:=w) pl.isList.typeIs slot_list_getitem.lookup
   (wpAny_getItem_list_neg (Q:=fun r s'=>r = w/\EP X pins σ Q r s') pl.isList (by omega) (by rw [List.size_toArray] <;> omega) (by omega) (by rw [hj]; simpa using ew) ⟨rfl,fin⟩) hs
theorem ix_tup:IxR X (rIxT X.K):=by
 intro value slice pins s σ H x y v u Q I rx ry h hs
 obtain ⟨p,xs,i,z,rfl,rfl,hq,he,q⟩:=h
 cases rx
 obtain ⟨t,rfl⟩:=ry
 obtain ⟨its,r,pl,hz⟩:=I.tuple hq
 obtain ⟨j,h1,h2,h3,h4,h5⟩:=atI_get he
 obtain ⟨w,ew,rw'⟩:=r.get h2
 have hl:=r.length
 have hn:=line63
 have fin:EP X pins σ Q w s:=⟨z,H,I,rw',q⟩
 exact subscriptTail_builtinR (x:=w) pl.typeIs slot_tuple_getitem.lookup
  (getItem_tuple (j:=j) (Q:=fun r s'=>r = w/\EP X pins σ Q r s') pl (by omega) (by omega) (by rw [List.size_toArray,<- hl]; exact h1) (by simpa using ew) ⟨rfl,fin⟩) hs
theorem ix_str:IxR X rIxS:=by
 intro value slice pins s σ H x y v u Q I rx ry h hs
 obtain ⟨z,i,c,rfl,rfl,hz,he,q⟩:=h
 obtain ⟨t,rfl⟩:=rx
 obtain ⟨t',rfl⟩:=ry
 obtain ⟨j,h1,h2,h3,h4,h5⟩:=atI_get he
 have hl:z.cps.toList.length = z.length:=by simp [Str.length]
 rw [hl] at h1 h4 h5
 have hn:=line63
 exact tail_any (typeIs_str s z t) slot_str_getitem.lookup (getItem_str (c:=c) (by
  have e1:decide (i < -(2 ^ 63:Int)) = false:=decide_eq_false (by omega)
  have e2:decide (i>=2 ^ 63) = false:=decide_eq_false (by omega)
  rw [e1,e2,Bool.or_false]) (by rw [h1]; simpa using h2) ⟨.str ⟨#[c]⟩,H,I.tok _,⟨_,rfl⟩,q⟩) hs
theorem slice_bounds (lo hi:Option Int) (n:Nat):(sliceBounds lo hi none n).1 = ((HT.sIx n 0 lo:Nat):Int)/\(sliceBounds lo hi none n).2.1 = ((HT.sIx n n hi:Nat):Int)/\(sliceBounds lo hi none n).2.2 = 1:=by
 refine ⟨?_,?_,rfl⟩
 ·cases lo with
  | none=>simp [sliceBounds,HT.sIx]
  | some i=>
   simp only [sliceBounds,HT.sIx,Option.getD_none,show (1:Int) > 0 by decide,if_true]
   by_cases h:i < 0
   ·simp only [h,if_true] <;> omega
   ·simp only [h,if_false] <;> omega
 ·cases hi with
  | none=>simp [sliceBounds,HT.sIx]
  | some i=>
   simp only [sliceBounds,HT.sIx,Option.getD_none,show (1:Int) > 0 by decide,if_true]
   by_cases h:i < 0
   ·simp only [h,if_true] <;> omega
   ·simp only [h,if_false] <;> omega
theorem slicePick_cut (its:List Value) (lo hi:Option Int):slicePick its.toArray lo hi none = ((its.drop (HT.sIx its.length 0 lo)).take (HT.sIx its.length its.length hi - HT.sIx its.length 0 lo)).toArray:=by
 obtain ⟨h1,h2,h3⟩:=slice_bounds lo hi its.toArray.size
 unfold slicePick
 rw [h1,h2,h3]
 simp only [sliceRange_one,pick_run,List.size_toArray] <;> rfl
def rSlL (K:PySem.W.Frag):V->Option Int->Option Int->Hp->VK->Prop:=fun x lo hi H Q=>∃ a xs,x = .ref a/\SqL K H a xs/\∀ p,H p = none->Q (.ref p) (upd H p (.lst (cutV xs lo hi)))
theorem sl_list:SlR X (rSlL X.K):=by
 intro pins s σ H x v vl vu lo hi sl Q I rx hs pl pu h
 obtain ⟨a,xs,rfl,hx,q⟩:=h
 cases rx
 obtain ⟨its,r,ht,hz⟩:=I.list hx
 have hlen:=r.length
 refine ⟨"list",_,slot_list_getitem.lookup,ht.isList.typeIs,?_⟩
 refine wpAny_getItem_list_slice ht.isList hs pl pu .none (by simp) ?_ (by rw [List.size_toArray] <;> omega)
 rw [slicePick_cut,<- hlen]
 refine ⟨.ref s.heap.objs.size,_,I.laid (t':=s.toks) (o:=.lst (cutV xs lo hi)) (fun b ob q=>Heap.get?_push_of_some _ q) (Nat.le_refl _) ?_,rfl,q _ (I.hok.fresh (Nat.le_refl _))⟩
 exact ⟨Nat.le_trans (cutV_length xs lo hi) hz,_,0,(r.drop (HT.sIx xs.length 0 lo)).take (HT.sIx xs.length xs.length hi - HT.sIx xs.length 0 lo),Heap.get?_push_size _ rfl⟩
def flatV:V->Bool
 | .non=>true
 | .bl _=>true
 | .int _=>true
 | .str _=>true
 | _=>false
def eqV:V->V->Bool
 | .non,.non=>true
 | .bl a,.bl b=>a == b
 | .bl a,.int b=>(if a then 1 else 0) == b
 | .int a,.bl b=>a == (if b then 1 else 0)
 | .int a,.int b=>a == b
 | .str a,.str b=>a == b
 | _,_=>false
theorem eqAt_V {A:Around} {s:Shared} {y x:V} {u v:Value} (ry:RelV y u) (rx:RelV x v) (fy:flatV y = true) (fx:flatV x = true):SeqAt.EqAt A s u v (eqV y x):=by
 cases y with
 | non=>
  cases ry
  cases x with
  | non=>cases rx; exact SeqAt.EqAt.same _
  | bl b=>cases rx; exact SeqAt.EqAt.none_bool b
  | int b=>obtain ⟨t,rfl⟩:=rx; exact SeqAt.EqAt.none_int b t
  | str b=>obtain ⟨t,rfl⟩:=rx; exact SeqAt.EqAt.none_str b t
  | _=>exact absurd (show false = true from fx) Bool.false_ne_true
 | bl a=>
  cases ry
  cases x with
  | non=>cases rx; exact SeqAt.EqAt.bool_none a
  | bl b=>cases rx; exact SeqAt.EqAt.bool_bool a b
  | int b=>obtain ⟨t,rfl⟩:=rx; exact SeqAt.EqAt.bool_int a b t
  | str b=>obtain ⟨t,rfl⟩:=rx; exact SeqAt.EqAt.bool_str a b t
  | _=>exact absurd (show false = true from fx) Bool.false_ne_true
 | int a=>
  obtain ⟨t',rfl⟩:=ry
  cases x with
  | non=>cases rx; exact SeqAt.EqAt.int_none a t'
  | bl b=>cases rx; exact SeqAt.EqAt.int_bool a t' b
  | int b=>obtain ⟨t,rfl⟩:=rx; exact SeqAt.EqAt.int_int a t' b t
  | str b=>obtain ⟨t,rfl⟩:=rx; exact SeqAt.EqAt.int_str a t' b t
  | _=>exact absurd (show false = true from fx) Bool.false_ne_true
 | str a=>
  obtain ⟨t',rfl⟩:=ry
  cases x with
  | non=>cases rx; exact SeqAt.EqAt.str_none a t'
  | bl b=>cases rx; exact SeqAt.EqAt.str_bool a t' b
  | int b=>obtain ⟨t,rfl⟩:=rx; exact SeqAt.EqAt.str_int a t' b t
  | str b=>obtain ⟨t,rfl⟩:=rx; exact SeqAt.EqAt.str_str a t' b t
  | _=>exact absurd (show false = true from fx) Bool.false_ne_true
 | _=>exact absurd (show false = true from fy) Bool.false_ne_true
def eqU (x:V) (u:Value):Bool:=match u with
 | .none=>eqV .non x
 | .bool b=>eqV (.bl b) x
 | .int i _=>eqV (.int i) x
 | .str z _=>eqV (.str z) x
 | _=>false
theorem eqU_of {x y:V} {u:Value} (r:RelV y u) (f:flatV y = true):eqU x u = eqV y x:=by
 cases y with
 | non=>cases r; rfl
 | bl b=>cases r; rfl
 | int i=>obtain ⟨t,rfl⟩:=r; rfl
 | str z=>obtain ⟨t,rfl⟩:=r; rfl
 | _=>exact absurd (show false = true from f) Bool.false_ne_true
theorem any_eqU {x:V}:∀ {xs:List V} {us:List Value},Vals xs us->xs.all flatV = true->us.any (eqU x) = xs.any fun y=>eqV y x
 | _,_,.nil,_=>rfl
 | y :: xs,u :: us,.cons r t,f=>by
  rw [List.all_cons,Bool.and_eq_true] at f
  rw [List.any_cons,List.any_cons,eqU_of r f.1,any_eqU t f.2]
theorem mem_eqAt {A:Around} {s:Shared} {x:V} {v:Value} (rx:RelV x v) (fx:flatV x = true):∀ {xs:List V} {us:List Value},Vals xs us->xs.all flatV = true->∀ u ∈ us,SeqAt.EqAt A s u v (eqU x u)
 | _,_,.nil,_=>fun u hu=>by cases hu
 | y :: xs,u :: us,.cons r t,f=>fun u' hu=>by
  rw [List.all_cons,Bool.and_eq_true] at f
  rcases List.mem_cons.mp hu with rfl | hu
  ·rw [eqU_of r f.1]; exact eqAt_V r rx f.1 fx
  ·exact mem_eqAt rx fx t f.2 u' hu
def inV (x:V) (xs:List V):Bool:=xs.any fun y=>eqV y x
def rIn (K:PySem.W.Frag) (neg:Bool):R2:=fun x y H Q=>∃ p xs,y = .ref p/\(SqL K H p xs\/SqT K H p xs)/\flatV x = true/\xs.all flatV = true/\Q (.bl (if neg then !inV x xs else inV x xs)) H
theorem op_in_seq:OpR X (compareOp .In) (rIn X.K false):=by
 intro pins s σ H x y v u Q I rx ry h
 obtain ⟨p,xs,rfl,hq,fx,fs,q⟩:=h
 cases ry
 rcases hq with hq | hq
 ·obtain ⟨its,r,pl,hz⟩:=I.list hq
  refine SeqAt.in_listAt (eqU x) pl.isList (fun w hw=>mem_eqAt rx fx r fs w (by simpa using hw)) ⟨.bl _,H,I,rfl,?_⟩
  rw [show its.toArray.any (eqU x) = its.any (eqU x) by simp,any_eqU r fs]
  exact q
 ·obtain ⟨its,r,pl,hz⟩:=I.tuple hq
  refine SeqAt.in_tupleAt (eqU x) pl (fun w hw=>mem_eqAt rx fx r fs w (by simpa using hw)) ⟨.bl _,H,I,rfl,?_⟩
  rw [show its.toArray.any (eqU x) = its.any (eqU x) by simp,any_eqU r fs]
  exact q
theorem op_notIn_seq:OpR X (compareOp .NotIn) (rIn X.K true):=by
 intro pins s σ H x y v u Q I rx ry h
 obtain ⟨p,xs,rfl,hq,fx,fs,q⟩:=h
 cases ry
 rcases hq with hq | hq
 ·obtain ⟨its,r,pl,hz⟩:=I.list hq
  refine SeqAt.notIn_listAt (eqU x) pl.isList (fun w hw=>mem_eqAt rx fx r fs w (by simpa using hw)) ⟨.bl _,H,I,rfl,?_⟩
  rw [show its.toArray.any (eqU x) = its.any (eqU x) by simp,any_eqU r fs]
  exact q
 ·obtain ⟨its,r,pl,hz⟩:=I.tuple hq
  refine SeqAt.notIn_tupleAt (eqU x) pl (fun w hw=>mem_eqAt rx fx r fs w (by simpa using hw)) ⟨.bl _,H,I,rfl,?_⟩
  rw [show its.toArray.any (eqU x) = its.any (eqU x) by simp,any_eqU r fs]
  exact q
theorem call_len_seq:CallR X (.builtin "len") (fun xs H Q=>∃ p ys,xs = [.ref p]/\(SqL X.K H p ys\/SqT X.K H p ys)/\Q (.int ys.length) H):=by
 intro pins s σ H xs us Q I r h
 obtain ⟨p,ys,rfl,hq,q⟩:=h
 obtain ⟨u,rfl,rx⟩:=vals1 r
 cases rx
 have hn:=line63
 rcases hq with hq | hq
 ·obtain ⟨its,r',pl,hz⟩:=I.list hq
  have hlen:=r'.length
  exact Calls.call_len_list pl.isList (by simp only [List.size_toArray] <;> omega) ⟨.int ys.length,H,I.tok _,⟨s.toks + 1,by rw [List.size_toArray,hlen]⟩,q⟩
 ·obtain ⟨its,r',pl,hz⟩:=I.tuple hq
  have hlen:=r'.length
  exact len_tuple pl (by simp only [List.size_toArray] <;> omega) ⟨.int ys.length,H,I.tok _,⟨s.toks + 1,by rw [List.size_toArray,hlen]⟩,q⟩
theorem call_len_str:CallR X (.builtin "len") (fun xs H Q=>∃ z,xs = [.str z]/\z.length<=sizeLine/\Q (.int z.length) H):=by
 intro pins s σ H xs us Q I r h
 obtain ⟨z,rfl,hz,q⟩:=h
 obtain ⟨u,rfl,t,rfl⟩:=vals1 r
 have hn:=line63
 exact len_str (by omega) ⟨.int z.length,H,I.tok _,⟨_,rfl⟩,q⟩
theorem call_list_of:CallR X (.type "list") (fun xs H Q=>∃ p ys,xs = [.ref p]/\(SqL X.K H p ys\/SqT X.K H p ys)/\∀ l,H l = none->Q (.ref l) (upd H l (.lst ys))):=by
 intro pins s σ H xs us Q I r h
 obtain ⟨p,ys,rfl,hq,q⟩:=h
 obtain ⟨u,rfl,rx⟩:=vals1 r
 cases rx
 have fin:∀ (its:List Value),Vals ys its->ys.length<=sizeLine->∀ (h':Heap) (c':Nat),(∀ b o',s.heap.get? b = some o'->h'.get? b = some o')->
   h'.get? s.heap.objs.size = some { cls:=.type "list",dict:=none,data:=.seq its.toArray c',slots:=#[] }->EP X pins σ Q (.ref s.heap.objs.size) { s with heap:=h' }:=fun its r' hz h' c' kp e=>
  ⟨.ref s.heap.objs.size,_,I.laid (t':=s.toks) kp (Nat.le_refl _) (show ObjOk X.prog X.w _ h' _ (.lst ys) from ⟨hz,its,c',r',e⟩),rfl,q _ (I.hok.fresh (Nat.le_refl _))⟩
 rcases hq with hq | hq
 ·obtain ⟨its,r',pl,hz⟩:=I.list hq
  have hlen:=r'.length
  obtain ⟨o,ho,hc,n,hd⟩:=pl.isList
  exact call_list_seq p (.inl rfl) ho hc hd (fun h' c' kp e=>fin its r' hz h' c' kp e) (by simp only [List.size_toArray] <;> omega)
 ·obtain ⟨its,r',pl,hz⟩:=I.tuple hq
  have hlen:=r'.length
  obtain ⟨o,ho,hc,n,hd⟩:=pl
  exact call_list_seq p (.inr rfl) ho hc hd (fun h' c' kp e=>fin its r' hz h' c' kp e) (by simp only [List.size_toArray] <;> omega)
def tyV (K:PySem.W.Frag) (T:String) (x:V) (H:Hp):Prop:=match x with
 | .str _=>T = "str"
 | .int _=>T = "int"
 | .ref p=>(T = "list"/\∃ xs,SqL K H p xs)\/(T = "tuple"/\∃ o,K.lookup p = some o/\o.cls = .type "tuple"/\o.dict = none)\/
   (T = "dict"/\((∃ kvs,H p = some (.dK kvs))\/∃ kvs,H p = some (.dT kvs)))\/(T = "set"/\∃ S n,H p = some (.set S n))
 | _=>False
theorem tyV_is {pins:List (Addr × Obj)} {σ : St} {H:Hp} {s:Shared} {T:String} {x:V} {v:Value} (I:Inv X pins σ H s) (r:RelV x v) (ty:tyV X.K T x H) :
  s.TypeIs v T/\∀ a,v = .ref a->∃ ob,s.heap.get? a = some ob/\ob.dict = none:=by
 cases x with
 | str z=>
  obtain ⟨t,rfl⟩:=r
  cases (show T = "str" from ty)
  exact ⟨typeIs_str s z t,fun _ e=>nomatch e⟩
 | int i=>
  obtain ⟨t,rfl⟩:=r
  cases (show T = "int" from ty)
  exact ⟨typeIs_int s i t,fun _ e=>nomatch e⟩
 | ref p=>
  cases r
  rcases ty with ⟨rfl,xs,hq⟩ | ⟨rfl,o,hk,hc,hd⟩ | ⟨rfl,hk⟩ | ⟨rfl,S,n,hk⟩
  ·obtain ⟨its,_,pl,_⟩:=I.list hq
   refine ⟨pl.isList.typeIs,fun a e=>?_⟩
   cases e
   obtain ⟨o,n,e,c,hd,_⟩:=pl
   exact ⟨o,e,hd⟩
  ·refine ⟨⟨o,I.kIn p o hk,hc⟩,fun a e=>?_⟩
   cases e
   exact ⟨o,I.kIn _ o hk,hd⟩
  ·have z:∃ o,s.heap.get? p = some o/\o.ExactDict:=by
    rcases hk with ⟨kvs,hk⟩ | ⟨kvs,hk⟩
    ·obtain ⟨_,_,_,_,o,_,_,e,ex,_⟩:=I.hok p _ hk
     exact ⟨o,e,ex⟩
    ·obtain ⟨_,_,_,_,o,_,_,e,ex,_⟩:=I.hok p _ hk
     exact ⟨o,e,ex⟩
   obtain ⟨o,e,ex⟩:=z
   refine ⟨⟨o,e,ex.1⟩,fun a e2=>?_⟩
   cases e2
   exact ⟨o,e,ex.2.1⟩
  ·obtain ⟨o,_,_,_,e,ex,_⟩:=I.hok p _ hk
   refine ⟨⟨o,e,ex.1⟩,fun a e2=>?_⟩
   cases e2
   exact ⟨o,e,ex.2.1⟩
 | _=>exact False.elim ty
def tBM0 (K:PySem.W.Frag) (T:String) (r:V->List V->Hp->VK->Prop) (to:TE):TE:=fun σ H Q=>to σ H fun x H1=>tyV K T x H1/\r x [] H1 Q
def tBM (K:PySem.W.Frag) (T:String) (r:V->List V->Hp->VK->Prop) (to:TE) (t:TA):TE:=fun σ H Q=>to σ H fun x H1=>tyV K T x H1/\t σ H1 fun xs H2=>r x xs H2 Q
variable {o e:Expr} {es:List Expr} {to:TE} {t:TA} {name:Str} {apos cpos:Pos} {T id:String} {r:V->List V->Hp->VK->Prop}
theorem pe_bm0 (pa:PlainAttrs T) (slot:Slot T name id) (hty:typeOf (.builtin id) = pure (.type "method_descriptor")) (hm:MtR X id r) (ho:PE X o to)
  (hbase:attributeBase o name X.env (eval o X.env) = eval o X.env:=by rfl) (hline:(apos.endLine == cpos.line) = true:=by rfl):PE X (.Call (.Attribute o name apos) [] [] cpos) (tBM0 X.K T r to):=by
 refine ⟨?_⟩
 intro pins s σ H Q I h
 refine wpAny_Call_method0_late hbase hline (thn (ho pins s σ H _ I h) fun v s1 ⟨x,H1,I1,r1,ty,q1⟩=>?_)
 obtain ⟨h1,h2⟩:=tyV_is I1 r1 ty
 exact ⟨T,id,pa,slot,hty,h1,h2,Calls.callWith_builtin rfl (PySem.evalArgs_none (hm pins s1 σ H1 x [] v [] Q I1 r1 .nil q1))⟩
theorem pe_bm (pa:PlainAttrs T) (slot:Slot T name id) (hty:typeOf (.builtin id) = pure (.type "method_descriptor")) (hm:MtR X id r) (ho:PE X o to) (ha:PA X (e :: es) t)
  (hbase:attributeBase o name X.env (eval o X.env) = eval o X.env:=by rfl)
  (hfew:((backTo cpos (starEach (e :: es) X.env)).all (fun x=>!x.1) && (backToKw cpos (keywordEach [] X.env)).all (fun x=>x.1.isSome)
   && decide ((e :: es).length + ([]:List Keyword).length + (if ([]:List Keyword).isEmpty then 0 else 1) < 30)) = true:=by rfl)
  (hline:(apos.endLine == cpos.line) = true:=by rfl) (hs:starEach (e :: es) X.env = (false,eval e X.env) :: starEach es X.env:=by rfl) (hplain:(backTo cpos (starEach es X.env)).any (·.1) = false:=by rfl) :
  PE X (.Call (.Attribute o name apos) (e :: es) [] cpos) (tBM X.K T r to t):=by
 refine ⟨?_⟩
 intro pins s σ H Q I h
 refine wpAny_Call_method_late hbase hfew hline rfl (thn (ho pins s σ H _ I h) fun v s1 ⟨x,H1,I1,r1,ty,q1⟩=>?_)
 obtain ⟨h1,h2⟩:=tyV_is I1 r1 ty
 refine ⟨T,id,pa,slot,hty,h1,h2,?_⟩
 have hA:=ha cpos pins s1 σ H1 _ I1 q1
 rw [hs] at hA |-
 refine Calls.callWith_builtin (by show (false || (backTo cpos (starEach es X.env)).any (·.1)) = false; rw [hplain] <;> rfl) (Calls.evalArgs_plain ?_)
 exact thn hA fun us s2 ⟨vs,H2,I2,r2,q2⟩=>hm pins s2 σ H2 x vs v us Q I2 r1 r2 q2
end
def MtM (X:Cx) (id:String) (r:V->List V->Hp->VK->Prop):Prop:=
 ∀ (pins:List (Addr × Obj)) (s:Shared) (σ : St) (H:Hp) (x:V) (xs:List V) (v:Value) (us:List Value) (Q:VK),Inv X pins σ H s->RelV x v->Vals xs us->r x xs H Q->
  wpAny (model X.prog X.w) X.A (call (.builtin id) (v :: us)) (EP X pins σ Q) X.xe s
theorem Vals.one:∀ {x:V} {us:List Value},Vals [x] us->∃ u,us = [u]/\RelV x u
 | _,_,.cons r .nil=>⟨_,rfl,r⟩
theorem Vals.zero:∀ {us:List Value},Vals [] us->us = []
 | _,.nil=>rfl
theorem Vals.dropLast {xs:List V} {us:List Value} (h:Vals xs us):Vals xs.dropLast us.dropLast:=by
 induction h with
 | nil=>exact .nil
 | cons r t ih=>
  cases t with
  | nil=>exact .nil
  | cons q t'=>exact .cons r ih
theorem Vals.rep {xs:List V} {us:List Value} (h:Vals xs us):∀ k:Nat,Vals (List.replicate k xs).flatten (List.replicate k us).flatten
 | 0=>.nil
 | k + 1=>by
  rw [List.replicate_succ,List.replicate_succ,List.flatten_cons,List.flatten_cons]
  exact Vals.append h (Vals.rep h k)
theorem erase_last {α : Type} (l:List α):l.eraseIdx (l.length - 1) = l.dropLast:=by
 induction l with
 | nil=>rfl
 | cons a r ih=>
  cases r with
  | nil=>rfl
  | cons b r=>
   have e:(a :: b :: r).length - 1 = ((b :: r).length - 1) + 1:=by
    have h1:(a :: b :: r).length = r.length + 2:=rfl
    have h2:(b :: r).length = r.length + 1:=rfl
    omega
   rw [e,List.eraseIdx_cons_succ,ih]
   all_goals rfl
theorem foldl_rep (its:List Value):∀ (k:Nat) (acc:List Value),
  List.foldl (fun x1 x2=>x1 ++ x2) acc.toArray (List.replicate k its.toArray) = (acc ++ (List.replicate k its).flatten).toArray
 | 0,acc=>by simp
 | k + 1,acc=>by
  have e:acc.toArray ++ its.toArray = (acc ++ its).toArray:=by simp
  have e2:(acc ++ its) ++ (List.replicate k its).flatten = acc ++ (List.replicate (k + 1) its).flatten:=by
   rw [List.replicate_succ,List.flatten_cons,List.append_assoc]
  rw [<- e2,<- foldl_rep its k (acc ++ its),<- e,List.replicate_succ,List.foldl_cons]
section
variable {X:Cx} {pins:List (Addr × Obj)} {σ : St} {H:Hp} {s:Shared} {l b:Addr} {xs ys zs:List V}
theorem Inv.lset {its its':List Value} {n:Nat} {f:Array Value->Array Value} {t':Nat} (I:Inv X pins σ H s) (hH:H l = some (.lst xs))
  (e:s.heap.get? l = some { cls:=.type "list",data:=.seq its.toArray n }) (hf:f its.toArray = its'.toArray) (hv:Vals ys its') (hz:ys.length<=sizeLine) :
  Inv X pins σ (upd H l (.lst ys)) { s with heap:=s.heap.update l (Obj.mapSeq f),toks:=t' }:=by
 have q:=PySem.IsL.update e f
 rw [hf] at q
 refine I.write (x:=l) (e:=l) (by rw [hH]; exact trivial) (.inl rfl) (fun b' u hb hu=>(Heap.get?_update_other s.heap (Obj.mapSeq f) (Ne.symm hb)).trans hu) ⟨_,q⟩ ?_
 exact ⟨hz,its',_,hv,q⟩
theorem Inv.lnew {its:List Value} {t':Nat} (I:Inv X pins σ H s) (hv:Vals ys its) (hz:ys.length<=sizeLine) :
  Inv X pins σ (upd H s.heap.objs.size (.lst ys)) { s with heap:=s.heap.push { cls:=.type "list",data:=.seq its.toArray },toks:=t' }:=
 I.laid (fun _ _ q=>Heap.get?_push_of_some _ q) (Nat.le_refl _) ⟨hz,its,0,hv,Heap.get?_push_size _ rfl⟩
theorem Inv.fresh (I:Inv X pins σ H s):H s.heap.objs.size = none:=I.hok.fresh (Nat.le_refl _)
theorem Inv.lstM (I:Inv X pins σ H s) (hH:H l = some (.lst xs)):xs.length<=sizeLine/\∃ (its:List Value) (n:Nat),Vals xs its/\xs.length = its.length/\s.heap.get? l = some { cls:=.type "list",data:=.seq its.toArray n }:=by
 obtain ⟨z,its,n,r,e⟩:=I.hok l _ hH
 exact ⟨z,its,n,r,r.length,e⟩
theorem notLongL {n:Nat} (h:n<=sizeLine):Builtin.List.listTooLong n = false:=by
 unfold Builtin.List.listTooLong
 exact decide_eq_false (by omega)
end
section
variable {X:Cx}
def rAppend:V->List V->Hp->VK->Prop:=fun x vs H Q=>∃ l xs y,x = .ref l/\vs = [y]/\H l = some (.lst xs)/\xs.length < sizeLine/\Q .non (upd H l (.lst (xs ++ [y])))
theorem mt_append:MtM X "list.append" rAppend:=by
 intro pins s σ H x vs v us Q I rx rv h
 obtain ⟨l,xs,y,rfl,rfl,hH,hz,q⟩:=h
 cases rx
 obtain ⟨u,rfl,ru⟩:=rv.one
 obtain ⟨z,its,n,r,hl,e⟩:=I.lstM hH
 refine call_meets F.slot_list_append ⟨_,e,rfl⟩ F.entry_list_append (F.args_list_append_2 _ _) (PySem.list_append l its.toArray n u (by rw [List.size_toArray]; omega)) ⟨e,?_⟩
 refine ⟨.non,_,I.lset (its':=its ++ [u]) hH e (by simp) (r.append (.cons ru .nil)) ?_,rfl,q⟩
 rw [List.length_append,List.length_singleton]
 omega
def rExtend:V->List V->Hp->VK->Prop:=fun x vs H Q=>∃ l b xs zs,x = .ref l/\vs = [.ref b]/\H l = some (.lst xs)/\H b = some (.lst zs)/\xs.length + zs.length<=sizeLine/\Q .non (upd H l (.lst (xs ++ zs)))
theorem mt_extend:MtM X "list.extend" rExtend:=by
 intro pins s σ H x vs v us Q I rx rv h
 obtain ⟨l,b,xs,zs,rfl,rfl,hH,hB,hz,q⟩:=h
 cases rx
 obtain ⟨u,rfl,ru⟩:=rv.one
 cases ru
 obtain ⟨z,its,n,r,hl,e⟩:=I.lstM hH
 obtain ⟨z2,its2,n2,r2,hl2,e2⟩:=I.lstM hB
 have hsz:its.toArray.size + its2.toArray.size<=sizeLine:=by rw [List.size_toArray,List.size_toArray]; omega
 have hlong:¬ (!its.toArray.isEmpty && Builtin.List.listTooLong (its.toArray.size + its2.toArray.size)) = true:=by
  rw [notLongL hsz,Bool.and_false]
  exact Bool.false_ne_true
 refine call_meets F.slot_list_extend ⟨_,e,rfl⟩ F.entry_list_extend (F.args_list_extend_2 _ _)
  (AutoSeq1.list_extend_list_list_0 l its.toArray n b its2.toArray n2 hlong (by rw [List.size_toArray]; omega) (by omega)) ⟨e,e2,?_⟩
 refine ⟨.non,_,I.lset (its':=its ++ its2) hH e (by simp) (r.append r2) ?_,rfl,q⟩
 rw [List.length_append]
 omega
def rPop:V->List V->Hp->VK->Prop:=fun x vs H Q=>∃ l xs y,x = .ref l/\vs = []/\H l = some (.lst xs)/\xs[xs.length - 1]? = some y/\Q y (upd H l (.lst xs.dropLast))
theorem mt_pop:MtM X "list.pop" rPop:=by
 intro pins s σ H x vs v us Q I rx rv h
 obtain ⟨l,xs,y,rfl,rfl,hH,hy,q⟩:=h
 cases rx
 have hus:=rv.zero
 subst hus
 obtain ⟨z,its,n,r,hl,e⟩:=I.lstM hH
 obtain ⟨u,hu,ru⟩:=r.get hy
 have hy':its.toArray[its.toArray.size - 1]? = some u:=by
  show its.toArray[its.length - 1]? = some u
  rw [<- Array.getElem?_toList,<- hl]
  exact hu
 refine call_meets F.slot_list_pop ⟨_,e,rfl⟩ F.entry_list_pop (F.args_list_pop_1 _) (MeetsSeq.list_pop_last l its.toArray n u hy' (by rw [List.size_toArray]; omega)) ⟨e,?_⟩
 refine ⟨y,_,I.lset (its':=its.dropLast) hH e ?_ r.dropLast ?_,ru,q⟩
 ·show its.toArray.eraseIdxIfInBounds (its.toArray.size - 1) = its.dropLast.toArray
  rw [List.size_toArray,List.eraseIdxIfInBounds_toArray,erase_last]
 ·rw [List.length_dropLast]
  omega
def rClear:V->List V->Hp->VK->Prop:=fun x vs H Q=>∃ l xs,x = .ref l/\vs = []/\H l = some (.lst xs)/\Q .non (upd H l (.lst []))
theorem mt_clear:MtM X "list.clear" rClear:=by
 intro pins s σ H x vs v us Q I rx rv h
 obtain ⟨l,xs,rfl,rfl,hH,q⟩:=h
 cases rx
 have hus:=rv.zero
 subst hus
 obtain ⟨z,its,n,r,hl,e⟩:=I.lstM hH
 refine call_meets F.slot_list_clear ⟨_,e,rfl⟩ F.entry_list_clear (F.args_list_clear_1 _) (AutoSeq1.list_clear_list_0 l its.toArray n (by rw [List.size_toArray]; omega)) ⟨e,?_⟩
 exact ⟨.non,_,I.lset (its':=[]) (ys:=[]) hH e rfl .nil (Nat.zero_le _),rfl,q⟩
def rCat:R2:=fun x y H Q=>∃ l b xs zs,x = .ref l/\y = .ref b/\H l = some (.lst xs)/\H b = some (.lst zs)/\xs.length + zs.length<=sizeLine/\∀ p,H p = none->Q (.ref p) (upd H p (.lst (xs ++ zs)))
theorem op_cat:OpR X (binaryOp .Add) rCat:=by
 intro pins s σ H x y v u Q I rx ry h
 obtain ⟨l,b,xs,zs,rfl,rfl,hH,hB,hz,q⟩:=h
 cases rx
 cases ry
 obtain ⟨z,its,n,r,hl,e⟩:=I.lstM hH
 obtain ⟨z2,its2,n2,r2,hl2,e2⟩:=I.lstM hB
 refine PySem.P.add_list e e2 ?_ (by rw [List.size_toArray,List.size_toArray]; omega)
 have ea:its.toArray ++ its2.toArray = (its ++ its2).toArray:=by simp
 rw [ea]
 exact ⟨.ref _,_,I.lnew (t':=s.toks) (r.append r2) (by rw [List.length_append]; omega),rfl,q _ I.fresh⟩
def rRep:R2:=fun x y H Q=>∃ l k xs,x = .ref l/\y = .int k/\H l = some (.lst xs)/\-(2 ^ 63)<=k/\k < 2 ^ 63/\xs.length * k.toNat<=sizeLine/\
 ∀ p,H p = none->Q (.ref p) (upd H p (.lst (List.replicate k.toNat xs).flatten))
theorem len_rep {α : Type} (xs:List α) (k:Nat):(List.replicate k xs).flatten.length = k * xs.length:=by
 induction k with
 | zero=>simp
 | succ k ih=>rw [List.replicate_succ,List.flatten_cons,List.length_append,ih,Nat.succ_mul,Nat.add_comm]
theorem op_rep:OpR X (binaryOp .Mult) rRep:=by
 intro pins s σ H x y v u Q I rx ry h
 obtain ⟨l,k,xs,rfl,rfl,hH,h1,h2,hz,q⟩:=h
 cases rx
 obtain ⟨t,rfl⟩:=ry
 obtain ⟨z,its,n,r,hl,e⟩:=I.lstM hH
 have hlen:its.toArray.size * k.toNat<=sizeLine:=by rw [List.size_toArray,<- hl]; exact hz
 have hcap:¬ its.toArray.size * k.toNat > (2 ^ 63 - 1) / 8:=by
  have:(sizeLine:Nat)<=(2 ^ 63 - 1) / 8:=by decide
  omega
 have hfit:¬ (!Builtin.List.listFitsIndex k) = true:=by
  rw [fitsIndex_both h1 h2]
  exact Bool.false_ne_true
 have hlong:¬ Builtin.List.listTooLong (its.toArray.size * k.toNat) = true:=by
  rw [notLongL hlen]
  exact Bool.false_ne_true
 have hnew:List.foldl (fun x1 x2=>x1 ++ x2) #[] (List.replicate (if its.toArray.isEmpty = true then 0 else k.toNat) its.toArray) = (List.replicate k.toNat its).flatten.toArray:=by
  have f0:∀ m:Nat,List.foldl (fun x1 x2=>x1 ++ x2) #[] (List.replicate m its.toArray) = (List.replicate m its).flatten.toArray:=fun m=>by
   have:=foldl_rep its m []
   rw [List.nil_append] at this
   exact this
  rw [f0]
  cases its with
  | nil=>simp
  | cons a r'=>rw [if_neg (by simp)]
 refine wpAny_binaryOp_repeat_ref (T:="list") (U:="int") (by decide) ⟨_,e,rfl⟩ (fun s'=>typeIs_int s' k t) noFill_list_mul F.fills_int_mul F.slot_int_rmul repeat_list F.slot_int_index.lookup
  (call_meets F.slot_int_rmul (typeIs_int s k t) F.entry_int_rmul (F.args_int_rmul_2 _ _) (int___rmul___int_list k t l its.toArray n)
   ⟨e,rfl,⟨_,e,rfl⟩,call_meets F.slot_list_mul ⟨_,e,rfl⟩ F.entry_list_mul (F.args_list_mul_2 _ _) (AutoListH.list___mul___list_int_3 l its.toArray n k t hfit hcap hlong) ⟨e,?_⟩⟩)
 rw [hnew]
 exact ⟨.ref _,_,I.lnew (t':=s.toks) (r.rep k.toNat) (by rw [len_rep,Nat.mul_comm]; exact hz),rfl,q _ I.fresh⟩
end
section
variable {prog:Program} {w:World} {A:Around} {E:Value->Shared->Prop} {s:Shared}
end
section
variable {X:Cx}
end
section
variable {κ : Type} [DecidableEq κ]
def valV (kvs:List (κ × V)) (k : κ):Option V:=(kvs.find? fun kv=>decide (kv.1 = k)).map (·.2)
def putK (kvs:List (κ × V)) (k : κ) (v:V):List (κ × V):=
 if (kvs.any fun kv=>decide (kv.1 = k)) = true then kvs.map (fun kv=>if kv.1 = k then (kv.1,v) else kv) else kvs ++ [(k,v)]
theorem valV_pos {p : κ × V} {r:List (κ × V)} {k : κ} (e:p.1 = k):valV (p :: r) k = some p.2:=by simp [valV,List.find?_cons,e]
theorem valV_neg {p : κ × V} {r:List (κ × V)} {k : κ} (e:¬ p.1 = k):valV (p :: r) k = valV r k:=by simp [valV,List.find?_cons,e]
theorem valV_any (k : κ):∀ kvs:List (κ × V),(kvs.any fun kv=>decide (kv.1 = k)) = (valV kvs k).isSome
 | []=>rfl
 | p :: r=>by
  rw [List.any_cons]
  by_cases e:p.1 = k
  ·simp only [valV_pos e,decide_eq_true e,Bool.true_or,Option.isSome_some]
  ·rw [valV_neg e,decide_eq_false e,Bool.false_or]; exact valV_any k r
theorem valV_map (k j : κ) (y:V):∀ kvs:List (κ × V),valV (kvs.map fun kv=>if kv.1 = k then (kv.1,y) else kv) j = (valV kvs j).map fun x=>if j = k then y else x
 | []=>rfl
 | p :: r=>by
  have ih:=valV_map k j y r
  rw [List.map_cons]
  by_cases h:p.1 = k
  ·rw [if_pos h]
   by_cases e:p.1 = j
   ·rw [valV_pos (p:=(p.1,y)) e,valV_pos e,Option.map_some,if_pos (e.symm.trans h)]
   ·rw [valV_neg (p:=(p.1,y)) e,valV_neg e,ih]
  ·rw [if_neg h]
   by_cases e:p.1 = j
   ·rw [valV_pos (p:=p) e,valV_pos e,Option.map_some,if_neg (fun z=>h (e.trans z))]
   ·rw [valV_neg (p:=p) e,valV_neg e,ih]
theorem valV_snoc (k j : κ) (y:V):∀ kvs:List (κ × V),valV kvs k = none->valV (kvs ++ [(k,y)]) j = if j = k then some y else valV kvs j
 | [],_=>by
  by_cases e:k = j
  ·rw [if_pos e.symm]; exact valV_pos (p:=(k,y)) e
  ·rw [if_neg (fun z=>e z.symm)]; exact valV_neg (p:=(k,y)) e
 | p :: r,hn=>by
  rw [List.cons_append]
  have hk:¬ p.1 = k:=fun z=>by rw [valV_pos z] at hn; cases hn
  rw [valV_neg hk] at hn
  have ih:=valV_snoc k j y r hn
  by_cases e:p.1 = j
  ·rw [valV_pos e,valV_pos e,if_neg (fun z=>hk (e.trans z))]
  ·rw [valV_neg e,valV_neg e,ih]
theorem valV_put (kvs:List (κ × V)) (k j : κ) (y:V):valV (putK kvs k y) j = if j = k then some y else valV kvs j:=by
 unfold putK
 by_cases a:(kvs.any fun kv=>decide (kv.1 = k)) = true
 ·rw [if_pos a,valV_map]
  rw [valV_any] at a
  by_cases e:j = k
  ·obtain ⟨x,hx⟩:=Option.isSome_iff_exists.mp a
   rw [if_pos e,e,hx,Option.map_some,if_pos rfl]
  ·rw [if_neg e]
   cases valV kvs j with
   | none=>rfl
   | some x=>rw [Option.map_some,if_neg e]
 ·rw [if_neg a]
  refine valV_snoc k j y kvs ?_
  rw [valV_any] at a
  cases q:valV kvs k with
  | none=>rfl
  | some x=>rw [q] at a; exact (a rfl).elim
theorem length_putK (kvs:List (κ × V)) (k : κ) (v:V):(putK kvs k v).length<=kvs.length + 1:=by
 unfold putK
 split
 ·rw [List.length_map]; omega
 ·rw [List.length_append,List.length_cons,List.length_nil]; omega
theorem putK_new {kvs:List (κ × V)} {k : κ} (v:V) (h:valV kvs k = none):putK kvs k v = kvs ++ [(k,v)]:=by
 unfold putK
 rw [valV_any,h]
 exact if_neg (by decide)
theorem RelO.isSome_eq {o:Option V} {u:Option Value} (r:RelO o u):o.isSome = u.isSome:=by
 cases o with
 | none=>cases u with
  | none=>rfl
  | some _=>exact (show False from r).elim
 | some _=>cases u with
  | none=>exact (show False from r).elim
  | some _=>rfl
theorem RelO.getD {o:Option V} {u:Option Value} {d:V} {d':Value} (r:RelO o u) (rd:RelV d d'):RelV (o.getD d) (u.getD d'):=by
 cases o with
 | none=>cases u with
  | none=>exact rd
  | some _=>exact (show False from r).elim
 | some _=>cases u with
  | none=>exact (show False from r).elim
  | some _=>exact r
theorem KV.val {kvs:List (κ × V)} {vs:List (κ × Value)} (r:KV kvs vs) (k : κ):RelO (valV kvs k) (valueAt vs k):=by
 unfold KV at r
 induction r with
 | nil=>exact True.intro
 | @cons p q ps qs h t ih=>
  obtain ⟨h1,h2⟩:=h
  by_cases e:p.1 = k
  ·have e':q.1 = k:=h1.symm.trans e
   have b:valueAt (q :: qs) k = some q.2:=by simp [valueAt,List.find?_cons,e']
   rw [valV_pos e,b]; exact h2
  ·have e':¬ q.1 = k:=fun z=>e (h1.trans z)
   have b:valueAt (q :: qs) k = valueAt qs k:=by simp [valueAt,List.find?_cons,e']
   rw [valV_neg e,b]; exact ih
theorem KV.any {kvs:List (κ × V)} {vs:List (κ × Value)} (r:KV kvs vs) (k : κ):(kvs.any fun kv=>decide (kv.1 = k)) = vs.any fun kv=>decide (kv.1 = k):=by
 unfold KV at r
 induction r with
 | nil=>rfl
 | cons h t ih=>rw [List.any_cons,List.any_cons,ih,h.1]
theorem KV.repl {kvs:List (κ × V)} {vs:List (κ × Value)} (r:KV kvs vs) (k : κ) {y:V} {u:Value} (ry:RelV y u) :
  KV (kvs.map fun kv=>if kv.1 = k then (kv.1,y) else kv) (vs.map fun kv=>if kv.1 = k then (kv.1,u) else kv):=by
 unfold KV at r |-
 induction r with
 | nil=>exact .nil
 | @cons p q ps qs h t ih=>
  rw [List.map_cons,List.map_cons]
  refine .cons ?_ ih
  obtain ⟨h1,h2⟩:=h
  by_cases e:p.1 = k
  ·rw [if_pos e,if_pos (h1.symm.trans e)]; exact ⟨h1,ry⟩
  ·rw [if_neg e,if_neg (fun z=>e (h1.trans z))]; exact ⟨h1,h2⟩
theorem KV.put {kvs:List (κ × V)} {vs:List (κ × Value)} (r:KV kvs vs) (k : κ) {y:V} {u:Value} (ry:RelV y u):KV (putK kvs k y) (stored vs k u):=by
 unfold putK stored
 rw [r.any k]
 by_cases e:(vs.any fun kv=>decide (kv.1 = k)) = true
 ·rw [if_pos e,if_pos e]; exact r.repl k ry
 ·rw [if_neg e,if_neg e]; exact Paired.snoc r ⟨rfl,ry⟩
theorem KV.length {kvs:List (κ × V)} {vs:List (κ × Value)} (r:KV kvs vs):kvs.length = vs.length:=Paired.length r
end
theorem kV_is {P:Program} {w:World} {k:Key} {u:Value} (r:RelV (kV k) u):(mixKind P w).is k u = true:=by
 cases k with
 | inl i=>obtain ⟨t,e⟩:=(show ∃ t,u = Value.int i t from r); subst e; exact mixKind_int P w i t
 | inr x=>obtain ⟨t,e⟩:=(show ∃ t,u = Value.str x t from r); subst e; exact mixKind_str P w x t
theorem items_are {P:Program} {w:World}:∀ {ks:List Key} {us:List Value},Vals (ks.map kV) us->ItemsAre (mixKind P w) ks us
 | [],_,r=>by rw [List.map_nil] at r; cases r; exact .nil
 | k :: ks,_,r=>by
  rw [List.map_cons] at r
  cases r with
  | cons h t=>exact .cons (kV_is h) (items_are t)
abbrev KT (H:Hp):List (List Key × V)->List (List Key × Addr × Value)->Prop:=Paired fun p q=>p.1 = q.1/\H q.2.1 = some (.tup (p.1.map kV))/\RelV p.2 q.2.2
theorem KT.val {H:Hp} {kvs:List (List Key × V)} {xs:List (List Key × Addr × Value)} (r:KT H kvs xs) (k:List Key):RelO (valV kvs k) ((atKey xs k).map (·.2)):=by
 induction r with
 | nil=>exact True.intro
 | @cons p q ps qs h t ih=>
  obtain ⟨h1,_,h2⟩:=h
  by_cases e:p.1 = k
  ·have e':q.1 = k:=h1.symm.trans e
   have b:atKey (q :: qs) k = some q.2:=by simp [atKey,List.find?_cons,e']
   rw [valV_pos e,b]; exact h2
  ·have e':¬ q.1 = k:=fun z=>e (h1.trans z)
   have b:atKey (q :: qs) k = atKey qs k:=by simp [atKey,List.find?_cons,e']
   rw [valV_neg e,b]; exact ih
theorem KT.repl {H:Hp} {kvs:List (List Key × V)} {xs:List (List Key × Addr × Value)} (r:KT H kvs xs) (k:List Key) {y:V} {u:Value} (ry:RelV y u) :
  KT H (kvs.map fun kv=>if kv.1 = k then (kv.1,y) else kv) (xs.map (putAt k u)):=by
 induction r with
 | nil=>exact .nil
 | @cons p q ps qs h t ih=>
  rw [List.map_cons,List.map_cons]
  refine .cons ?_ ih
  obtain ⟨h1,h2,h3⟩:=h
  unfold putAt
  by_cases e:p.1 = k
  ·rw [if_pos e,if_pos (h1.symm.trans e)]; exact ⟨h1,h2,ry⟩
  ·rw [if_neg e,if_neg (fun z=>e (h1.trans z))]; exact ⟨h1,h2,h3⟩
theorem KT.put {H:Hp} {kvs:List (List Key × V)} {xs:List (List Key × Addr × Value)} (r:KT H kvs xs) (k:List Key) {b:Addr} {y:V} {u:Value} (hb:H b = some (.tup (k.map kV))) (ry:RelV y u) :
  KT H (putK kvs k y) (storedH xs k b u):=by
 have e:(kvs.any fun kv=>decide (kv.1 = k)) = (atKey xs k).isSome:=by
  rw [valV_any,(r.val k).isSome_eq,Option.isSome_map]
 unfold putK storedH
 rw [e]
 by_cases q:(atKey xs k).isSome = true
 ·rw [if_pos q,if_pos q]; exact r.repl k ry
 ·rw [if_neg q,if_neg q]; exact Paired.snoc r ⟨rfl,hb,ry⟩
theorem KT.keeps {H H':Hp} {kvs:List (List Key × V)} {xs:List (List Key × Addr × Value)} (r:KT H kvs xs) (ht:∀ b ys,H b = some (.tup ys)->H' b = some (.tup ys)):KT H' kvs xs:=
 Paired.mapP r fun _ _ z=>⟨z.1,ht _ _ z.2.1,z.2.2⟩
section
variable {P:Program} {w:World} {H:Hp} {h:Heap} {a:Addr}
theorem rd_of {u:HO} (ok:HOk P w H h) (e:Rd H a u):ObjOk P w H h a u:=e.ok ok
theorem dk_rd {kvs:List (Key × V)} (ok:HOk P w H h) (e:Rd H a (.dK kvs)):kvs.length<=sizeLine/\(a == sysModules) = false/\∃ vs,KV kvs vs/\h.DictOf (mixKind P w) a vs:=
 show ObjOk P w H h a (.dK kvs) from rd_of ok e
theorem dk_of {kvs:List (Key × V)} (ok:HOk P w H h) (e:H a = some (.dK kvs)):kvs.length<=sizeLine/\(a == sysModules) = false/\∃ vs,KV kvs vs/\h.DictOf (mixKind P w) a vs:=dk_rd ok (.inl e)
theorem key_of {ks:List Key} (ok:HOk P w H h) (e:H a = some (.tup (ks.map kV))):(tupleKind (mixKind P w)).is h ks a:=by
 obtain ⟨_,its,r,o,h1,h2,n,h3⟩:=(show ObjOk P w H h a (.tup (ks.map kV)) from ok a _ e)
 exact ⟨o,its.toArray,n,h1,h2,h3,by simpa using items_are r⟩
theorem dt_rd {kvs:List (List Key × V)} (ok:HOk P w H h) (e:Rd H a (.dT kvs)):kvs.length<=sizeLine/\(a == sysModules) = false/\
  ∃ xs,KT H kvs xs/\h.DictOfH (tupleKind (mixKind P w)) a xs:=by
 obtain ⟨z,y,xs,r,o,es,ep,h1,h2,h3,h4,h5⟩:=(show ObjOk P w H h a (.dT kvs) from rd_of ok e)
 refine ⟨z,y,xs,r,o,es,ep,h1,h2,h3,h4,fun x hx=>?_,h5⟩
 have all:∀ {l:List (List Key × V)} {m:List (List Key × Addr × Value)},KT H l m->∀ x ∈ m,(tupleKind (mixKind P w)).is h x.1 x.2.1:=by
  intro l m q
  induction q with
  | nil=>intro x hx; exact nomatch hx
  | @cons p q ps qs hq t ih=>
   intro x hx
   rcases List.mem_cons.mp hx with e | hx
   ·subst e
    exact key_of ok (by rw [<- hq.1]; exact hq.2.1)
   ·exact ih x hx
 exact all r x hx
theorem dt_of {kvs:List (List Key × V)} (ok:HOk P w H h) (e:H a = some (.dT kvs)):kvs.length<=sizeLine/\(a == sysModules) = false/\
  ∃ xs,KT H kvs xs/\h.DictOfH (tupleKind (mixKind P w)) a xs:=dt_rd ok (.inl e)
end
def DGet (H:Hp) (a:Addr) (y:V) (r:Option V):Prop:=
 (∃ kvs k,Rd H a (.dK kvs)/\y = kV k/\r = valV kvs k)\/∃ kvs k b,Rd H a (.dT kvs)/\y = .ref b/\H b = some (.tup (k.map kV))/\r = valV kvs k
def DPut (H:Hp) (a:Addr) (y v:V) (H':Hp):Prop:=
 (∃ kvs k,H a = some (.dK kvs)/\y = kV k/\kvs.length < sizeLine/\H' = upd H a (.dK (putK kvs k v)))\/
 ∃ kvs k b,H a = some (.dT kvs)/\y = .ref b/\H b = some (.tup (k.map kV))/\kvs.length < sizeLine/\H' = upd H a (.dT (putK kvs k v))
section
variable {X:Cx} {pins:List (Addr × Obj)} {σ : St} {H:Hp} {s:Shared} {a:Addr} {y v:V} {u r:Value} {o:Option V} {A:Around} {E:Value->Shared->Prop}
theorem Inv.big (I:Inv X pins σ H s):sysModules < s.heap.objs.size:=by
 have h:mainGlobals < s.heap.objs.size:=(I.mod.glob.keeps I.bk).lt
 exact Nat.lt_trans (by decide) h
theorem d_getItem {Q:Value->Shared->Prop} (hu:A.units + 1 < cLine) (I:Inv X pins σ H s) (g:DGet H a y (some v)) (ry:RelV y u) (h:∀ w' s',Inv X pins σ H s'->RelV v w'->Q w' s') :
  wpAny (model X.prog X.w) A (getItem (.ref a) u) Q E s:=by
 rcases g with ⟨kvs,k,e,ey,l⟩ | ⟨kvs,k,b,e,ey,eb,l⟩
 ·subst ey
  obtain ⟨z,hd,vs,rel,dd⟩:=dk_rd I.hok e
  obtain ⟨w',hw,rw'⟩:=RelO.some_of (v:=v) (o:=valueAt vs k) (by rw [l]; exact rel.val k)
  exact wpAny_getItem_of (kV_is ry) dd.mapOf hw (h w' _ (I.tok _) rw')
 ·subst ey
  cases (show u = Value.ref b from ry)
  obtain ⟨z,hd,xs,rel,dd⟩:=dt_rd I.hok e
  obtain ⟨w',hw,rw'⟩:=RelO.some_of (v:=v) (o:=(atKey xs k).map (·.2)) (by rw [l]; exact rel.val k)
  obtain ⟨p,hp,hp2⟩:=Option.map_eq_some_iff.mp hw
  refine wpAny_getItem_heap (tupleKind_room_in1 hu) (key_of I.hok eb) dd hp ?_
  rw [hp2]
  exact h w' _ (I.tok _) rw'
theorem d_in {Q:Value->Shared->Prop} (hu:A.units + 1 < cLine) (I:Inv X pins σ H s) (g:DGet H a y o) (ry:RelV y u) (h:∀ s',Inv X pins σ H s'->Q (.bool o.isSome) s') :
  wpAny (model X.prog X.w) A (compareOp .In u (.ref a)) Q E s:=by
 rcases g with ⟨kvs,k,e,ey,l⟩ | ⟨kvs,k,b,e,ey,eb,l⟩
 ·subst ey
  obtain ⟨z,hd,vs,rel,dd⟩:=dk_rd I.hok e
  refine wpAny_in_of (kV_is ry) hd dd.mapOf ?_
  rw [<- (rel.val k).isSome_eq,<- l]
  exact h _ (I.tok _)
 ·subst ey
  cases (show u = Value.ref b from ry)
  obtain ⟨z,hd,xs,rel,dd⟩:=dt_rd I.hok e
  refine wpAny_in_heap (tupleKind_room_in1 hu) (key_of I.hok eb) hd dd ?_
  have q:=(rel.val k).isSome_eq
  rw [Option.isSome_map] at q
  rw [<- q,<- l]
  exact h _ (I.tok _)
theorem d_notIn {Q:Value->Shared->Prop} (hu:A.units + 1 < cLine) (I:Inv X pins σ H s) (g:DGet H a y o) (ry:RelV y u) (h:∀ s',Inv X pins σ H s'->Q (.bool (!o.isSome)) s') :
  wpAny (model X.prog X.w) A (compareOp .NotIn u (.ref a)) Q E s:=by
 rcases g with ⟨kvs,k,e,ey,l⟩ | ⟨kvs,k,b,e,ey,eb,l⟩
 ·subst ey
  obtain ⟨z,hd,vs,rel,dd⟩:=dk_rd I.hok e
  refine wpAny_notIn_of (kV_is ry) hd dd.mapOf ?_
  rw [<- (rel.val k).isSome_eq,<- l]
  exact h _ (I.tok _)
 ·subst ey
  cases (show u = Value.ref b from ry)
  obtain ⟨z,hd,xs,rel,dd⟩:=dt_rd I.hok e
  refine wpAny_notIn_heap (tupleKind_room_in1 hu) (key_of I.hok eb) hd dd ?_
  have q:=(rel.val k).isSome_eq
  rw [Option.isSome_map] at q
  rw [<- q,<- l]
  exact h _ (I.tok _)
theorem d_write {h':Heap} {t':Nat} {ob:HO} (I:Inv X pins σ H s) (mu:Mut (H a)) (hs:Heap.SameBut a s.heap h') (he:∃ q,h'.get? a = some q) (new:ObjOk X.prog X.w (upd H a ob) h' a ob) :
  Inv X pins σ (upd H a ob) { s with heap:=h',toks:=t' }:=
 I.write (x:=a) (e:=a) mu (.inl rfl) (fun b q hb z=>(hs.2 b hb).trans z) he new
theorem dk_new {P:Program} {w:World} {H':Hp} {h':Heap} {kvs:List (Key × V)} {vs:List (Key × Value)} (z:kvs.length<=sizeLine) (hd:(a == sysModules) = false) (rel:KV kvs vs) (dd:h'.DictOf (mixKind P w) a vs) :
  ObjOk P w H' h' a (.dK kvs):=⟨z,hd,vs,rel,dd⟩
theorem d_setItem {H':Hp} {Q:Unit->Shared->Prop} (hu:A.units + 1 < cLine) (I:Inv X pins σ H s) (g:DPut H a y v H') (ry:RelV y u) (rv:RelV v r) (h:∀ s',Inv X pins σ H' s'->Q () s') :
  wpAny (model X.prog X.w) A (setItem (.ref a) u r) Q E s:=by
 rcases g with ⟨kvs,k,e,ey,l,eH⟩ | ⟨kvs,k,b,e,ey,eb,l,eH⟩
 ·subst ey eH
  obtain ⟨z,hd,vs,rel,dd⟩:=dk_of I.hok e
  have hz:vs.length<=sizeLine:=by rw [<- rel.length]; exact z
  have hl:(putK kvs k v).length<=sizeLine:=by have:=length_putK kvs k v; omega
  refine wpAny_setItem_pairs (hsz:=hz) (kV_is ry) dd fun h' dd' hs=>h _ ?_
  have he:∃ q,h'.get? a = some q:=let ⟨q,_,_,hq,_⟩:=dd'; ⟨q,hq⟩
  exact d_write I (by rw [e]; exact True.intro) hs he (dk_new hl hd (rel.put k rv) dd')
 ·subst ey eH
  cases (show u = Value.ref b from ry)
  obtain ⟨z,hd,xs,rel,dd⟩:=dt_of I.hok e
  have hz:xs.length<=sizeLine:=by rw [<- Paired.length rel]; exact z
  have hl:(putK kvs k v).length<=sizeLine:=by have:=length_putK kvs k v; omega
  refine wpAny_setItem_heap (hsz:=hz) (tupleKind_room_in1 hu) (key_of I.hok eb) dd fun h' dd' hs=>h _ ?_
  obtain ⟨q,es,ep,hq,h2,h3,h4,_,h5⟩:=dd'
  refine d_write I (by rw [e]; exact True.intro) hs ⟨q,hq⟩ ⟨hl,hd,_,(rel.put k eb rv).keeps fun c ys ec=>?_,q,es,ep,hq,h2,h3,h4,h5⟩
  rw [upd_ne (ne_of ec e (fun z=>nomatch z))]
  exact ec
end
section
variable {X:Cx} {pins:List (Addr × Obj)} {σ : St} {H:Hp} {s:Shared} {a:Addr} {kvs:List (Key × V)} {k:Key} {u:Value} {A:Around} {E:Value->Shared->Prop}
end
def NoSl (i:Expr):Prop:=∀ ov iv,subscripted i false ov iv = operate [ov,iv] (getItem ov iv)
theorem subD_of {prog:Program} {w:World} {A:Around} {E:Value->Shared->Prop} {s:Shared} {env:Env} {value slice:Expr} {pos:Pos} {T id:String} {Q:Value->Shared->Prop}
  (hl:typeLookup (.type T) "__getitem__" = pure (some (.builtin id))) (hs:NoSl slice)
  (h:wpAny (model prog w) A (eval value env) (fun o s₁=>wpAny (model prog w) A (eval slice env) (fun i s₂=>s₂.TypeIs o T/\wpAny (model prog w) A (getItem o i) Q E s₂) E s₁) E s) :
  wpAny (model prog w) A (eval (.Subscript value slice pos) env) Q E s:=by
 refine Subscript_ (wpAny_mono h (fun o s₁ h₁=>wpAny_mono h₁ (fun i s₂ h₂=>?_) fun _ _ x=>x) fun _ _ x=>x)
 obtain ⟨hT,h₂⟩:=h₂
 unfold subscriptTail
 refine wpAny_bind ?_
 rw [getitemInPython_of_ne hT.not_modules]
 refine wpAny_bind (wpAny_specialOf hT hl ?_)
 have fin:wpAny (model prog w) A (subscripted slice false o i) (fun r s₃=>wpAny (model prog w) A (letTemporaryGo value o r >>= fun _=>pure r) Q E s₃) E s₂:=by
  rw [hs o i]
  exact wpAny_operating (wpAny_mono h₂ (fun r s₃ h₃=>wpAny_bind (wpAny_letTemporaryGo (wpAny_pure h₃))) fun _ _ x=>x)
 first
  | exact wpAny_pure (wpAny_bind fin)
  | exact wpAny_bind (wpAny_pure (wpAny_bind fin))
  | exact wpAny_bind fin
theorem dict_typeIs {X:Cx} {pins:List (Addr × Obj)} {σ : St} {H:Hp} {s:Shared} {a:Addr} {y:V} {o:Option V} (I:Inv X pins σ H s) (g:DGet H a y o):s.TypeIs (.ref a) "dict":=by
 rcases g with ⟨kvs,k,e,_,_⟩ | ⟨kvs,k,b,e,_,_,_⟩
 ·obtain ⟨_,_,vs,_,dd⟩:=dk_rd I.hok e
  exact dd.typeIs
 ·obtain ⟨_,_,xs,_,dd⟩:=dt_rd I.hok e
  exact dd.typeIs
def tDGet (td ty:TE):TE:=fun σ H Q=>td σ H fun x H1=>ty σ H1 fun y H2=>∃ a v,x = .ref a/\DGet H2 a y (some v)/\Q v H2
def tDIn (ty td:TE):TE:=fun σ H Q=>ty σ H fun y H1=>td σ H1 fun x H2=>∃ a o,x = .ref a/\DGet H2 a y o/\Q (.bl o.isSome) H2
def tDNotIn (ty td:TE):TE:=fun σ H Q=>ty σ H fun y H1=>td σ H1 fun x H2=>∃ a o,x = .ref a/\DGet H2 a y o/\Q (.bl (!o.isSome)) H2
def sDPut (td ty tv:TE):TS:=fun D σ H=>tv σ H fun v H1=>td σ H1 fun x H2=>ty σ H2 fun y H3=>∃ a H4,x = .ref a/\DPut H3 a y v H4/\D.nx σ H4
section
variable {X:Cx} {o i e value:Expr} {pos pos' tpos:Pos} {td ty tv:TE}
theorem pe_dget (hu:X.A.units + 1 < cLine) (ho:PE X o td) (hi:PE X i ty) (hs:NoSl i):PE X (.Subscript o i pos) (tDGet td ty):=by
 refine ⟨?_⟩
 intro pins s σ H Q I h
 refine subD_of PySem.F.slot_dict_getitem.lookup hs (thn (ho pins s σ H _ I h) fun u s1 ⟨x,H1,I1,rx,q1⟩=>thn (hi pins s1 σ H1 _ I1 q1) fun iv s2 ⟨y,H2,I2,ry,a,v,ex,g,q2⟩=>?_)
 subst ex
 obtain rfl:u = Value.ref a:=rx
 exact ⟨dict_typeIs I2 g,d_getItem hu I2 g ry fun w' s3 I3 rw'=>⟨v,H2,I3,rw',q2⟩⟩
theorem pc_din (hu:X.A.units + 1 < cLine) (hi:PE X i ty) (ho:PE X o td):PC X .In i o (tDIn ty td):=by
 refine ⟨?_⟩
 intro pins s σ H Q I h
 refine thn (hi pins s σ H _ I h) fun iv s1 ⟨y,H1,I1,ry,q1⟩=>thn (ho pins s1 σ H1 _ I1 q1) fun u s2 ⟨x,H2,I2,rx,a,ov,ex,g,q2⟩=>?_
 subst ex
 obtain rfl:u = Value.ref a:=rx
 exact d_in hu I2 g ry fun s3 I3=>⟨.bl ov.isSome,H2,I3,rfl,q2⟩
theorem pc_dnotin (hu:X.A.units + 1 < cLine) (hi:PE X i ty) (ho:PE X o td):PC X .NotIn i o (tDNotIn ty td):=by
 refine ⟨?_⟩
 intro pins s σ H Q I h
 refine thn (hi pins s σ H _ I h) fun iv s1 ⟨y,H1,I1,ry,q1⟩=>thn (ho pins s1 σ H1 _ I1 q1) fun u s2 ⟨x,H2,I2,rx,a,ov,ex,g,q2⟩=>?_
 subst ex
 obtain rfl:u = Value.ref a:=rx
 exact d_notIn hu I2 g ry fun s3 I3=>⟨.bl (!ov.isSome),H2,I3,rfl,q2⟩
theorem ps_dput (hu:X.A.units + 1 < cLine) (ho:PE X o td) (hi:PE X i ty) (hv:PE X value tv) (hs:swapsWith value (some (.Subscript o i pos')) pos.line X.env = pure false) :
  PS X (.Assign [.Subscript o i pos'] value pos) (sDPut td ty tv):=by
 refine ⟨?_⟩
 intro pins s σ H D I h
 refine wpAny_Assign_Subscript (thn (hv pins s σ H _ I h) fun r s1 ⟨v,H1,I1,rv,q1⟩=>thn (ho pins s1 σ H1 _ I1 q1) fun u s2 ⟨x,H2,I2,rx,q2⟩=>thn (hi pins s2 σ H2 _ I2 q2) fun iv s3 ⟨y,H3,I3,ry,a,H4,ex,g,q3⟩=>?_) hs
 subst ex
 obtain rfl:u = Value.ref a:=rx
 exact d_setItem hu I3 g ry rv fun s4 I4=>⟨σ,H4,I4,q3⟩
end
theorem dk_empty {P:Program} {w:World} {H:Hp} (h:Heap) (hb:sysModules < h.objs.size):ObjOk P w H (h.push { cls:=.type "dict",data:=.dict #[] }) h.objs.size (.dK []):=
 ⟨Nat.zero_le _,beq_eq_false_iff_ne.mpr (Ne.symm (Nat.ne_of_lt hb)),[],.nil,Heap.DictOf.new h⟩
def tDNewK:TE:=fun _ H Q=>∀ p,H p = none->Q (.ref p) (upd H p (.dK []))
section
variable {X:Cx} {pos:Pos}
theorem pe_dnewK:PE X (.Dict [] [] pos) tDNewK:=⟨fun pins s σ H Q I h=>
 wpAny_Dict_empty ⟨.ref s.heap.objs.size,_,I.laid (a:=s.heap.objs.size) (o:=.dK []) (t':=s.toks) (fun _ _ q=>Heap.get?_push_of_some _ q) (Nat.le_refl _) (dk_empty s.heap I.big),rfl,h _ (I.hok.fresh (Nat.le_refl _))⟩⟩
end
def tPairs:List (TE × TE)->St->Hp->(List (V × V)->Hp->Prop)->Prop
 | [],_,H,Q=>Q [] H
 | (tk,tv) :: r,σ,H,Q=>tk σ H fun x H1=>tv σ H1 fun y H2=>tPairs r σ H2 fun ps H3=>Q ((x,y) :: ps) H3
structure M1 (X:Cx) (o:Expr) (m:Str) (apos:Pos) (e:Expr) (cpos:Pos):Prop where
 base:attributeBase o m X.env (eval o X.env) = eval o X.env
 few:((backTo cpos (starEach [e] X.env)).all (fun x=>!x.1) && (backToKw cpos (keywordEach [] X.env)).all (fun x=>x.1.isSome)
  && decide (([e]:List Expr).length + ([]:List Keyword).length + (if ([]:List Keyword).isEmpty then 0 else 1) < 30)) = true
 line:(apos.endLine == cpos.line) = true
 trees:backTo cpos (starEach [e] X.env) = [(false,eval e X.env)]
def IsD (H:Hp) (a:Addr):Prop:=(∃ kvs,Rd H a (.dK kvs))\/∃ kvs,Rd H a (.dT kvs)
theorem isD_at {X:Cx} {pins:List (Addr × Obj)} {σ : St} {H:Hp} {s:Shared} {a:Addr} (I:Inv X pins σ H s) (d:IsD H a) :
  s.TypeIs (.ref a) "dict"/\(∀ b,Value.ref a = .ref b->∃ ob,s.heap.get? b = some ob/\ob.dict = none)/\(a == sysModules) = false:=by
 rcases d with ⟨kvs,e⟩ | ⟨kvs,e⟩
 ·obtain ⟨_,hd,vs,_,dd⟩:=dk_rd I.hok e
  refine ⟨dd.typeIs,fun b q=>?_,hd⟩
  cases q
  obtain ⟨ob,_,_,h1,h2,_⟩:=dd
  exact ⟨ob,h1,h2.2.1⟩
 ·obtain ⟨_,hd,xs,_,dd⟩:=dt_rd I.hok e
  refine ⟨dd.typeIs,fun b q=>?_,hd⟩
  cases q
  obtain ⟨ob,_,_,h1,h2,_⟩:=dd
  exact ⟨ob,h1,h2.2.1⟩
section
variable {X:Cx} {pins:List (Addr × Obj)} {σ : St} {H:Hp} {s:Shared} {a:Addr} {y d:V} {u r:Value} {o:Option V} {A:Around} {E:Value->Shared->Prop}
theorem d_get1 {Q:Value->Shared->Prop} (hu:A.units + 1 < cLine) (I:Inv X pins σ H s) (g:DGet H a y o) (ry:RelV y u) (h:∀ w' s',Inv X pins σ H s'->RelV (o.getD .non) w'->Q w' s') :
  wpAny (model X.prog X.w) A (call (.builtin "dict.get") [.ref a,u]) Q E s:=by
 rcases g with ⟨kvs,k,e,ey,l⟩ | ⟨kvs,k,b,e,ey,eb,l⟩
 ·subst ey
  obtain ⟨z,hd,vs,rel,dd⟩:=dk_rd I.hok e
  refine call_meetsIn PySem.F.slot_dict_get dd.typeIs PySem.F.entry_dict_get (PySem.F.args_dict_get_2 _ _) (meets_dict_get (mixKind X.prog X.w) a (kV_is ry) hd) ⟨_,dd.mapOf,h _ _ (I.tok _) ?_⟩
  rw [l]
  exact (rel.val k).getD rfl
 ·subst ey
  cases (show u = Value.ref b from ry)
  obtain ⟨z,hd,xs,rel,dd⟩:=dt_rd I.hok e
  refine call_meetsIn PySem.F.slot_dict_get dd.typeIs PySem.F.entry_dict_get (PySem.F.args_dict_get_2 _ _) (meetsH_dict_get (tupleKind (mixKind X.prog X.w)) a b hd) ⟨tupleKind_room_in1 hu,k,xs,key_of I.hok eb,dd,h _ _ (I.tok _) ?_⟩
  rw [l]
  exact (rel.val k).getD rfl
end
def tDGet1 (td ty:TE):TE:=fun σ H Q=>td σ H fun x H1=>∃ a,x = .ref a/\IsD H1 a/\ty σ H1 fun y H2=>∃ o,DGet H2 a y o/\Q (o.getD .non) H2
section
variable {X:Cx} {o e f:Expr} {apos cpos:Pos} {td ty tx:TE}
theorem pe_dget1 (hu:X.A.units + 1 < cLine) (ho:PE X o td) (he:PE X e ty) (m:M1 X o "get" apos e cpos):PE X (.Call (.Attribute o "get" apos) [e] [] cpos) (tDGet1 td ty):=by
 refine ⟨?_⟩
 intro pins s σ H Q I h
 refine wpAny_Call_method m.base m.few m.line PySem.F.plainAttrs_dict PySem.F.slot_dict_get PySem.F.type_dict_get (thn (ho pins s σ H _ I h) fun u s1 ⟨x,H1,I1,rx,a,ex,d,q1⟩=>?_)
 subst ex
 obtain rfl:u = Value.ref a:=rx
 obtain ⟨t1,t2,_⟩:=isD_at I1 d
 refine ⟨t1,t2,?_⟩
 rw [m.trees]
 refine Calls.callWith_builtin rfl (Calls.evalArgs_plain (Calls.spliced_cons (thn (he pins s1 σ H1 _ I1 q1) fun iv s2 ⟨y,H2,I2,ry,ov,g,q2⟩=>Calls.spliced_nil ?_)))
 exact d_get1 hu I2 g ry fun w' s3 I3 rw'=>⟨_,H2,I3,rw',q2⟩
end
section
variable {X:Cx} {pins:List (Addr × Obj)} {σ : St} {H:Hp} {s:Shared} {a:Addr} {kvs:List (Key × V)} {A:Around} {E:Value->Shared->Prop}
end
section
variable {X:Cx} {pins:List (Addr × Obj)} {σ : St} {H:Hp} {s:Shared} {a:Addr} {y:V} {u:Value} {A:Around} {E:Value->Shared->Prop}
end
end L2
namespace Att
open PySem PySem.W PySem.Calls PyProof.Rows
theorem ints_of_wellAll {P:Params} {h:Heap}:∀ (ns:List Int) (vs:List Value),WellAll P h vs (ns.map WData.int)->IntsAre vs ns:=by
 intro ns
 induction ns with
 | nil=>
  intro vs w
  rw [List.map_nil] at w
  cases w
  exact .nil
 | cons n ns ih=>
  intro vs w
  rw [List.map_cons] at w
  cases w with
  | cons a b=>
   cases a
   exact .cons _ _ (ih _ b)
theorem script_of {l:OpenLaw} {n:Nat} (hn:l.most = some n) {P:Params} {h:Heap} {args:List WData} {vals:List Value}
  (hpre:l.row.toRowW.claim.pre args = true) (hwl:WellAll P h vals args) :
  ∃ a vs ns,vals = [Value.ref a]/\args = [WData.list (ns.map WData.int)]/\h.get? a = some { cls:=.type "list",data:=.seq vs.toArray }/\IntsAre vs ns/\ns.length<=n:=by
 have hsh:WShape.hasAll [] args [.list .int] = true:=(pre_splitW hpre).1
 have hc:l.pre.holds [] { args:=args } = true:=(pre_splitW hpre).2
 obtain ⟨d,r,rfl,h1,h2⟩:=hasAllW_cons hsh
 obtain rfl:=hasAllW_nil h2
 obtain ⟨xs,rfl,h3⟩:=hasW_list h1
 obtain ⟨ns,rfl⟩:=items_int h3
 have hlen:ns.length<=n:=by
  unfold OpenLaw.pre at hc
  have h4:(WTm.not (.lt (.lit (.int (n:Int))) (.len (.arg 0)))).holds [] { args:=[.list (ns.map .int)] } = true:=by
   have h4:=(holds_andW hc).1
   rw [hn] at h4
   exact h4
  have h5:=condW_of h4 (w_not (w_lt w_lit (w_len_list (w_arg rfl))))
  rw [List.length_map] at h5
  refine Nat.le_of_not_lt fun q=>?_
  have q':(n:Int) < ((ns.length:Nat):Int):=by omega
  first
   | (rw [decide_eq_true q'] at h5; exact absurd h5 (by decide))
   | (simp at h5; omega)
 cases hwl with
 | cons w1 w2=>
  cases w2
  cases w1 with
  | list ho hall=>exact ⟨_,_,ns,rfl,rfl,ho,ints_of_wellAll ns _ hall,hlen⟩
theorem post_true (l:OpenLaw) (args:List WData):l.row.toRowW.claim.post args (.bool true) args = true:=
 postW_of (r:=l.row.toRowW) (X:=(true == true))
  (show WShape.has [] (.bool true) .bool = true by first | rfl | decide | simp [WShape.has,WShape.arms,WShape.armsAll])
  (show (WTm.eq .res (.lit (.bool true))).value [] { args:=args,res:=some (.bool true),after:=args } = some (.bool (true == true)) from w_eq_bool (w_res rfl) w_lit) rfl
section
variable {prog:Program} {w:World} {A:Around} {E:Value->Shared->Prop} {s:Shared} {K:Frag}
def ledger (h:Heap) (L d:Addr):List (Addr × Obj):=(List.range h.objs.size).filterMap fun a=>if a = L\/a = d then none else (h.get? a).map fun o=>(a,o)
end
end Att
namespace L2
open PySem PySem.Spec PyProof.Rows
theorem vals_ints:∀ {vs:List Value} {ns:List Int},IntsAre vs ns->Vals (ns.map V.int) vs
 | _,_,.nil=>.nil
 | _,_,.cons n t h=>.cons ⟨t,rfl⟩ (vals_ints h)
def Only (H:Hp):Prop:=∀ b,H b = none\/∃ o xs,H b = some (.frz o (.lst xs))
theorem law_call {P:Program} {w:World} {K:PySem.W.Frag} {mg mb:Str->Option Value} {CX:CXT} {k:Nat} {fa a:Addr} {fd:FuncData} {x:Str} {sp:Sp} {s₁:Shared} {vs:List Value} {ns:List Int}
  (KX:K.In s₁.heap) (hns:s₁.heap.Ns mainGlobals mg) (hb:s₁.heap.Ns builtinsNs mb) (hbb:∀ x:Str,x ≠ "__name__"->mb x = bootBuiltins x) (hlim:s₁.heap.NoLimit) (hg:s₁.gens = #[])
  (ha:s₁.heap.get? a = some { cls:=.type "list",data:=.seq vs.toArray }) (hi:IntsAre vs ns) (hl:ns.length<=sizeLine) (hr:Room k callerA)
  (F:∀ base:Heap,K.In base->base.Ns mainGlobals mg->FnOk P w K mg base CX k fa fd [x] sp) (hbind:∀ (s:Shared) (u:Value),BindsTo s fd ⟨[u],[]⟩ [(x,u)])
  (hsp:∀ H:Hp,Only H->SqL K H a (ns.map V.int)->sp [.ref a] H (fun v _=>v = .bl true) fun _ _ _=>False)
  (hCX:∀ H e s',CX [] H s₁ (fun _ _ _=>False) e s'->False) :
  codeAny (model P w) callerA (.call (.ref fa) ⟨[.ref a],[]⟩) (fun r s'=>r = .ok (.ret (.bool true))/\OldK s₁.heap s'.heap/\s'.os = s₁.os/\AllBare s'.gens) s₁:=by
 have rv:=vals_ints hi
 have lenV:=hi.length
 have core:∀ H:Hp,Only H->SqL K H a (ns.map V.int)->HOk P w H s₁.heap->(∀ b,H b ≠ none->b = a)->(H a ≠ none->K.lookup a = none)->
   codeAny (model P w) callerA (.call (.ref fa) ⟨[.ref a],[]⟩) (fun r s'=>r = .ok (.ret (.bool true))/\OldK s₁.heap s'.heap/\s'.os = s₁.os/\AllBare s'.gens) s₁:=by
  intro H hO hS hok hA hK
  have base_of:∀ {b:Addr} {o:Obj},s₁.heap.get? b = some o->H b = none->(hidT s₁.heap H).get? b = some o:=fun e n=>hidT_get e n
  have noA:∀ {b:Addr} {o:Obj} {es:Array DictEntry} {ep:Nat},s₁.heap.get? b = some o->o.data = .dict es ep->H b = none:=fun {b o es ep} e d=>by
   cases q:H b with
   | none=>rfl
   | some u=>
    have e':b = a:=hA b (by rw [q]; simp)
    subst e'
    rw [ha] at e; cases e
    have d':Data.seq vs.toArray _ = Data.dict es ep:=d
    cases d'
  have nsK:∀ {b:Addr} {m:Str->Option Value},s₁.heap.Ns b m->(hidT s₁.heap H).Ns b m:=fun {b m} ⟨o,es,ep,e,d,r⟩=>⟨o,es,ep,base_of e (noA e d),d,r⟩
  have hKb:K.In (hidT s₁.heap H):=fun b o e=>base_of (KX b o e) (by
   cases q:H b with
   | none=>rfl
   | some u=>
    have e':b = a:=hA b (by rw [q]; simp)
    subst e'
    rw [hK (by rw [q]; simp)] at e; cases e)
  have hM:Mod K mg (hidT s₁.heap H):=⟨hKb,nsK hns,⟨mb,nsK hb,hbb⟩,let ⟨mc,h1,h2⟩:=hlim; ⟨mc,nsK h1,h2⟩⟩
  have e0:Env0 P w K mg (hidT s₁.heap H) callerA [] s₁ H:=⟨rfl,hM,fun b o e=>of_hidT e,Nat.le_of_eq (hidT_size _ _),trivial,fun b hb=>absurd (show b ∈ ([]:List Addr) from hb) (by simp),hok,.of_eq hg⟩
  refine codeAny_mono ((F _ hKb (nsK hns)).run callerA [] s₁ H ⟨[.ref a],[]⟩ [.ref a] [.ref a] _ _ hr e0 (hbind s₁ (.ref a)) (.cons rfl .nil) (hsp H hO hS)) fun r s' h=>?_
  cases r with
  | error e=>exact (hCX H e s' h).elim
  | ok fl=>
   cases fl with
   | next=>exact False.elim h
   | brk=>exact False.elim h
   | cont=>exact False.elim h
   | ret u=>
    obtain ⟨v,H',os,bare,un,hok',r',q⟩:=h
    have q':v = .bl true:=q
    subst q'
    obtain rfl:u = Value.bool true:=r'
    refine ⟨rfl,OldK.of_keep fun b o e=>?_,os,bare⟩
    cases q:H b with
    | none=>exact un.keep b o e q (by intro z; exact absurd (show b ∈ ([]:List Addr) from z) (by simp)) (by simp)
    | some u=>
     rcases hO b with z | ⟨ob,xs,z⟩
     ·rw [q] at z; cases z
     ·have z2:=un.frzs b ob _ z
      obtain ⟨e1,_⟩:=hok b _ z
      obtain ⟨e2,_⟩:=hok' b _ z2
      rw [e] at e1; cases e1
      exact e2
 cases hk:K.lookup a with
 | some o=>
  have e:=KX a o hk
  rw [ha] at e
  cases e
  refine core (fun _=>none) (fun _=>.inl rfl) (.inr ⟨_,vs.toArray,_,hk,rfl,rfl,rfl,by rw [List.size_toArray,lenV]; exact hl,by simpa using rv⟩) (fun b u z=>by have z':(none:Option HO) = some u:=z; cases z') (fun b z=>absurd rfl z) fun z=>absurd rfl z
 | none=>
  refine core (fun b=>if b = a then some (.frz { cls:=.type "list",data:=.seq vs.toArray } (.lst (ns.map V.int))) else none) (fun b=>?_) (.inl (.inr ⟨{ cls:=.type "list",data:=.seq vs.toArray },if_pos rfl⟩)) (fun b u z=>?_) (fun b z=>?_) fun _=>hk
  ·by_cases hb:b = a
   ·exact .inr ⟨_,_,if_pos hb⟩
   ·exact .inl (if_neg hb)
  ·by_cases hb:b = a
   ·have z':=(if_pos hb).symm.trans z
    cases z'
    subst hb
    exact ⟨ha,by rw [List.length_map]; exact hl,vs,_,rv,ha⟩
   ·have z':=(if_neg hb).symm.trans z
    cases z'
  ·by_cases hb:b = a
   ·exact hb
   ·exact absurd (if_neg hb) z
def inClass (s:Stmt) (j:Nat):Stmt:=match s with
 | .ClassDef _ _ _ body _ _ _ _ _ _ _=>body.getD j (.Pass ⟨0,0,0,0⟩)
 | _=>.Pass ⟨0,0,0,0⟩
def defArgs (s:Stmt):Arguments:=match s with
 | .FunctionDef _ a _ _ _ _ _ _ _ _=>a
 | _=>{ posonlyargs:=[],args:=[],vararg:=none,kwonlyargs:=[],kw_defaults:=[],kwarg:=none,defaults:=[] }
def defBody (s:Stmt):List Stmt:=match s with
 | .FunctionDef _ _ b _ _ _ _ _ _ _=>b
 | _=>[]
def defScope (s:Stmt):Scope:=match s with
 | .FunctionDef _ _ _ _ _ _ sc _ _ _=>sc
 | _=>{ kind:=.function,names:=[],isGenerator:=false,isCoroutine:=false }
abbrev CX0:CXT:=fun _ _ _ _ _ _=>False
abbrev E0:XK:=fun _ _ _=>False
theorem pass0 {X:Cx}:Passes CX0 X E0:=fun _ _ _ _ _ _ _ h=>h.elim
structure Fun (K:PySem.W.Frag) (x qual:Str) (st:Stmt) (f:Addr) (fd:FuncData):Prop where
 ex:∃ (oc:Value) (od:Option Addr) (kV doc pm:Value) (an:Option Addr) (cdv ct:Value) (osl:Array (Option Value)),
  fd = PySem.W.fnOf x qual (defArgs st) (defBody st) (defScope st) .none kV doc pm an cdv ct/\K.lookup f = some ⟨oc,od,.func fd,osl⟩/\PySem.W.codeIn K cdv qual = true
 kp:PySem.W.keepIn K (.ref f) = true
section
variable {P:Program} {w:World} {K:PySem.W.Frag} {mg:Str->Option Value} {base:Heap}
theorem Fun.ok {x qual:Str} {st:Stmt} {f:Addr} {fd:FuncData} {N ps:List Str} {k:Nat} {sp:Sp} (F:Fun K x qual st f fd) (S:FnScope N ps (defScope st)) (len:∀ vs H Q E,sp vs H Q E->vs.length = ps.length)
  (hbody:∀ (cdv:Value) (A:Around) (outer:List Env) (s:Shared) (H:Hp) (vs:List V) (Q:VK) (E:XK),Room k (A.deeper (envOfC qual (defScope st) s.heap.objs.size f cdv))->sp vs H Q E->
   ∃ t,PSs (cxOf CX0 P w K mg base N qual (defScope st) f cdv A outer s H E).nox (defBody st) t/\t { nx:=fun _ H'=>Q .non H',rt:=Q } (start N vs) H):FnOk P w K mg base CX0 (k + 1) f fd ps sp:=by
 obtain ⟨oc,od,kV,doc,pm,an,cdv,ct,osl,rfl,lk,hcd⟩:=F.ex
 refine fn_of lk hcd S len fun A outer s H vs Q E hr hsp=>?_
 obtain ⟨t,h,q⟩:=hbody cdv A outer s H vs Q E hr hsp
 exact ⟨t,h.nox,q⟩
theorem Fun.binds {x qual:Str} {st:Stmt} {f:Addr} {fd:FuncData} {ps:List Str} (F:Fun K x qual st f fd)
  (h:∀ (kV doc pm:Value) (an:Option Addr) (cdv ct:Value) (us:List Value),us.length = ps.length->bindArgs (PySem.W.fnOf x qual (defArgs st) (defBody st) (defScope st) .none kV doc pm an cdv ct) ⟨us,[]⟩ = pure (ps.zip us)):Binds K fd ps []:=by
 obtain ⟨oc,od,kV,doc,pm,an,cdv,ct,osl,rfl,lk,hcd⟩:=F.ex
 exact .all (h kV doc pm an cdv ct)
theorem fun_mk {x qual:Str} {st:Stmt} {f:Addr} {oc:Value} {od an:Option Addr} {osl:Array (Option Value)} {kV doc pm cdv ct:Value} (l:K.lookup f = some ⟨oc,od,.func (PySem.W.fnOf x qual (defArgs st) (defBody st) (defScope st) .none kV doc pm an cdv ct),osl⟩)
  (c:PySem.W.codeIn K cdv qual = true) (k:PySem.W.keepIn K (.ref f) = true):Fun K x qual st f (PySem.W.fnOf x qual (defArgs st) (defBody st) (defScope st) .none kV doc pm an cdv ct):=⟨⟨oc,od,kV,doc,pm,an,cdv,ct,osl,rfl,l,c⟩,k⟩
end
theorem hu_of {A:Around} {k:Nat} (hr:Room k A):A.units + 1 < cLine:=Nat.lt_of_le_of_lt (Nat.add_le_add_left (by decide : 1<=64) _) hr.units
theorem small1000 {n:Nat} (h:n<=1000):n < sizeLine:=Nat.lt_of_le_of_lt h (by decide)
section
variable {X:Cx}
theorem pv (i:Nat) {x:Str} {pos:Pos} (hN:X.N[i]? = some x:=by rfl) (hv:Vis X.env.scope x:=by first | exact Or.inl rfl | exact Or.inr (Or.inl rfl) | exact Or.inr (Or.inr rfl)) (hd:(x == ("__debug__" : Str)) = false:=by decide)
  (hcd:(x == ("__classdict__" : Str)) = false:=by decide):PE X (.Name x pos) (tVar i):=pe_var hN hv hd hcd
end
theorem iteF {A B:Prop} (h:B):if false = true then A else B:=by
 rw [if_neg Bool.false_ne_true]
 exact h
theorem iteT {A B:Prop} (h:A):if true = true then A else B:=by
 rw [if_pos rfl]
 exact h
theorem ite2 {c A B:Prop} [Decidable c] (h1:c->A) (h2:¬ c->B):if c then A else B:=by
 by_cases h:c
 ·rw [if_pos h]
  exact h1 h
 ·rw [if_neg h]
  exact h2 h
def Same (H H':Hp):Prop:=∀ b o,H b = some o->H' b = some o
theorem Same.refl (H:Hp):Same H H:=fun _ _ h=>h
theorem Same.trans {H H1 H2:Hp} (a:Same H H1) (b:Same H1 H2):Same H H2:=fun c o h=>b c o (a c o h)
theorem Same.free {H H':Hp} (e:Same H H') {l:Addr} (h:H' l = Option.none):H l = Option.none:=by
 cases q:H l with
 | none=>rfl
 | some o=>
  rw [e l o q] at h
  cases h
theorem Same.seq {K:PySem.W.Frag} {H H':Hp} {a:Addr} {xs:List V} (e:Same H H') (h:SqL K H a xs):SqL K H' a xs:=by
 rcases h with (h | ⟨o,h⟩) | h
 ·exact .inl (.inl (e _ _ h))
 ·exact .inl (.inr ⟨o,e _ _ h⟩)
 ·exact .inr h
section
variable {X:Cx}
end
section
variable {κ : Type} [DecidableEq κ]
end
def clB (env:Env) (fr:List Str):List (Str × Addr):=fr.map fun n=>(n,(env.cells.lookup n).getD 0)
theorem clB_look {env:Env}:∀ {fr:List Str} {x:Str} {c:Addr},(clB env fr).lookup x = some c->x ∈ fr/\c = (env.cells.lookup x).getD 0
 | [],x,c,h=>by simp [clB] at h
 | n :: r,x,c,h=>by
  have h':List.lookup x ((n,(env.cells.lookup n).getD 0) :: clB env r) = some c:=h
  rw [List.lookup_cons] at h'
  cases e:x == n with
  | true=>
   rw [e] at h'
   have e':x = n:=by simpa using e
   subst e'
   exact ⟨List.mem_cons_self,(Option.some.inj h').symm⟩
  | false=>
   rw [e] at h'
   obtain ⟨h1,h2⟩:=clB_look h'
   exact ⟨List.mem_cons_of_mem _ h1,h2⟩
theorem clB_in {env:Env}:∀ {fr:List Str} {x:Str},x ∈ fr->(clB env fr).lookup x = some ((env.cells.lookup x).getD 0)
 | n :: r,x,h=>by
  show List.lookup x ((n,(env.cells.lookup n).getD 0) :: clB env r) = _
  rw [List.lookup_cons]
  cases e:x == n with
  | true=>
   have e':x = n:=by simpa using e
   subst e'
   rfl
  | false=>
   rcases List.mem_cons.mp h with z | z
   ·subst z; simp at e
   ·exact clB_in z
theorem relabel_mem {env:Env}:∀ {names:List (Str × NameKind)} {x:Str} {k:NameKind},
  (names.map fun (n,k)=>if (k == NameKind.free && env.scope.kind == .function && env.kindOf n == some .cell) then (n,NameKind.cell) else (n,k)).lookup x = some k->
  ∃ k0,(x,k0) ∈ names/\(k = k0\/(k0 = .free/\k = .cell))
 | [],_,_,h=>by simp at h
 | (n,k0) :: r,x,k,h=>by
  have h':List.lookup x ((if (k0 == NameKind.free && env.scope.kind == .function && env.kindOf n == some .cell) = true then (n,NameKind.cell) else (n,k0)) ::
   (r.map fun (n,k)=>if (k == NameKind.free && env.scope.kind == .function && env.kindOf n == some .cell) then (n,NameKind.cell) else (n,k))) = some k:=h
  by_cases hc:(k0 == NameKind.free && env.scope.kind == .function && env.kindOf n == some .cell) = true
  ·rw [if_pos hc,List.lookup_cons] at h'
   cases e:x == n with
   | true=>
    rw [e] at h'
    have e':x = n:=by simpa using e
    subst e'
    simp only [Bool.and_eq_true] at hc
    exact ⟨k0,List.mem_cons_self,.inr ⟨by simpa using hc.1.1,(Option.some.inj h').symm⟩⟩
   | false=>
    rw [e] at h'
    obtain ⟨k1,h1,h2⟩:=relabel_mem h'
    exact ⟨k1,List.mem_cons_of_mem _ h1,h2⟩
  ·rw [if_neg hc,List.lookup_cons] at h'
   cases e:x == n with
   | true=>
    rw [e] at h'
    have e':x = n:=by simpa using e
    subst e'
    exact ⟨k0,List.mem_cons_self,.inl (Option.some.inj h').symm⟩
   | false=>
    rw [e] at h'
    obtain ⟨k1,h1,h2⟩:=relabel_mem h'
    exact ⟨k1,List.mem_cons_of_mem _ h1,h2⟩
theorem relabel_free {env:Env} (hk:env.scope.kind = .function):∀ {names:List (Str × NameKind)} {x:Str},names.lookup x = some .free->env.kindOf x = some .cell->
  (names.map fun (n,k)=>if (k == NameKind.free && env.scope.kind == .function && env.kindOf n == some .cell) then (n,NameKind.cell) else (n,k)).lookup x = some .cell
 | [],_,h,_=>by simp at h
 | (n,k0) :: r,x,h,hx=>by
  show List.lookup x ((if (k0 == NameKind.free && env.scope.kind == .function && env.kindOf n == some .cell) = true then (n,NameKind.cell) else (n,k0)) ::
   (r.map fun (n,k)=>if (k == NameKind.free && env.scope.kind == .function && env.kindOf n == some .cell) then (n,NameKind.cell) else (n,k))) = some .cell
  rw [List.lookup_cons] at h
  cases e:x == n with
  | true=>
   rw [e] at h
   have e':x = n:=by simpa using e
   subst e'
   have h0:k0 = .free:=Option.some.inj h
   subst h0
   rw [if_pos (by rw [hk,hx]; decide),List.lookup_cons]
   simp
  | false=>
   rw [e] at h
   have ih:=relabel_free hk h hx
   split
   ·rw [List.lookup_cons,e]; exact ih
   ·rw [List.lookup_cons,e]; exact ih
abbrev compCx (X:Cx) (pins:List (Addr × Obj)) (sc:Scope) (fr Nc:List Str) (fp:List Addr) (s:Shared) (H:Hp) (C:Addr):Cx:=
 { prog:=X.prog,w:=X.w,K:=X.K,mg:=X.mg,base:=X.base,A:=X.A,N:=Nc,s₀:=s,H₀:=H,env:=compEnvC sc (clB X.env fr) C X.env,outer:=X.stack,stack:=X.stack,ex:=fp,fn:=fun _=>false,calm:=X.calm,pn:=X.pn ++ pins,xe:=fun _ _=>False }
structure BlockOk (env:Env) (sc:Scope) (fr:List Str):Prop where
 kind:sc.kind = .function
 clos:closureFor sc env = pure (clB env fr)
 cells:(fr.all fun n=>(env.cells.lookup n).isSome) = true
 names:(sc.names.all fun y=>(y.2 != .cell) && (y.2 != .free || fr.contains y.1) && (y.2 != .local || sc.names.lookup y.1 == some .local)) = true
def capChk (N Nc:List Str) (caps:List (Option Nat)) (env:Env) (sc:Scope) (fr:List Str):Bool:=
 (Nc.zip caps).all fun p=>match p.2 with
  | none=>true
  | some j=>(N[j]? == some p.1) && (env.kindOf p.1 == some .cell) && (sc.names.lookup p.1 == some .free) && fr.contains p.1
def capS (caps:List (Option Nat)) (σ : St):St:=caps.map fun o=>match o with
 | none=>none
 | some j=>(σ[j]?).join
section
variable {X:Cx} {pins:List (Addr × Obj)} {σ : St} {H:Hp} {s:Shared} {sc:Scope} {fr Nc:List Str} {fp:List Addr} {C:Addr}
theorem BlockOk.sub {env:Env} (B:BlockOk env sc fr) {x:Str} {c:Addr} (h:(clB env fr).lookup x = some c):env.cells.lookup x = some c:=by
 obtain ⟨h1,h2⟩:=clB_look h
 have h3:=List.all_eq_true.mp B.cells x h1
 obtain ⟨d,hd⟩:=Option.isSome_iff_exists.mp h3
 rw [hd] at h2 |-
 rw [h2]; rfl
theorem BlockOk.free {env:Env} (B:BlockOk env sc fr) {x:Str} {k:NameKind} (h:(relabel sc env).names.lookup x = some k) (hk:k = .cell\/k = .free):x ∈ fr:=by
 obtain ⟨k0,h1,h2⟩:=relabel_mem h
 have h3:=List.all_eq_true.mp B.names _ h1
 simp only [Bool.and_eq_true,Bool.or_eq_true,bne_iff_ne,ne_eq,List.contains_iff_mem] at h3
 have h4:k0 = .free:=by
  rcases h2 with h2 | ⟨h2,_⟩
  ·subst h2
   rcases hk with z | z
   ·exact absurd z h3.1.1
   ·exact z
  ·exact h2
 rcases h3.1.2 with z | z
 ·exact absurd h4 z
 ·exact z
theorem comp_ok (I:Inv X pins σ H s) (B:BlockOk X.env sc fr) (hf:∀ b ∈ fp,FpOk X pins H b) (ho:∀ b ∈ fp,∃ o,s.heap.get? b = some o) (hC:s.heap.objs.size<=C):(compCx X pins sc fr Nc fp s H C).Ok where
 mod:=I.ok.mod
 kind:=B.kind
 glob:=I.ok.glob
 blt:=I.ok.blt
 above:=hC
 inj:=fun x y c h1 h2=>I.ok.inj x y c (B.sub h1) (B.sub h2)
 has:=fun x h=>by
  have hx:x ∈ fr:=by
   rcases h with h | h
   ·exact B.free h (.inl rfl)
   ·exact B.free h (.inr rfl)
  exact ⟨_,clB_in hx⟩
 cab:=fun x c h=>absurd h (by simp)
 hd:=I.ok.hd
 frames:=I.ok.frames
 stk:=.inl rfl
 exf:=fun b hb=>by
  obtain ⟨o,e⟩:=ho b hb
  refine ⟨fun z=>?_,fun x c h=>(hf b hb).2.2.2.2.1 x c (B.sub h)⟩
  have z':b = C:=z
  have:=Heap.lt_size e
  rw [z'] at this
  exact absurd (Nat.lt_of_lt_of_le this hC) (Nat.lt_irrefl _)
 bs:=I.bs
 bsz:=Nat.le_trans I.ok.bsz I.sz
 noex:=fun b o e hb=>by
  rcases (hf b hb).2.2.2.1 with z | z
  ·exact I.ok.noex b o e z
  ·exact absurd (Nat.lt_of_lt_of_le (Heap.lt_size (I.ok.bs b o e).1) z) (Nat.lt_irrefl _)
 exfs:=fun b hb h=>by
  rcases List.mem_cons.mp (I.stkSub b h) with z | z
  ·exact (hf b hb).2.1 z
  ·exact (hf b hb).2.2.1 z
 funs:=I.stack
 frf:=I.stkFree
theorem Inv.pin_lt (I:Inv X pins σ H s) {p:Addr × Obj} (hp:p ∈ X.pn ++ pins):p.1 < s.heap.objs.size:=Heap.lt_size (I.pin p hp).1
theorem comp_start {caps:List (Option Nat)} {h':Heap} {D:Addr} {m:Str->Option Value} {t' n0:Nat} (I:Inv X pins σ H s) (B:BlockOk X.env sc fr) (hf:∀ b ∈ fp,FpOk X pins H b) (ho:∀ b ∈ fp,∃ o,s.heap.get? b = some o)
  (hC:s.heap.objs.size<=C) (hD:s.heap.objs.size<=D) (hDC:D ≠ C) (keep:∀ b o,s.heap.get? b = some o->h'.get? b = some o) (hl:h'.get? D = some { cls:=.type "list",data:=.seq ([]:List Value).toArray n0 }) (hn:h'.Ns C m)
  (hcap:capChk X.N Nc caps X.env sc fr = true) (hlen:caps.length = Nc.length) :
  Inv (compCx X pins sc fr Nc fp s H C) [] (capS caps σ) (upd H D (.lst [])) { s with heap:=h',toks:=t' }:=by
 have hk:X.env.scope.kind = .function:=I.ok.kind
 have fresh:∀ a,s.heap.objs.size<=a->H a = none:=fun a ha=>I.hok.fresh ha
 refine ⟨comp_ok I B hf ho hC,rfl,I.bare,Un.laid keep hD (fresh D hD),⟨m,hn,fun i x v e1 e2 e3=>?_⟩,fun x c h=>?_,?_,fun x c h=>?_,fun p hp=>?_,?_,?_⟩
 ·
  have e2':(caps[i]?).map (fun o=>match o with | none=>none | some j=>(σ[j]?).join) = some (some v):=by
   have:(capS caps σ)[i]? = some (some v):=e2
   unfold capS at this
   rw [List.getElem?_map] at this
   exact this
  cases hc:caps[i]? with
  | none=>rw [hc] at e2'; cases e2'
  | some o=>
   rw [hc] at e2'
   cases o with
   | none=>simp at e2'
   | some j=>
    have e4:(σ[j]?).join = some v:=by simpa using e2'
    have e5 : σ[j]? = some (some v):=by
     cases q : σ[j]? with
     | none=>rw [q] at e4; cases e4
     | some w'=>rw [q] at e4; simp at e4; rw [e4]
    have e6:(Nc.zip caps)[i]? = some (x,some j):=by
     rw [List.getElem?_zip_eq_some]
     exact ⟨e1,hc⟩
    have e7:=List.all_eq_true.mp hcap _ (List.mem_of_getElem? e6)
    simp only [Bool.and_eq_true,beq_iff_eq,List.contains_iff_mem] at e7
    obtain ⟨⟨⟨a1,a2⟩,a3⟩,a4⟩:=e7
    obtain ⟨m0,hn0,hl0⟩:=I.loc
    obtain ⟨u,r,l⟩:=hl0 j x v a1 e5 (.inr (.inl a2))
    refine ⟨u,r,.inr ⟨.inl (relabel_free hk a3 a2),_,clB_in a4,?_⟩⟩
    rcases l with ⟨z,_⟩ | ⟨_,c,ec,hcell⟩
    ·rw [a2] at z; cases z
    ·have:(X.env.cells.lookup x).getD 0 = c:=by rw [ec]; rfl
     rw [this]
     exact hcell.keeps keep
 ·obtain ⟨v,hv⟩:=I.cell x c (B.sub h)
  exact ⟨v,hv.keeps keep⟩
 ·show upd H D (.lst []) C = none
  rw [upd_ne (Ne.symm hDC)]; exact fresh C hC
 ·obtain ⟨v,hv⟩:=I.cell x c (B.sub h)
  have:c ≠ D:=fun z=>by have:=hv.lt; rw [z] at this; exact absurd (Nat.lt_of_lt_of_le this hD) (Nat.lt_irrefl _)
  rw [upd_ne this]; exact I.freeC x c (B.sub h)
 ·have hp':p ∈ X.pn ++ pins:=by simpa using hp
  obtain ⟨e,n,ne,nf,d⟩:=I.pin p hp'
  have hlt:=I.pin_lt hp'
  refine ⟨keep _ _ e,?_,?_,fun z=>?_,d⟩
  ·rw [upd_ne (fun z=>by rw [z] at hlt; exact absurd (Nat.lt_of_lt_of_le hlt hD) (Nat.lt_irrefl _))]; exact n
  ·intro z
   have z':p.1 = C:=z
   rw [z'] at hlt; exact absurd (Nat.lt_of_lt_of_le hlt hC) (Nat.lt_irrefl _)
  ·rcases List.mem_cons.mp (I.stkSub p.1 z) with q | q
   ·exact ne q
   ·exact nf q
 ·exact I.hok.laid keep hD ⟨Nat.zero_le _,[],n0,.nil,hl⟩
 ·show (capS caps σ).length = Nc.length
  unfold capS
  rw [List.length_map,hlen]
theorem comp_back {pl:List (Addr × Obj)} {σ':St} {H':Hp} {s':Shared} (I:Inv X pins σ H s) (hf:∀ b ∈ fp,FpOk X pins H b) (J:Inv (compCx X pins sc fr Nc fp s H C) pl σ' H' s'):Inv X pins σ H' s':=
 I.call' J.os J.base J.hok J.bare fun b hb=>⟨(hf b hb).2.2.2.1,(hf b hb).2.1,(hf b hb).2.2.2.2.1,(hf b hb).2.2.2.2.2⟩
theorem comp_gone {pl:List (Addr × Obj)} {σ' σ2:St} {H':Hp} {s':Shared} {h2:Heap} {t2:Nat} (I:Inv X pins σ H s) (J:Inv (compCx X pins sc fr Nc fp s H C) pl σ' H' s') (J2:Inv X pins σ2 H' s') (hs:Heap.SameBut C s'.heap h2):Inv X pins σ2 H' { s' with heap:=h2,toks:=t2 }:=by
 have hC:s.heap.objs.size<=C:=J.ok.above
 refine J2.turned (it:=C) (fun b o hb e=>(hs.2 b hb).trans e) J.free ?_ (.inr (Nat.le_trans I.sz hC)) (fun x c h z=>?_) fun p hp z=>?_
 ·intro z
  have:=I.lt
  rw [<- z] at this
  exact absurd (Nat.lt_of_lt_of_le this hC) (Nat.lt_irrefl _)
 ·obtain ⟨v,hv⟩:=I.cell x c h
  have:=hv.lt
  rw [z] at this
  exact absurd (Nat.lt_of_lt_of_le this hC) (Nat.lt_irrefl _)
 ·have:=I.pin_lt hp
  rw [z] at this
  exact absurd (Nat.lt_of_lt_of_le this hC) (Nat.lt_irrefl _)
end
def tTrue:TT:=fun _ H Q=>Q true H
structure PIf (X:Cx) (ifs:List Expr) (t:TT):Prop where
 run:∀ (pins:List (Addr × Obj)) (s:Shared) (σ : St) (H:Hp) (Q:Bool->Hp->Prop),Inv X pins σ H s->t σ H Q->
  wpAny (model X.prog X.w) X.A (forIn ifs true fun c r=>if r = true then do let ok <- isTrue c X.env (eval c X.env); pure (ForInStep.yield ok) else pure (ForInStep.yield r)) (TP X pins σ Q) X.xe s
instance {X:Cx} {ifs:List Expr} {t:TT}:CoeFun (PIf X ifs t) (fun _=>∀ (pins:List (Addr × Obj)) (s:Shared) (σ : St) (H:Hp) (Q:Bool->Hp->Prop),Inv X pins σ H s->t σ H Q->
  wpAny (model X.prog X.w) X.A (forIn ifs true fun c r=>if r = true then do let ok <- isTrue c X.env (eval c X.env); pure (ForInStep.yield ok) else pure (ForInStep.yield r)) (TP X pins σ Q) X.xe s):=⟨PIf.run⟩
theorem pif_nil {X:Cx}:PIf X [] tTrue:=⟨fun _ _ _ H _ I h=>wpAny_tests_nil ⟨H,I,h⟩⟩
theorem pif_one {X:Cx} {c:Expr} {t:TT} (hc:PT X c t):PIf X [c] t:=⟨fun pins s σ H Q I h=>wpAny_tests_one (hc pins s σ H Q I h)⟩
def GOwn (g:TG) (ow:List Nat):Prop:=
 ∀ (v:V) (σ : St) (H:Hp) (Q:St->Hp->Prop),g v σ H Q->g v σ H fun σ2 H2=>Q σ2 H2/\σ2.length = σ.length/\∀ i,i ∉ ow->σ2[i]? = σ[i]?
theorem gown_name (i:Nat):GOwn (gName i) [i]:=fun v σ H Q h=>⟨h,List.length_set ..,fun j hj=>List.getElem?_set_ne (fun e=>hj (by simp [e]))⟩
theorem gown_tup2 {K:PySem.W.Frag} {n:Nat} (i j:Nat):GOwn (gTup K n (gCons (gName i) (gCons (gName j) gNil))) [i,j]:=by
 rintro v σ H Q ⟨a,xs,e1,e2,e3,v1,r1,e4,v2,r2,e5,e6,q⟩
 refine ⟨a,xs,e1,e2,e3,v1,r1,e4,v2,r2,e5,e6,q,by rw [List.length_set,List.length_set],fun k hk=>?_⟩
 have h1:i ≠ k:=fun e=>hk (by simp [e])
 have h2:j ≠ k:=fun e=>hk (by simp [e])
 rw [List.getElem?_set_ne h2,List.getElem?_set_ne h1]
section
variable {prog:Program} {w:World} {A:Around} {R:Result->Shared->Prop} {s:Shared}
theorem compLoop_any {elt target iter:Expr} {ifs:List Expr} {scope:Scope} {pos:Pos} {it acc:Value} {env:Env} (I:Nat->Shared->Prop)
  (turn:∀ n s,I n s->wpAny (model prog w) A (pyNext it) (fun r s₁=>match r with
   | none=>R (.ok .next) s₁
   | some v=>wpAny (model prog w) A (letOwnedTupleGo target it v) (fun _ s₀=>wpAny (model prog w) A (assign target env v) (fun _ s₂=>
     wpAny (model prog w) A (forIn ifs true fun c r=>if r = true then do let ok <- isTrue c env (eval c env); pure (ForInStep.yield ok) else pure (ForInStep.yield r)) (fun ok s₃=>
      if ok = true then wpAny (model prog w) A (eval elt env) (fun x s₄=>
       wpAny (model prog w) A (call (.builtin "list.append") [acc,x]) (fun _ s₅=>∃ m,m < n/\I m s₅) (fun _ _=>False) s₄) (fun _ _=>False) s₃
      else ∃ m,m < n/\I m s₃) (fun _ _=>False) s₂) (fun _ _=>False) s₀) (fun _ _=>False) s₁) (fun _ _=>False) s)
  (n:Nat) (h:I n s) :
  codeAny (model prog w) A (.compLoop (.ListComp elt [⟨target,iter,ifs,0⟩] scope pos) 0 it acc env) R s:=by
 refine codeAny_loop rfl I (fun n s hI=>?_) n h
 show wpAny _ A ((compTurn (.ListComp elt [⟨target,iter,ifs,0⟩] scope pos) 0 it acc env).onRaise (fun x=>do noteFrame x env; theTreesLotGoes x)) _ _ s
 refine wpAny_noted ?_
 rw [compTurn_list]
 refine wpAny_bind (wpAny_standAt (wpAny_bind (wpAny_mono (turn n s hI) (fun r s₁ h₁=>?_) fun _ _ z=>z.elim)))
 cases r with
 | none=>exact wpAny_pure h₁
 | some v=>
  refine wpAny_bind (wpAny_mono h₁ (fun _ s₀ h₀=>?_) fun _ _ z=>z.elim)
  refine wpAny_bind (wpAny_mono h₀ (fun _ s₂ h₂=>wpAny_bind (wpAny_mono h₂ (fun ok s₃ h₃=>?_) fun _ _ z=>z.elim)) fun _ _ z=>z.elim)
  cases ok with
  | false=>exact wpAny_pure ⟨rfl,h₃⟩
  | true=>
   exact wpAny_bind (wpAny_bind (wpAny_mono h₃ (fun x s₄ h₄=>wpAny_bind (wpAny_mono h₄ (fun _ s₅ h₅=>wpAny_pure (wpAny_pure ⟨rfl,h₅⟩)) fun _ _ z=>z.elim)) fun _ _ z=>z.elim))
end
def LCr (J:It) (caps:List (Option Nat)) (g:TG) (tt:TT) (te:TE) (σ : St) (H1:Hp) (Q:VK) (D:Addr):Prop:=
 ∃ W:Nat->Nat->List V->Hp->Prop,(∃ m,W 0 m [] (upd H1 D (.lst [])))/\∀ i m ys H,W i m ys H->
  (J.stop i H/\Q (.ref D) H)\/
  (J.go i H/\∀ x H',J.yld i H x H'->g x (capS caps σ) H' fun σ2 H2=>tt σ2 H2 fun ok H3=>
   (ok = true->te σ2 H3 fun v H4=>H4 D = some (.lst ys)/\ys.length < sizeLine/\∃ m',m' < m/\W (i + 1) m' (ys ++ [v]) (upd H4 D (.lst (ys ++ [v]))))/\
   (ok = false->∃ m',m' < m/\W (i + 1) m' ys H3))
def tLC (wi:TI) (caps:List (Option Nat)) (g:TG) (tt:TT) (te:TE):TE:=fun σ H Q=>wi σ H fun J H1=>∀ D,H1 D = none->LCr J caps g tt te σ H1 Q D
section
variable {X:Cx} {pins:List (Addr × Obj)} {σ : St} {s:Shared} {sc:Scope} {fr Nc:List Str} {caps:List (Option Nat)} {elt tg iter:Expr} {ifs:List Expr} {g:TG} {tt:TT} {te:TE} {ow:List Nat} {pos pos2:Pos} {E:Value->Shared->Prop}
theorem comp_run {H2:Hp} {it:Addr} {fp:List Addr} {tn:Nat->Heap->Prop} {J:It} {Q:VK} {RR:Value->Addr->Result->Shared->Prop}
  (hc:X.calm = true) (B:BlockOk X.env sc fr) (go:GOwn g ow) (how:(ow.all fun i=>caps[i]? == some none) = true) (hcap:capChk X.N Nc caps X.env sc fr = true) (hlen:caps.length = Nc.length)
  (hb:∀ (pins:List (Addr × Obj)) (fp:List Addr) (s:Shared) (H:Hp) (C:Addr),PG (compCx X pins sc fr Nc fp s H C) tg g/\PIf (compCx X pins sc fr Nc fp s H C) ifs tt/\PE (compCx X pins sc fr Nc fp s H C) elt te)
  (I2:Inv X pins σ H2 s) (T:Turn X.prog X.w X.K tg J fp it tn) (st2:tn 0 s.heap) (f2:∀ b ∈ fp,FpOk X pins H2 b) (h:∀ D,H2 D = none->LCr J caps g tt te σ H2 Q D)
  (fin:∀ (D C:Addr) (σ':St) (H':Hp) (s':Shared),Inv (compCx X pins sc fr Nc fp s H2 C) [] σ' H' s'->Q (.ref D) H'->RR (.ref D) C (.ok .next) s') :
  wpAny (model X.prog X.w) X.A (newList []) (fun acc s₃=>wpAny (model X.prog X.w) X.A (newFunctionEnv sc X.env.globals (clB X.env fr) [] X.env.qual none .none (some X.env)) (fun cenv s₄=>
   codeAny (model X.prog X.w) X.A (.compStart (.ListComp elt [⟨tg,iter,ifs,0⟩] sc pos) 0 (.ref it) acc { cenv with scope:=relabel sc X.env }) (RR acc cenv.locals) s₄) E s₃) E s:=by
 have hcell:∀ y ∈ sc.names,y.2 ≠ .cell:=fun y hy=>by
  have h3:=List.all_eq_true.mp B.names _ hy
  simp only [Bool.and_eq_true,bne_iff_ne,ne_eq] at h3
  exact h3.1.1
 refine wpAny_newObj_type (wpAny_newFunctionEnv hcell (by intro y hy; simp at hy) (fun h₁ hns₁ hsb₁=>?_) B.kind)
 dsimp only at hns₁ hsb₁ |-
 generalize hH2:s.heap.push { cls:=.type "list",dict:=none,data:=.seq ([]:List Value).toArray } = H3 at hns₁ hsb₁ |-
 have hCs:H3.objs.size = s.heap.objs.size + 1:=by rw [<- hH2,Heap.size_push]
 have hDC:s.heap.objs.size ≠ H3.objs.size:=by rw [hCs]; exact Nat.ne_of_lt (Nat.lt_succ_self _)
 have hC:s.heap.objs.size<=H3.objs.size:=by rw [hCs]; exact Nat.le_succ _
 have old:∀ b o,s.heap.get? b = some o->h₁.get? b = some o:=fun b o e=>
  hsb₁.extBut b o (Nat.ne_of_lt (Nat.lt_of_lt_of_le (Heap.lt_size e) hC)) (Heap.get?_push_of_some _ (hH2 ▸ Heap.get?_push_of_some _ e))
 have hD:h₁.get? s.heap.objs.size = some { cls:=.type "list",data:=.seq ([]:List Value).toArray }:=hsb₁.extBut _ _ hDC (Heap.get?_push_of_some _ (hH2 ▸ Heap.get?_push_size _ rfl))
 have ho:∀ b ∈ fp,∃ o,s.heap.get? b = some o:=fun b hb'=>let ⟨o,e,_⟩:=T.obj 0 _ st2 b hb'; ⟨o,e⟩
 have I4:∀ t',Inv (compCx X pins sc fr Nc fp s H2 H3.objs.size) [] (capS caps σ) (upd H2 s.heap.objs.size (.lst [])) { s with heap:=h₁,toks:=t' }:=fun t'=>
  comp_start I2 B f2 ho hC (Nat.le_refl _) hDC old hD hns₁ hcap hlen
 have ok:=(I4 0).ok
 obtain ⟨hbg,hbt,hbe⟩:=hb pins fp s H2 H3.objs.size
 obtain ⟨W,⟨m0,w0⟩,turn⟩:=h s.heap.objs.size (I2.hok.fresh (Nat.le_refl _))
 have stat:∀ {H':Hp},(∀ b ∈ fp,H' b = none)->∀ b ∈ fp,FpOk (compCx X pins sc fr Nc fp s H2 H3.objs.size) [] H' b:=fun hn b hb'=>
  ⟨hn b hb',(ok.exf b hb').1,ok.exfs b hb',.inl hb',(ok.exf b hb').2,fun p hp=>(f2 b hb').2.2.2.2.2 p (by simpa using hp)⟩
 have hfp0:∀ b ∈ fp,upd H2 s.heap.objs.size (.lst []) b = none:=fun b hb'=>by
  obtain ⟨o,e⟩:=ho b hb'
  rw [upd_ne (Nat.ne_of_lt (Heap.lt_size e))]
  exact (f2 b hb').1
 have loop:∀ s₃:Shared,s₃ = { s with heap:=h₁,toks:=s.toks + ([]:List (Str × Value)).length }->
   codeAny (model X.prog X.w) X.A (.compLoop (.ListComp elt [⟨tg,iter,ifs,0⟩] sc pos) 0 (.ref it) (.ref s.heap.objs.size) (compEnvC sc (clB X.env fr) H3.objs.size X.env)) (RR (.ref s.heap.objs.size) H3.objs.size) s₃:=by
  rintro s₃ rfl
  refine compLoop_any (fun n s'=>∃ i σ' H' ys,Inv (compCx X pins sc fr Nc fp s H2 H3.objs.size) [] σ' H' s'/\tn i s'.heap/\(∀ b ∈ fp,H' b = none)/\W i n ys H'/\
   (∀ (k:Nat) (v:V),(capS caps σ)[k]? = some (some v)->σ'[k]? = some (some v))) ?_ m0
   ⟨0,_,_,[],I4 _,T.keep _ _ _ st2 (fun b _ o e=>old b o e),hfp0,w0,fun _ _ e=>e⟩
  rintro n s3 ⟨i,σ3,H4,ys,I3,st3,fr3,w3,wk3⟩
  have I3':Inv (compCx X pins sc fr Nc fp s H2 H3.objs.size) [] (capS caps σ) H4 s3:=I3.weak (by rw [I3.len]; exact (I4 0).len) wk3
  rcases turn i n ys H4 w3 with ⟨stop,qn⟩ | ⟨gg,step⟩
  ·refine thn (T.done (compCx X pins sc fr Nc fp s H2 H3.objs.size) rfl rfl rfl hc i [] s3 _ H4 (fun _ _=>False) I3' (stat fr3) st3 stop) fun r s4 ⟨hr,I4'⟩=>?_
   subst hr
   exact fin _ _ _ _ _ I4' qn
  ·refine thn (T.item (compCx X pins sc fr Nc fp s H2 H3.objs.size) rfl rfl rfl hc i [] s3 _ H4 (fun _ _=>False) I3' (stat fr3) st3 gg) fun r s4 ⟨u,hr,h4⟩=>?_
   subst hr
   refine thn h4 fun _ s5 ⟨x,H5,I5,r5,y5,st5,fr5⟩=>?_
   have I5':=I5.pinned (stat fr5) (T.obj _ _ st5)
   refine thn (hbg _ s5 _ H5 x u _ I5' r5 (go _ _ _ _ (step x H5 y5))) fun _ s6 ⟨σ6,H6,I6,q6,l6,k6⟩=>?_
   have wk6:∀ (k:Nat) (v:V),(capS caps σ)[k]? = some (some v)->σ6[k]? = some (some v):=fun k v e=>by
    rw [k6 k fun hk=>?_]
    ·exact e
    ·have h1:=List.all_eq_true.mp how k hk
     have h2:caps[k]? = some none:=by simpa using h1
     unfold capS at e
     rw [List.getElem?_map,h2] at e
     cases e
   refine thn (hbt _ s6 σ6 H6 _ I6 q6) fun ok s7 ⟨H7,I7,q7⟩=>?_
   have again:∀ {H8:Hp} {s8:Shared} {ys':List V},Inv (compCx X pins sc fr Nc fp s H2 H3.objs.size) ([] ++ pinsAt fp s5.heap) σ6 H8 s8->(∃ m',m' < n/\W (i + 1) m' ys' H8)->
     ∃ m,m < n/\∃ i σ' H' ys,Inv (compCx X pins sc fr Nc fp s H2 H3.objs.size) [] σ' H' s8/\tn i s8.heap/\(∀ b ∈ fp,H' b = none)/\W i m ys H'/\(∀ (k:Nat) (v:V),(capS caps σ)[k]? = some (some v)->σ'[k]? = some (some v)):=fun {H8 s8 ys'} I8 ⟨m',hm,w8⟩=>by
    refine ⟨m',hm,i + 1,σ6,H8,ys',I8.unpinned,T.keep _ _ _ st5 fun b hb' o e=>(I8.pin (b,o) (List.mem_append_right _ (List.mem_append_right _ (mem_pinsAt hb' e)))).1,fun b hb'=>?_,w8,wk6⟩
    obtain ⟨o,e,d⟩:=T.obj _ _ st5 b hb'
    exact (I8.pin (b,o) (List.mem_append_right _ (List.mem_append_right _ (mem_pinsAt hb' e)))).2.1
   cases ok with
   | false=>
    rw [if_neg Bool.false_ne_true]
    exact again I7 (q7.2 rfl)
   | true=>
    rw [if_pos rfl]
    refine thn (hbe _ s7 σ6 H7 _ I7 (q7.1 rfl)) fun uv s8 ⟨v,H8,I8,r8,hD8,hz,q8⟩=>?_
    refine thn (mt_append (X:=compCx X pins sc fr Nc fp s H2 H3.objs.size) _ s8 σ6 H8 (.ref s.heap.objs.size) [v] _ [uv] (fun _ H'=>H' = upd H8 s.heap.objs.size (.lst (ys ++ [v]))) I8 rfl (.cons r8 .nil) ⟨_,ys,v,rfl,rfl,hD8,hz,rfl⟩) fun _ s9 ⟨_,H9,I9,_,e9⟩=>?_
    subst e9
    exact again I9 q8
 exact codeAny_compStart_list (loop _ rfl) (T.self _ 0 _ _ _ (T.keep _ _ _ st2 (fun b _ o e=>old b o e)) (loop _ rfl))
theorem BlockOk.loc {env:Env} (B:BlockOk env sc fr):∀ x ∈ sc.names,x.2 = .local->sc.names.lookup x.1 = some .local:=fun y hy e=>by
 have h3:=List.all_eq_true.mp B.names _ hy
 simp only [Bool.and_eq_true,Bool.or_eq_true,bne_iff_ne,ne_eq,beq_iff_eq] at h3
 rcases h3.2 with z | z
 ·exact absurd e z
 ·exact z
theorem pe_lc {wi:TI} (fr Nc:List Str) (caps:List (Option Nat)) (hc:X.calm = true) (B:BlockOk X.env sc fr) (hi:PI X tg iter wi) (go:GOwn g ow) (how:(ow.all fun i=>caps[i]? == some none) = true)
  (hcap:capChk X.N Nc caps X.env sc fr = true) (hlen:caps.length = Nc.length)
  (hb:∀ (pins:List (Addr × Obj)) (fp:List Addr) (s:Shared) (H:Hp) (C:Addr),PG (compCx X pins sc fr Nc fp s H C) tg g/\PIf (compCx X pins sc fr Nc fp s H C) ifs tt/\PE (compCx X pins sc fr Nc fp s H C) elt te)
  (hs:∀ x,foldedSetIterable iter X.env x = pure x:=by intro _; rfl):PE X (.ListComp elt [⟨tg,iter,ifs,0⟩] sc pos) (tLC wi caps g tt te):=by
 refine ⟨?_⟩
 intro pins s σ H Q I h
 rw [eval_ListComp]
 refine wpAny_comprehension_free (use:=none) rfl hs B.clos B.kind B.loc (thn (hi pins s σ H _ I h) fun v s1 h1=>thn h1 fun itv s2 h2=>?_)
 obtain ⟨it,fp,tn,J,H2,e,I2,T,st2,f2,q⟩:=h2
 subst e
 refine comp_run (RR:=fun acc C=>compPost (model X.prog X.w) X.A X.xe none (EP X pins σ Q) acc C) hc B go how hcap hlen hb I2 T st2 f2 q ?_
 intro D C σ' H' s' J' qq
 obtain ⟨m,hn,_⟩:=J'.loc
 exact ⟨m,hn,fun h' hs'=>⟨.ref D,H',comp_gone I2 J' (comp_back I2 f2 J') hs',rfl,qq⟩⟩
theorem ps_lc {wi:TI} {i:Nat} {x:Str} {pos':Pos} (fr Nc:List Str) (caps:List (Option Nat)) (hN:X.N.Nodup) (hix:X.N[i]? = some x) (hx:Loc X.env.scope x) (hc:X.calm = true) (B:BlockOk X.env sc fr) (hi:PI X tg iter wi) (go:GOwn g ow) (how:(ow.all fun i=>caps[i]? == some none) = true)
  (hcap:capChk X.N Nc caps X.env sc fr = true) (hlen:caps.length = Nc.length)
  (hb:∀ (pins:List (Addr × Obj)) (fp:List Addr) (s:Shared) (H:Hp) (C:Addr),PG (compCx X pins sc fr Nc fp s H C) tg g/\PIf (compCx X pins sc fr Nc fp s H C) ifs tt/\PE (compCx X pins sc fr Nc fp s H C) elt te)
  (hsw:swapsWith (.ListComp elt [⟨tg,iter,ifs,0⟩] sc pos) (some (.Name x pos')) pos2.line X.env = pure true:=by rfl)
  (hs:∀ x,foldedSetIterable iter X.env x = pure x:=by intro _; rfl) (hf:X.fn x = true\/X.env.scope.names.lookup x = some .local:=by first | exact .inl rfl | exact .inr rfl | assumption) :
  PS X (.Assign [.Name x pos'] (.ListComp elt [⟨tg,iter,ifs,0⟩] sc pos) pos2) (tAsg (tLC wi caps g tt te) (gName i)):=by
 refine ⟨?_⟩
 intro pins s σ H D0 I h
 rw [exec_Assign_Name_used _ _ _ _ hsw]
 refine wpAny_bind (wpAny_standAt (wpAny_bind ?_))
 show wpAny _ X.A (do let _ <- comprehension (.ListComp elt [⟨tg,iter,ifs,0⟩] sc pos) sc X.env _ (newList []) false (eval iter X.env) (some (assign (.Name x pos') X.env))) _ _ s
 refine wpAny_bind (wpAny_mono (wpAny_comprehension_free (use:=some (assign (.Name x pos') X.env)) (Q:=fun _ s'=>SP X pins D0 .next s') rfl hs B.clos B.kind B.loc
  (thn (hi pins s σ H _ I h) fun v s1 h1=>thn h1 fun itv s2 h2=>?_)) (fun _ s' hq=>wpAny_pure (wpAny_pure hq)) fun _ _ e=>e)
 obtain ⟨it,fp,tn,J,H2,e,I2,T,st2,f2,q⟩:=h2
 subst e
 refine comp_run (Q:=fun v H1=>gName i v σ H1 D0.nx) (RR:=fun acc C=>compPost (model X.prog X.w) X.A X.xe (some (assign (.Name x pos') X.env)) (fun _ s'=>SP X pins D0 .next s') acc C) hc B go how hcap hlen hb I2 T st2 f2 q ?_
 intro D C σ' H' s' J' qq
 have I':=comp_back I2 f2 J'
 obtain ⟨m,hn,_⟩:=J'.loc
 have hC:s2.heap.objs.size<=C:=J'.ok.above
 show wpAny _ X.A (assign (.Name x pos') X.env (.ref D)) _ _ s'
 refine wpAny_assign_Name (store_ok2 (v:=.ref D) I' hN hix hx rfl (fun s'' I'' ⟨a,sb,ha⟩=>?_) hf)
 have haC:C ≠ a:=by
  rintro rfl
  rcases ha with z | z
  ·have:=I2.lt
   rw [<- z] at this
   exact absurd (Nat.lt_of_lt_of_le this hC) (Nat.lt_irrefl _)
  ·obtain ⟨v,hv⟩:=I2.cell x C z
   exact absurd (Nat.lt_of_lt_of_le hv.lt hC) (Nat.lt_irrefl _)
 have hCH:H' C = none:=J'.free
 refine ⟨m,hn.sameBut sb haC,fun h' hs'=>⟨_,H',?_,qq⟩⟩
 refine I''.turned (it:=C) (t':=s''.toks) (fun b o hb e=>(hs'.2 b hb).trans e) hCH ?_ (.inr (Nat.le_trans I2.sz hC)) (fun x c h z=>?_) fun p hp z=>?_
 ·intro z
  have:=I2.lt
  rw [<- z] at this
  exact absurd (Nat.lt_of_lt_of_le this hC) (Nat.lt_irrefl _)
 ·obtain ⟨v,hv⟩:=I2.cell x c h
  have:=hv.lt
  rw [z] at this
  exact absurd (Nat.lt_of_lt_of_le this hC) (Nat.lt_irrefl _)
 ·have:=I2.pin_lt hp
  rw [z] at this
  exact absurd (Nat.lt_of_lt_of_le this hC) (Nat.lt_irrefl _)
end
def Its (z:Str):It:=⟨fun i _=>i < z.cps.size,fun i H x H'=>H' = H/\∃ c,z.cps[i]? = some c/\x = .str ⟨#[c]⟩,fun i _=>z.cps.size<=i⟩
theorem turn_str {P:Program} {w:World} {K:PySem.W.Frag} {tg:Expr} (it:Addr) (z:Str) (t:Tok):Turn P w K tg (Its z) [it] it (fun i h=>h.IsStrIter it (strIterType z) z t i) where
 mem:=by simp
 obj:=fun i h st b hb=>by
  have e:b = it:=by simpa using hb
  subst e
  obtain ⟨o,e,_,d⟩:=st
  exact ⟨o,e,fun v q=>by rw [d] at q; cases q⟩
 keep:=fun i h h' st k=>by
  obtain ⟨o,e,r⟩:=st
  exact ⟨o,k it (by simp) o e,r⟩
 item:=by
  intro X hP hw hK hc i pins s σ H E I hf st hg
  subst hP hw hK
  obtain ⟨f0,f1,f2,f3,f4,f5⟩:=hf it (by simp)
  have hi:i < z.cps.size:=hg
  have hx:z.cps[i]? = some z.cps[i]:=by simp [hi]
  have fin:∀ h',h'.IsStrIter it (strIterType z) z t (i + 1)->Heap.SameBut it s.heap h'->
    ∃ u,some (Value.str ⟨#[z.cps[i]]⟩ s.toks) = some u/\wpAny (model X.prog X.w) X.A (letOwnedTupleGo tg (.ref it) u) (fun _ s2=>∃ x H',Inv X pins σ H' s2/\RelV x u/\(Its z).yld i H x H'/\s2.heap.IsStrIter it (strIterType z) z t (i + 1)/\∀ b ∈ [it],H' b = none) E { s with heap:=h',toks:=s.toks + 1 }:=fun h' hit hs=>by
   have I1:Inv X pins σ H { s with heap:=h',toks:=s.toks + 1 }:=I.turned (fun b o hb e=>(hs.2 b hb).trans e) f0 f1 f3 f4 f5
   obtain ⟨o,e1,e2,e3⟩:=id hit
   refine ⟨_,rfl,go_of (s:={ s with heap:=h',toks:=s.toks + 1 }) e1 e2 e3 ?_ ⟨.str ⟨#[z.cps[i]]⟩,H,I1,⟨_,rfl⟩,⟨rfl,_,hx,rfl⟩,hit,fun b hb=>(hf b hb).1⟩⟩
   unfold strIterType
   split <;> decide
  cases ha:z.cps.all (· < 128)
  ·have e:strIterType z = "str_iterator":=by simp [strIterType,ha]
   rw [e] at st
   exact wpAny_pyNext_wide_item st hx fun h' a b=>fin h' (e.symm ▸ a) b
  ·have e:strIterType z = "str_ascii_iterator":=by simp [strIterType,ha]
   rw [e] at st
   exact wpAny_pyNext_ascii_item st hx fun h' a b=>fin h' (e.symm ▸ a) b
 done:=by
  intro X hP hw hK hc i pins s σ H E I hf st hg
  subst hP hw hK
  obtain ⟨f0,f1,f2,f3,f4,f5⟩:=hf it (by simp)
  have hi:z.cps.size<=i:=hg
  have hx:z.cps[i]? = none:=by simp [hi]
  have fin:∀ h',Heap.ExtBut it s.heap h'->(none:Option Value) = none/\Inv X pins σ H { s with heap:=h' }:=fun h' eb=>⟨rfl,I.turned (t':=s.toks) (fun b o hb e=>eb b o hb e) f0 f1 f3 f4 f5⟩
  cases ha:z.cps.all (· < 128)
  ·have e:strIterType z = "str_iterator":=by simp [strIterType,ha]
   rw [e] at st
   exact wpAny_pyNext_wide_end (I.ok.hd hc) st hx fin
  ·have e:strIterType z = "str_ascii_iterator":=by simp [strIterType,ha]
   rw [e] at st
   exact wpAny_pyNext_ascii_end (I.ok.hd hc) st hx fin
 self:=fun A i s Q E st h=>by
  cases ha:z.cps.all (· < 128)
  ·have e:strIterType z = "str_iterator":=by simp [strIterType,ha]
   rw [e] at st
   exact wpAny_pyIter_striter_wide st h
  ·have e:strIterType z = "str_ascii_iterator":=by simp [strIterType,ha]
   rw [e] at st
   exact wpAny_pyIter_striter_ascii st h
section
variable {X:Cx} {tg:Expr}
def iStr (tl:TE):TI:=fun σ H R=>tl σ H fun x H1=>∃ z,x = .str z/\R (Its z) H1
theorem pi_str {l:Expr} {tl:TE} (hl:PE X l tl):PI X tg l (iStr tl):=by
 refine ⟨?_⟩
 intro pins s σ H R I h
 refine thn (hl pins s σ H _ I h) fun v s1 ⟨x,H1,I1,r1,q1⟩=>?_
 obtain ⟨z,e,q⟩:=q1
 subst e
 obtain ⟨t,rfl⟩:=r1
 refine wpAny_pyIter_strU ?_
 refine ⟨s1.heap.objs.size,[s1.heap.objs.size],_,_,H1,rfl,I1.kept (t':=s1.toks) fun b o e=>Heap.get?_push_of_some _ e,turn_str _ z t,⟨_,Heap.get?_push_size _ rfl,rfl,rfl⟩,fun b hb=>?_,q⟩
 have e:b = s1.heap.objs.size:=by simpa using hb
 subst e
 exact I1.fpOk (Nat.le_refl _) (I1.hok.fresh (Nat.le_refl _))
def rSlS:V->Option Int->Option Int->Hp->VK->Prop:=fun x lo hi H Q=>∃ z,x = .str z/\z.length<=sizeLine/\Q (.str (Txt.slice z lo hi)) H
theorem sl_str:SlR X rSlS:=by
 intro pins s σ H x v vl vu lo hi sl Q I rx hs pl pu h
 obtain ⟨z,rfl,hz,q⟩:=h
 obtain ⟨t,rfl⟩:=rx
 refine ⟨"str",_,F.slot_str_getitem.lookup,typeIs_str _ _ _,?_⟩
 have fin:∀ t' k,EP X pins σ Q (.str (Txt.slice z lo hi) t') { s with toks:=k }:=fun t' k=>⟨.str (Txt.slice z lo hi),H,I.tok k,⟨t',rfl⟩,q⟩
 cases pl with
 | none=>
  cases pu with
  | none=>exact wpAny_getItem_str_slice (l:=none) (u:=none) (st:=none) hs rfl (post_val_or_str ⟨Nat.le_trans (Txt.slice_le z _ _) hz,fin⟩)
  | int j tj=>exact wpAny_getItem_str_slice (l:=none) (u:=some (j,tj)) (st:=none) hs rfl (post_val_or_str ⟨Nat.le_trans (Txt.slice_le z _ _) hz,fin⟩)
 | int i ti=>
  cases pu with
  | none=>exact wpAny_getItem_str_slice (l:=some (i,ti)) (u:=none) (st:=none) hs rfl (post_val_or_str ⟨Nat.le_trans (Txt.slice_le z _ _) hz,fin⟩)
  | int j tj=>exact wpAny_getItem_str_slice (l:=some (i,ti)) (u:=some (j,tj)) (st:=none) hs rfl (post_val_or_str ⟨Nat.le_trans (Txt.slice_le z _ _) hz,fin⟩)
theorem call_allB (hc:X.calm = true):CallR X (.builtin "all") (fun xs H Q=>∃ (p:Addr) (bs:List Bool),xs = [.ref p]/\SqL X.K H p (bs.map V.bl)/\Q (.bl (bs.all id)) H):=by
 intro pins s σ H xs us Q I r h
 obtain ⟨p,bs,rfl,hS,q⟩:=h
 obtain ⟨u,rfl,ru⟩:=vals1 r
 cases ru
 obtain ⟨its,rv,hp,hz⟩:=I.list hS
 have hlen:its.length = bs.length:=by rw [<- rv.length,List.length_map]
 have hne:p ≠ s.heap.objs.size:=Nat.ne_of_lt (by obtain ⟨_,e,_⟩:=hp.isList; exact Heap.lt_size e)
 refine call_all_walk (wpAny_pyIter_list hp.isList ?_)
 refine ⟨s.heap.objs.size,_,_,_,_,_,fun i=>bs.getD i false,rfl,Walks.list (A:=X.A.in1) (I.ok.hd hc) s.heap.objs.size p hne its.toArray,⟨⟨_,Heap.get?_push_size _ rfl,rfl,rfl⟩,hp.isList.push _⟩,?_,fun h' tk k=>?_⟩
 ·intro i v s' Q' E' hP hQ
  have hv:its[i]? = some v:=by simpa using hP
  have hi:i < bs.length:=by rw [<- hlen]; exact (List.getElem?_eq_some_iff.mp hv).1
  obtain ⟨u',e1,e2⟩:=rv.get (i:=i) (x:=V.bl bs[i]) (by rw [List.getElem?_map,List.getElem?_eq_getElem hi]; rfl)
  rw [hv] at e1
  cases e1
  cases e2
  refine wpAny_truthy_bool ?_
  have:bs.getD i false = bs[i]:=by rw [List.getD_eq_getElem?_getD,List.getElem?_eq_getElem hi]; rfl
  rw [<- this]
  exact hQ
 ·have e:((List.range its.toArray.size).all fun i=>bs.getD i false) = bs.all id:=by
   rw [List.size_toArray,hlen,Bool.eq_iff_iff,List.all_eq_true,List.all_eq_true]
   constructor
   ·intro hh b hb
    obtain ⟨i,hi,rfl⟩:=List.getElem_of_mem hb
    have:=hh i (List.mem_range.mpr hi)
    rw [List.getD_eq_getElem?_getD,List.getElem?_eq_getElem hi] at this
    exact this
   ·intro hh i hi
    have hi':=List.mem_range.mp hi
    rw [List.getD_eq_getElem?_getD,List.getElem?_eq_getElem hi']
    exact hh _ (List.getElem_mem hi')
  rw [e]
  exact ⟨.bl (bs.all id),H,I.kept (h':=h') (t':=tk) (fun b o q=>k b o (fun hm=>by
   have e:b = s.heap.objs.size:=by simpa using hm
   exact absurd (Heap.lt_size q) (by rw [e]; exact Nat.lt_irrefl _)) (Heap.get?_push_of_some _ q)),rfl,q⟩
theorem call_isinst:CallR X (.builtin "isinstance") (fun xs H Q=>∃ x T t b,xs = [x,.ty T]/\TyOf X.K H x t/\PySem.W.kitOne X.K t (.type T) = some b/\Q (.bl b) H):=by
 intro pins s σ H xs us Q I r h
 obtain ⟨x,T,t,b,rfl,ty,e,q⟩:=h
 obtain ⟨u,w',rfl,ru,rw'⟩:=vals2 r
 cases rw'
 exact isinst_ok I ru ty e fun tk=>⟨.bl b,H,I.tok tk,rfl,q⟩
end
def isSt:Expr->Bool
 | .Starred ..=>true
 | _=>false
theorem star_cons {e:Expr} {es:List Expr} {env:Env} (h:isSt e = false):starEach (e :: es) env = (false,eval e env) :: starEach es env:=by
 cases e <;> first | rfl | cases h
theorem star_any {env:Env} {pos:Pos}:∀ {es:List Expr},es.any isSt = false->(backTo pos (starEach es env)).any (·.1) = false
 | [],_=>rfl
 | e :: es,h=>by
  rw [List.any_cons,Bool.or_eq_false_iff] at h
  rw [star_cons h.1]
  show (false || (backTo pos (starEach es env)).any (·.1)) = false
  rw [star_any h.2]
  rfl
section
variable {X:Cx} {CX:CXT} {k:Nat} {f C:Addr} {fd:FuncData} {ps:List Str} {sp:Sp} {dvs:List V} {ds:List Value} {E:XK} {x m:Str} {p pos apos:Pos} {e o:Expr} {es:List Expr} {te ta:TE} {t:TA} {id T:String} {r:List V->Hp->VK->Prop}
theorem ac (ha:PE X e te) (hr:PA X es t) (h:isSt e = false:=by rfl):PA X (e :: es) (tCons te t):=pa_cons ha hr (star_cons h)
theorem cB (hc:CallR X (.builtin id) r) (hm:X.mg x = none) (hv:bootBuiltins x = some (.builtin id)) (ha:PA X (e :: es) t) (hg:Gl X x:=by rfl) (hn:x ≠ "__name__":=by decide) (hdb:(x == ("__debug__" : Str)) = false:=by decide)
  (h1:isSt e = false:=by rfl) (h2:es.any isSt = false:=by rfl):PE X (.Call (.Name x p) (e :: es) [] pos) (tCB r t):=pe_callB hc hg hm hv ha hn hdb (star_cons h1) (star_any h2)
theorem cTy (hc:CallR X (.type T) r) (hm:X.mg x = none) (hv:bootBuiltins x = some (.type T)) (ha:PA X (e :: es) t) (hg:Gl X x:=by rfl) (hn:x ≠ "__name__":=by decide) (hdb:(x == ("__debug__" : Str)) = false:=by decide)
  (h1:isSt e = false:=by rfl) (h2:es.any isSt = false:=by rfl):PE X (.Call (.Name x p) (e :: es) [] pos) (tCB r t):=pe_callTy hc hg hm hv ha hn hdb (star_cons h1) (star_any h2)
structure Callee (P:Program) (w:World) (K:PySem.W.Frag) (mg:Str->Option Value) (base:Heap) (k:Nat) (x:Str) (f:Addr) (fd:FuncData) (ps:List Str) (sp:Sp):Prop where
 ok:FnOk P w K mg base CX0 k f fd ps sp
 mg:mg x = some (.ref f)
 kp:PySem.W.keepIn K (.ref f) = true
 bd:Binds K fd ps []
theorem cF (c:Callee X.prog X.w X.K X.mg X.base k x f fd ps sp) (hr:Room k X.A) (ha:PA X (e :: es) t) (hg:Gl X x:=by rfl) (hdb:(x == ("__debug__" : Str)) = false:=by decide)
  (h1:isSt e = false:=by rfl) (h2:es.any isSt = false:=by rfl):PE X (.Call (.Name x p) (e :: es) [] pos) (tCall sp [] E0 t):=
 pe_call c.ok hr hg c.mg c.kp c.bd .nil pass0 ha hdb (star_cons h1) (star_any h2)
end
end L2
namespace L2
open PySem PyProof.Rows
theorem kt_NoneType_str (K:PySem.W.Frag):PySem.W.kitOne K (.type "NoneType") (.type "str") = some false:=by kernel_rfl
theorem kt_int_str (K:PySem.W.Frag):PySem.W.kitOne K (.type "int") (.type "str") = some false:=by kernel_rfl
theorem kt_bool_str (K:PySem.W.Frag):PySem.W.kitOne K (.type "bool") (.type "str") = some false:=by kernel_rfl
theorem kt_bool_bool (K:PySem.W.Frag):PySem.W.kitOne K (.type "bool") (.type "bool") = some true:=by kernel_rfl
theorem kt_str_str (K:PySem.W.Frag):PySem.W.kitOne K (.type "str") (.type "str") = some true:=by kernel_rfl
theorem kt_list_str (K:PySem.W.Frag):PySem.W.kitOne K (.type "list") (.type "str") = some false:=by kernel_rfl
theorem kt_list_list (K:PySem.W.Frag):PySem.W.kitOne K (.type "list") (.type "list") = some true:=by kernel_rfl
theorem kt_tuple_str (K:PySem.W.Frag):PySem.W.kitOne K (.type "tuple") (.type "str") = some false:=by kernel_rfl
theorem kt_tuple_tuple (K:PySem.W.Frag):PySem.W.kitOne K (.type "tuple") (.type "tuple") = some true:=by kernel_rfl
theorem kt_dict_str (K:PySem.W.Frag):PySem.W.kitOne K (.type "dict") (.type "str") = some false:=by kernel_rfl
end L2
namespace L2
open PySem PySem.Spec PyProof.Rows
inductive Dt where
 | non | bl (b:Bool) | int (i:Int) | str (z:Str) | tup (ds:List Dt) | lst (ds:List Dt)
def FlatD:V->Dt->Prop
 | .non,.non=>True
 | .bl a,.bl b=>a = b
 | .int a,.int b=>a = b
 | .str a,.str b=>a = b
 | _,_=>False
def Says (K:PySem.W.Frag) (ok:Addr->Prop) (H:Hp):Nat->V->Dt->Prop
 | 0,x,d=>FlatD x d
 | n + 1,x,d=>FlatD x d\/(∃ a xs ds,x = .ref a/\d = .tup ds/\SqT K H a xs/\Paired (Says K ok H n) xs ds)\/(∃ a xs ds,x = .ref a/\d = .lst ds/\ok a/\H a = some (.lst xs)/\Paired (Says K ok H n) xs ds)
section
variable {K:PySem.W.Frag} {ok ok':Addr->Prop} {H H':Hp}
theorem Says.flat {n:Nat} {x:V} {d:Dt} (h:FlatD x d):Says K ok H n x d:=by
 cases n with
 | zero=>exact h
 | succ n=>exact .inl h
theorem Says.int {n:Nat} {i:Int}:Says K ok H n (.int i) (.int i):=.flat rfl
theorem Says.str {n:Nat} {z:Str}:Says K ok H n (.str z) (.str z):=.flat rfl
theorem Says.bl {n:Nat} {b:Bool}:Says K ok H n (.bl b) (.bl b):=.flat rfl
theorem Says.non {n:Nat}:Says K ok H n .non .non:=.flat True.intro
theorem Says.tup {n:Nat} {a:Addr} {xs:List V} {ds:List Dt} (h:SqT K H a xs) (r:Paired (Says K ok H n) xs ds):Says K ok H (n + 1) (.ref a) (.tup ds):=.inr (.inl ⟨a,xs,ds,rfl,rfl,h,r⟩)
theorem Says.lst {n:Nat} {a:Addr} {xs:List V} {ds:List Dt} (o:ok a) (h:H a = some (.lst xs)) (r:Paired (Says K ok H n) xs ds):Says K ok H (n + 1) (.ref a) (.lst ds):=.inr (.inr ⟨a,xs,ds,rfl,rfl,o,h,r⟩)
theorem Says.frame (hT:∀ a xs,SqT K H a xs->SqT K H' a xs) (hL:∀ a xs,ok a->H a = some (.lst xs)->ok' a/\H' a = some (.lst xs)):∀ {n:Nat} {x:V} {d:Dt},Says K ok H n x d->Says K ok' H' n x d
 | 0,_,_,h=>h
 | n + 1,x,d,h=>by
  rcases h with h | ⟨a,xs,ds,e1,e2,h,r⟩ | ⟨a,xs,ds,e1,e2,o,h,r⟩
  ·exact .inl h
  ·exact .inr (.inl ⟨a,xs,ds,e1,e2,hT a xs h,Paired.imp' (fun _ _ z=>Says.frame hT hL z) r⟩)
  ·exact .inr (.inr ⟨a,xs,ds,e1,e2,(hL a xs o h).1,(hL a xs o h).2,Paired.imp' (fun _ _ z=>Says.frame hT hL z) r⟩)
theorem Same.sqT {a:Addr} {xs:List V} (e:Same H H') (h:SqT K H a xs):SqT K H' a xs:=by
 rcases h with (h | ⟨o,h⟩) | h
 ·exact .inl (.inl (e _ _ h))
 ·exact .inl (.inr ⟨o,e _ _ h⟩)
 ·exact .inr h
theorem Says.same {n:Nat} {x:V} {d:Dt} (e:Same H H') (h:Says K ok H n x d):Says K ok H' n x d:=h.frame (fun _ _ z=>e.sqT z) fun _ _ o z=>⟨o,e _ _ z⟩
theorem Paired.get {α β : Type} {F : α->β->Prop}:∀ {l₁:List α} {l₂:List β} {i:Nat} {a : α},Paired F l₁ l₂->l₁[i]? = some a->∃ b,l₂[i]? = some b/\F a b
 | _,_,_,_,.nil,e=>by simp at e
 | _,_,0,_,.cons r _,e=>by simp at e; subst e; exact ⟨_,rfl,r⟩
 | _,_,i + 1,a,.cons _ t,e=>by
  obtain ⟨b,h1,h2⟩:=Paired.get (i:=i) (a:=a) t (by simpa using e)
  exact ⟨b,by simpa using h1,h2⟩
end
section
variable {X:Cx} {pins:List (Addr × Obj)} {σ : St} {H:Hp} {s:Shared} {ok ok':Addr->Prop}
theorem flat_same {A:Around} {x y:V} {d:Dt} {u v:Value} (hx:FlatD x d) (hy:FlatD y d) (ru:RelV x u) (rv:RelV y v):SeqAt.EqAt A s u v true:=by
 cases d with
 | non=>
  cases x <;> try exact hx.elim
  cases y <;> try exact hy.elim
  cases ru; cases rv; exact SeqAt.EqAt.same _
 | bl b=>
  cases x <;> try exact hx.elim
  cases y <;> try exact hy.elim
  rename_i a c
  obtain rfl:a = b:=hx
  obtain rfl:c = a:=hy
  cases ru; cases rv; exact SeqAt.EqAt.same _
 | int b=>
  cases x <;> try exact hx.elim
  cases y <;> try exact hy.elim
  rename_i a c
  obtain rfl:a = b:=hx
  obtain rfl:c = a:=hy
  obtain ⟨t,rfl⟩:=ru
  obtain ⟨t',rfl⟩:=rv
  have:=SeqAt.EqAt.int_int (A:=A) (s:=s) c t c t'
  simpa using this
 | str b=>
  cases x <;> try exact hx.elim
  cases y <;> try exact hy.elim
  rename_i a c
  obtain rfl:a = b:=hx
  obtain rfl:c = a:=hy
  obtain ⟨t,rfl⟩:=ru
  obtain ⟨t',rfl⟩:=rv
  have:=SeqAt.EqAt.str_str (A:=A) (s:=s) c t c t'
  simpa using this
 | tup ds=>cases x <;> exact hx.elim
 | lst ds=>cases x <;> exact hx.elim
theorem flat_ref {a:Addr} {d:Dt} (h:FlatD (.ref a) d):False:=by cases d <;> exact h
theorem all_true (n:Nat):((List.range n).all fun _=>true) = true:=by rw [List.all_eq_true]; intro _ _; rfl
theorem eqAt_same (I:Inv X pins σ H s):∀ (n:Nat) {A:Around} {x y:V} {d:Dt} {u v:Value},Says X.K ok H n x d->Says X.K ok' H n y d->RelV x u->RelV y v->A.units + n < cLine->SeqAt.EqAt A s u v true
 | 0,A,x,y,d,u,v,hx,hy,ru,rv,_=>flat_same hx hy ru rv
 | n + 1,A,x,y,d,u,v,hx,hy,ru,rv,hu=>by
  have hin:A.in1.units + n < cLine:=by show A.units + 1 + n < cLine; omega
  rcases hx with hx | ⟨a,xs,ds,rfl,rfl,hx,r⟩ | ⟨a,xs,ds,rfl,rfl,_,hx,r⟩
  ·rcases hy with hy | ⟨b,ys,es,rfl,rfl,hy,q⟩ | ⟨b,ys,es,rfl,rfl,_,hy,q⟩
   ·exact flat_same hx hy ru rv
   ·cases x <;> exact hx.elim
   ·cases x <;> exact hx.elim
  ·rcases hy with hy | ⟨b,ys,es,rfl,e2,hy,q⟩ | ⟨b,ys,es,rfl,e2,_,hy,q⟩
   ·cases y <;> exact hy.elim
   ·cases e2
    cases ru; cases rv
    by_cases hab:a = b
    ·subst hab; exact SeqAt.EqAt.same _
    ·obtain ⟨ia,va,pa,_⟩:=I.tuple hx
     obtain ⟨ib,vb,pb,_⟩:=I.tuple hy
     have la:ia.length = ds.length:=by rw [<- va.length,r.length]
     have lb:ib.length = ds.length:=by rw [<- vb.length,q.length]
     have:=SeqAt.RcAt.tuples (A:=A) (s:=s) (e:=fun _=>true) (show s.heap.IsTuple a ia.toArray from pa) (show s.heap.IsTuple b ib.toArray from pb) (by omega) (fun j h1 h2=>by
      have j1:j < ia.length:=by simpa using h1
      have j2:j < ib.length:=by simpa using h2
      have hxl:j < xs.length:=by rw [va.length]; exact j1
      have hyl:j < ys.length:=by rw [vb.length]; exact j2
      obtain ⟨u',e1,e2⟩:=va.get (i:=j) (List.getElem?_eq_getElem hxl)
      obtain ⟨v',e3,e4⟩:=vb.get (i:=j) (List.getElem?_eq_getElem hyl)
      obtain ⟨d1,f1,f2⟩:=Paired.get r (List.getElem?_eq_getElem hxl)
      obtain ⟨d2,f3,f4⟩:=Paired.get q (List.getElem?_eq_getElem hyl)
      rw [f1] at f3
      cases f3
      rw [List.getElem?_eq_getElem j1] at e1
      rw [List.getElem?_eq_getElem j2] at e3
      cases e1; cases e3
      simpa using eqAt_same I n f2 f4 e2 e4 hin)
     rw [all_true] at this
     have z:(ia.toArray.size == ib.toArray.size) = true:=by simp [la,lb]
     rw [z] at this
     exact SeqAt.EqAt.of_refs hab this
   ·cases e2
  ·rcases hy with hy | ⟨b,ys,es,rfl,e2,hy,q⟩ | ⟨b,ys,es,rfl,e2,_,hy,q⟩
   ·cases y <;> exact hy.elim
   ·cases e2
   ·cases e2
    cases ru; cases rv
    by_cases hab:a = b
    ·subst hab; exact SeqAt.EqAt.same _
    ·obtain ⟨ia,va,pa,_⟩:=I.list (SqL.of hx)
     obtain ⟨ib,vb,pb,_⟩:=I.list (SqL.of hy)
     have la:ia.length = ds.length:=by rw [<- va.length,r.length]
     have lb:ib.length = ds.length:=by rw [<- vb.length,q.length]
     have:=SeqAt.RcAt.lists (A:=A) (s:=s) (e:=fun _=>true) pa.isList pb.isList (by simp [la,lb]) (by omega) (fun j h1 h2=>by
      have j1:j < ia.length:=by simpa using h1
      have j2:j < ib.length:=by simpa using h2
      have hxl:j < xs.length:=by rw [va.length]; exact j1
      have hyl:j < ys.length:=by rw [vb.length]; exact j2
      obtain ⟨u',e1,e2⟩:=va.get (i:=j) (List.getElem?_eq_getElem hxl)
      obtain ⟨v',e3,e4⟩:=vb.get (i:=j) (List.getElem?_eq_getElem hyl)
      obtain ⟨d1,f1,f2⟩:=Paired.get r (List.getElem?_eq_getElem hxl)
      obtain ⟨d2,f3,f4⟩:=Paired.get q (List.getElem?_eq_getElem hyl)
      rw [f1] at f3
      cases f3
      rw [List.getElem?_eq_getElem j1] at e1
      rw [List.getElem?_eq_getElem j2] at e3
      cases e1; cases e3
      simpa using eqAt_same I n f2 f4 e2 e4 hin)
     rw [all_true] at this
     exact SeqAt.EqAt.of_refs hab this
theorem rc_same (I:Inv X pins σ H s) {n:Nat} {A:Around} {a b:Addr} {d:Dt} (hx:Says X.K ok H (n + 1) (.ref a) d) (hy:Says X.K ok' H (n + 1) (.ref b) d) (hu:A.units + n + 1 < cLine) :
  SeqAt.RcAt A s (.ref a) (.ref b) true/\SeqAt.RcNeAt A s (.ref a) (.ref b) false:=by
 have hin:A.in1.units + n < cLine:=by show A.units + 1 + n < cLine; omega
 rcases hx with hx | ⟨a,xs,ds,e0,rfl,hx,r⟩ | ⟨a,xs,ds,e0,rfl,_,hx,r⟩
 ·exact (flat_ref hx).elim
 ·cases e0
  rcases hy with hy | ⟨b,ys,es,e1,e2,hy,q⟩ | ⟨b,ys,es,e1,e2,_,hy,q⟩
  ·exact (flat_ref hy).elim
  ·cases e1; cases e2
   obtain ⟨ia,va,pa,_⟩:=I.tuple hx
   obtain ⟨ib,vb,pb,_⟩:=I.tuple hy
   have la:ia.length = ds.length:=by rw [<- va.length,r.length]
   have lb:ib.length = ds.length:=by rw [<- vb.length,q.length]
   have el:∀ j (h1:j < ia.toArray.size) (h2:j < ib.toArray.size),SeqAt.EqAt A.in1 s ia.toArray[j] ib.toArray[j] true:=fun j h1 h2=>by
    have j1:j < ia.length:=by simpa using h1
    have j2:j < ib.length:=by simpa using h2
    have hxl:j < xs.length:=by rw [va.length]; exact j1
    have hyl:j < ys.length:=by rw [vb.length]; exact j2
    obtain ⟨u',e1,e2⟩:=va.get (i:=j) (List.getElem?_eq_getElem hxl)
    obtain ⟨v',e3,e4⟩:=vb.get (i:=j) (List.getElem?_eq_getElem hyl)
    obtain ⟨d1,f1,f2⟩:=Paired.get r (List.getElem?_eq_getElem hxl)
    obtain ⟨d2,f3,f4⟩:=Paired.get q (List.getElem?_eq_getElem hyl)
    rw [f1] at f3
    cases f3
    rw [List.getElem?_eq_getElem j1] at e1
    rw [List.getElem?_eq_getElem j2] at e3
    cases e1; cases e3
    simpa using eqAt_same I n f2 f4 e2 e4 hin
   have z:(ia.toArray.size == ib.toArray.size) = true:=by simp [la,lb]
   have t1:=SeqAt.RcAt.tuples (A:=A) (s:=s) (e:=fun _=>true) (show s.heap.IsTuple a ia.toArray from pa) (show s.heap.IsTuple b ib.toArray from pb) (by omega) el
   have t2:=SeqAt.RcNeAt.tuples (A:=A) (s:=s) (e:=fun _=>true) (show s.heap.IsTuple a ia.toArray from pa) (show s.heap.IsTuple b ib.toArray from pb) (by omega) el
   rw [all_true,z] at t1 t2
   exact ⟨t1,t2⟩
  ·cases e1; cases e2
 ·cases e0
  rcases hy with hy | ⟨b,ys,es,e1,e2,hy,q⟩ | ⟨b,ys,es,e1,e2,_,hy,q⟩
  ·exact (flat_ref hy).elim
  ·cases e1; cases e2
  ·cases e1; cases e2
   obtain ⟨ia,va,pa,_⟩:=I.list (SqL.of hx)
   obtain ⟨ib,vb,pb,_⟩:=I.list (SqL.of hy)
   have la:ia.length = ds.length:=by rw [<- va.length,r.length]
   have lb:ib.length = ds.length:=by rw [<- vb.length,q.length]
   have el:∀ j (h1:j < ia.toArray.size) (h2:j < ib.toArray.size),SeqAt.EqAt A.in1 s ia.toArray[j] ib.toArray[j] true:=fun j h1 h2=>by
    have j1:j < ia.length:=by simpa using h1
    have j2:j < ib.length:=by simpa using h2
    have hxl:j < xs.length:=by rw [va.length]; exact j1
    have hyl:j < ys.length:=by rw [vb.length]; exact j2
    obtain ⟨u',e1,e2⟩:=va.get (i:=j) (List.getElem?_eq_getElem hxl)
    obtain ⟨v',e3,e4⟩:=vb.get (i:=j) (List.getElem?_eq_getElem hyl)
    obtain ⟨d1,f1,f2⟩:=Paired.get r (List.getElem?_eq_getElem hxl)
    obtain ⟨d2,f3,f4⟩:=Paired.get q (List.getElem?_eq_getElem hyl)
    rw [f1] at f3
    cases f3
    rw [List.getElem?_eq_getElem j1] at e1
    rw [List.getElem?_eq_getElem j2] at e3
    cases e1; cases e3
    simpa using eqAt_same I n f2 f4 e2 e4 hin
   have t1:=SeqAt.RcAt.lists (A:=A) (s:=s) (e:=fun _=>true) pa.isList pb.isList (by simp [la,lb]) (by omega) el
   have t2:=SeqAt.RcNeAt.lists (A:=A) (s:=s) (e:=fun _=>true) pa.isList pb.isList (by simp [la,lb]) (by omega) el
   rw [all_true] at t1 t2
   exact ⟨t1,t2⟩
def rSame (K:PySem.W.Frag) (b:Bool):R2:=fun x y H Q=>∃ (a c:Addr) (n:Nat) (d:Dt) (ok ok':Addr->Prop),x = .ref a/\y = .ref c/\n<=20/\Says K ok H (n + 1) x d/\Says K ok' H (n + 1) y d/\Q (.bl b) H
theorem op_eqS (hu:X.A.units + 64 < cLine):OpR X (compareOp .Eq) (rSame X.K true):=by
 intro pins s σ H x y v u Q I rx ry h
 obtain ⟨a,c,n,d,ok,ok',rfl,rfl,hn,hx,hy,q⟩:=h
 cases rx; cases ry
 exact (rc_same (A:=X.A) I hx hy (by omega)).1 X.prog X.w X.xe _ ⟨.bl true,H,I,rfl,q⟩
theorem op_neS (hu:X.A.units + 64 < cLine):OpR X (compareOp .NotEq) (rSame X.K false):=by
 intro pins s σ H x y v u Q I rx ry h
 obtain ⟨a,c,n,d,ok,ok',rfl,rfl,hn,hx,hy,q⟩:=h
 cases rx; cases ry
 exact (rc_same (A:=X.A) I hx hy (by omega)).2 X.prog X.w X.xe _ ⟨.bl false,H,I,rfl,q⟩
end
def Ite (K:PySem.W.Frag) (a:Addr):It:=
 ⟨fun i H=>∃ xs x,SqL K H a xs/\xs[i]? = some x,fun i H x H'=>∃ (p:Addr) (y:V),x = .ref p/\H p = none/\(∀ xs,SqL K H a xs->xs[i]? = some y)/\H' = upd H p (.tup [.int i,y]),fun i H=>∃ xs,SqL K H a xs/\xs.length<=i⟩
theorem turn_enum {P:Program} {w:World} {K:PySem.W.Frag} {elts:List Expr} {x1:Nat} {tpos:Pos} (a e it:Addr) (hne:e ≠ it) :
  Turn P w K (.Tuple elts x1 tpos) (Ite K a) [e,it] e (fun i h=>(∃ old,IsEnum h e it (i:Int) old)/\h.IsListIter it a i) where
 mem:=by simp
 obj:=fun i h st b hb=>by
  rcases List.mem_cons.mp hb with rfl | hb
  ·obtain ⟨⟨old,he⟩,_⟩:=st
   exact ⟨_,he,fun v q=>by cases q⟩
  ·have e':b = it:=by simpa using hb
   subst e'
   obtain ⟨_,o,ho,_,hd⟩:=st
   exact ⟨o,ho,fun v q=>by rw [hd] at q; cases q⟩
 keep:=fun i h h' st k=>by
  obtain ⟨⟨old,he⟩,o,ho,r⟩:=st
  exact ⟨⟨old,k e (by simp) _ he⟩,o,k it (by simp) o ho,r⟩
 item:=by
  intro X hP hw hK hc i pins s σ H E I hf st hg
  subst hP hw hK
  obtain ⟨f0,f1,f2,f3,f4,f5⟩:=hf e (by simp)
  obtain ⟨g0,g1,g2,g3,g4,g5⟩:=hf it (by simp)
  obtain ⟨⟨old,he⟩,hit⟩:=st
  obtain ⟨xs,x,hS,hx⟩:=hg
  obtain ⟨its,rv,hp,hz⟩:=I.list hS
  obtain ⟨u,hu,ru⟩:=rv.get hx
  refine wpAny_pyNext_enum_item he hit hp.isList (x:=u) (by simpa using hu) hne fun h' he' hit' htup hsz hk=>?_
  have I0:Inv X pins σ H { s with heap:=h',toks:=s.toks + 1 }:=by
   refine I.step (g':=s.gens) (d':=s.drawn) (ch:=[e,it]) (fun b hb=>?_) (fun b o _ _ hc' e1 _=>hk b o (fun z=>hc' (by simp [z])) (fun z=>hc' (by simp [z])) e1) (fun b o _ _ hc' e1 _=>⟨o.slots,hk b o (fun z=>hc' (by simp [z])) (fun z=>hc' (by simp [z])) e1⟩) (fun _ _ _ _ n=>n)
    (fun b o hc' e1=>⟨o,hk b o (fun z=>hc' (by simp [z])) (fun z=>hc' (by simp [z])) e1⟩) (fun _ _ e1=>e1) (fun _ _ _ e1=>e1) (fun b ps e1=>⟨#[],by rw [e1]; simp⟩) (fun m hm=>?_) (fun b u' e1=>?_) I.bare
   ·rcases List.mem_cons.mp hb with rfl | hb
    ·exact ⟨f3,f1,f4,f5⟩
    ·have e':b = it:=by simpa using hb
     subst e'
     exact ⟨g3,g1,g4,g5⟩
   ·obtain ⟨o,es,ep,ho,r⟩:=hm
    exact ⟨o,es,ep,hk _ o (Ne.symm f1) (Ne.symm g1) ho,r⟩
   ·have nit:∀ c v',H c = some v'->c ≠ e/\c ≠ it:=fun c v' q=>⟨fun z=>(by rw [z,f0] at q; cases q),fun z=>(by rw [z,g0] at q; cases q)⟩
    refine (I.hok b u' e1).stay (fun c v' hc' q=>?_) (fun _ q=>q) fun _ _ q=>q
    rcases hc' with z | z
    ·subst z; exact hk c v' (nit c _ e1).1 (nit c _ e1).2 q
    ·exact hk c v' (nit c _ z).1 (nit c _ z).2 q
  have hfr:H s.heap.objs.size = none:=I.hok.fresh (Nat.le_refl _)
  have I1:Inv X pins σ (upd H s.heap.objs.size (.tup [.int i,x])) { s with heap:=h',toks:=s.toks + 1 }:=by
   have hok:HOk X.prog X.w (upd H s.heap.objs.size (.tup [.int i,x])) h':=fun b o q=>by
    by_cases hb:b = s.heap.objs.size
    ·subst hb
     rw [upd_same] at q; cases q
     exact ⟨by show 2<=sizeLine; decide,[.int i s.toks,u],.cons ⟨_,rfl⟩ (.cons ru .nil),⟨_,htup,rfl,_,rfl⟩⟩
    ·rw [upd_ne hb] at q
     exact (I0.hok b o q).stay (fun _ _ _ z=>z) (fun c z=>by rw [upd_ne (ne_of_none z hfr)]; exact z) fun c xs' z=>by rw [upd_ne (ne_of_none z hfr)]; exact z
   refine I0.step (s:={ s with heap:=h',toks:=s.toks + 1 }) (g':=s.gens) (d':=s.drawn) (h':=h') (t':=s.toks + 1) (ch:=[s.heap.objs.size]) (fun b hb=>?_) (fun b o _ _ _ e1 _=>e1) (fun b o _ _ _ e1 _=>⟨o.slots,e1⟩) (fun b o hb e1 n=>by rw [upd_ne (fun z=>hb (by simp [z]))]; exact n)
    (fun b o _ e1=>⟨o,e1⟩) (fun b xs' e1=>by rw [upd_ne (ne_of_none e1 hfr)]; exact e1) (fun b o' u' e1=>by rw [upd_ne (ne_of_none e1 hfr)]; exact e1) (fun b ps e1=>⟨#[],by rw [upd_ne (ne_of_none e1 hfr),e1]; simp⟩) (fun m hm=>hm) hok I0.bare
   have e':b = s.heap.objs.size:=by simpa using hb
   subst e'
   refine ⟨.inr I.sz,fun z=>?_,fun y c h z=>?_,fun p hp' z=>?_⟩
   ·have:=I.lt; rw [<- z] at this; exact absurd this (Nat.lt_irrefl _)
   ·obtain ⟨v',hv⟩:=I.cell y c h
    have:=hv.lt; rw [z] at this; exact absurd this (Nat.lt_irrefl _)
   ·have:=I.pin_lt hp'; rw [z] at this; exact absurd this (Nat.lt_irrefl _)
  refine ⟨_,rfl,wpAny_letOwnedTupleGo_enum he' fun h2 he2 hs2=>?_⟩
  have nes:s.heap.objs.size ≠ e:=fun z=>by
   have:=Heap.lt_size (show s.heap.get? e = some _ from he)
   rw [<- z] at this; exact absurd this (Nat.lt_irrefl _)
  have nis:s.heap.objs.size ≠ it:=fun z=>by
   obtain ⟨o,ho,_⟩:=hit
   have:=Heap.lt_size ho
   rw [<- z] at this; exact absurd this (Nat.lt_irrefl _)
  have I2:Inv X pins σ (upd H s.heap.objs.size (.tup [.int i,x])) { s with heap:=h2,toks:=s.toks + 1 }:=
   I1.turned (s:={ s with heap:=h',toks:=s.toks + 1 }) (t':=s.toks + 1) (it:=e) (fun b o hb q=>(hs2.2 b hb).trans q) (by rw [upd_ne nes.symm]; exact f0) f1 f3 f4 f5
  refine ⟨.ref s.heap.objs.size,_,I2,rfl,⟨_,x,rfl,hfr,fun xs' h'=>?_,rfl⟩,⟨⟨_,by simpa using he2⟩,?_⟩,fun b hb=>?_⟩
  ·rw [I.list_inj h' hS]; exact hx
  ·obtain ⟨o,ho,r⟩:=hit'
   exact ⟨o,(hs2.2 it (Ne.symm hne)).trans ho,r⟩
  ·rcases List.mem_cons.mp hb with rfl | hb
   ·rw [upd_ne nes.symm]; exact f0
   ·have e':b = it:=by simpa using hb
    subst e'
    rw [upd_ne nis.symm]; exact g0
 done:=by
  intro X hP hw hK hc i pins s σ H E I hf st hg
  subst hP hw hK
  obtain ⟨⟨old,he⟩,hit⟩:=st
  obtain ⟨g0,g1,g2,g3,g4,g5⟩:=hf it (by simp)
  obtain ⟨xs,hS,hle⟩:=hg
  obtain ⟨its,rv,hp,hz⟩:=I.list hS
  have hx:its.toArray[i]? = none:=by simp [<- rv.length,hle]
  exact wpAny_pyNext_enum_end (I.ok.hd hc) he hit hp.isList hx fun h' eb=>⟨rfl,I.turned (t':=s.toks) (fun b o hb e1=>eb b o hb e1) g0 g1 g3 g4 g5⟩
 self:=fun A i s Q E st h=>by
  obtain ⟨⟨old,he⟩,_⟩:=st
  exact wpAny_pyIter_enum he h
section
variable {X:Cx} {elts:List Expr} {x1:Nat} {tpos:Pos}
def iEnum (K:PySem.W.Frag) (ta:TA):TI:=fun σ H R=>ta σ H fun vs H1=>∃ a,vs = [.ref a]/\(∃ xs,SqL K H1 a xs)/\R (Ite K a) H1
theorem pi_enum {l:Expr} {ta:TA} {p pos:Pos} (hg:Gl X "enumerate") (hm:X.mg "enumerate" = none) (ha:PA X [l] ta) (hl:isSt l = false:=by rfl):PI X (.Tuple elts x1 tpos) (.Call (.Name "enumerate" p) [l] [] pos) (iEnum X.K ta):=by
 refine ⟨?_⟩
 intro pins s σ H R I h
 refine Call_ (ld_blt I hg hm PyProof.Rows.boot_enumerate (PyProof.Rows.callWith_type1 (thn (ha pos pins s σ H _ I h) fun us s1 ⟨vs,H1,I1,r1,q1⟩=>?_) (star_cons hl) rfl))
 obtain ⟨a,e,⟨xs,hS⟩,q⟩:=q1
 subst e
 obtain ⟨u,rfl,ru⟩:=vals1 r1
 cases ru
 obtain ⟨its,rv,hp,hz⟩:=I1.list hS
 refine call_enumerate_list hp.isList fun h' he hit hsz hk=>?_
 refine wpAny_pyIter_enum he ?_
 have hfr:∀ b,s1.heap.objs.size<=b->H1 b = none:=fun b hb=>I1.hok.fresh hb
 have I2:Inv X pins σ H1 { s1 with heap:=h' }:=I1.kept (t':=s1.toks) hk
 refine ⟨s1.heap.objs.size + 1,[s1.heap.objs.size + 1,s1.heap.objs.size],_,_,H1,rfl,I2,turn_enum a _ _ (Nat.succ_ne_self _),⟨⟨_,he⟩,hit⟩,fun b hb=>?_,q⟩
 rcases List.mem_cons.mp hb with rfl | hb
 ·exact I1.fpOk (Nat.le_succ _) (hfr _ (Nat.le_succ _))
 ·have e':b = s1.heap.objs.size:=by simpa using hb
  subst e'
  exact I1.fpOk (Nat.le_refl _) (hfr _ (Nat.le_refl _))
end
end L2
namespace Att
open PySem PySem.W PySem.Calls PyProof.Rows
theorem script_bits {ns:List Int} (h:WData.layableAll [WData.list (ns.map WData.int)] = true):∀ n ∈ ns,Builtin.Int.intBits n<=1048576:=fun n hn=>
 PySem.intBits_le_of_layable (layable0_of_all (lay0_int (layableW_item (layW_cons h).1 (.int n) (List.mem_map.mpr ⟨n,hn,rfl⟩))))
theorem attach_callB {l:OpenLaw} {n:Nat} {q:Program} {loose:List Str} {XP:(Str->Option Value)->Heap->Prop} {YP:World->Heap->Prop} {d:DefRec}
  (hn:l.most = some n) (hdf:d.params.defaults = [])
  (call:∀ (w:World) (s₀ s₁:Shared) (mg mb:Str->Option Value) (fa:Addr) (o:Obj) (pm cd doc:Value) (a:Addr) (vs:List Value) (ns:List Int),
   Ground q loose [] XP w s₀ mg mb s₁.heap->YP w s₁.heap->
   s₁.heap.get? fa = some o->o.data = .func (docDef d.name d.params d.body d.scope pm cd doc)->s₁.heap.CodeRec cd d.name->mg d.name = some (.ref fa)->
   s₁.heap.get? a = some { cls:=.type "list",data:=.seq vs.toArray }->IntsAre vs ns->ns.length<=n->(∀ m ∈ ns,Builtin.Int.intBits m<=1048576)->s₁.gens = #[]->
   codeAny (model l.prog w) callerA (.call (.ref fa) ⟨[.ref a],[]⟩) (fun r s'=>r = .ok (.ret (.bool true))/\OldK s₁.heap s'.heap/\s'.os = s₁.os/\AllBare s'.gens) s₁) :
  WalkO q loose XP YP l.row.toRowW d [] (fun f vs=>PySem.call f vs):=by
 intro w s₀ s₁ mg mb G Y fa o pm cd doc dV kV ho hd hcd hD hmg hg args vals as hpre hlay hrd hwl hlo
 obtain rfl:dV = .none:=Dflts.none hD hdf
 obtain rfl:kV = .none:=Dflts.noKw hD
 obtain ⟨a,vs,ns,rfl,rfl,hobj,hints,hlen⟩:=script_of hn hpre hwl
 refine enter_call (codeAny_mono (call w s₀ s₁ mg mb fa o pm cd doc a vs ns G Y ho (fd_plain hd) hcd hmg hobj hints hlen (script_bits hlay) hg) fun r s' hq=>?_)
 obtain ⟨rfl,h2,h3,h4⟩:=hq
 exact ⟨.inl ⟨.bool true,.bool true,[],rfl,fun _=>rfl,.bool true,post_true l _,fun _=>⟨List.Pairwise.nil,fun _ hm=>(nomatch hm)⟩⟩,h2,h3,h4⟩
end Att
namespace L2
open PySem PySem.Spec PyProof.Rows
theorem walk_ofB {l:PySem.W.OpenLaw} {n k:Nat} {q:Program} {loose:List Str} {XP:(Str->Option Value)->Heap->Prop} {YP:World->Heap->Prop} {d:DefRec} {K:Params->PySem.W.Frag} {CX:World->CXT} {sp:World->Sp} {x:Str}
  (hn:l.most = some n) (hn2:n<=sizeLine) (hdf:d.params.defaults = []) (hr:Room k callerA)
  (hY:∀ (w:World) (h:Heap),YP w h->(K w.params).In h)
  (F:∀ (w:World) (mg:Str->Option Value) (fa:Addr) (h:Heap),(K w.params).In h->h.Ns mainGlobals mg->mg d.name = some (.ref fa)->
   ∃ fd:FuncData,(∀ (s:Shared) (u:Value),BindsTo s fd ⟨[u],[]⟩ [(x,u)])/\
    ∀ base:Heap,(K w.params).In base->base.Ns mainGlobals mg->FnOk l.prog w (K w.params) mg base (CX w) k fa fd [x] (sp w))
  (hsp:∀ (w:World) (H:Hp) (a:Addr) (ns:List Int),ns.length<=n->(∀ m ∈ ns,Builtin.Int.intBits m<=1048576)->Only H->SqL (K w.params) H a (ns.map V.int)->sp w [.ref a] H (fun v _=>v = .bl true) fun _ _ _=>False)
  (hCX:∀ (w:World) (H:Hp) (s:Shared) (e:Value) (s':Shared),CX w [] H s (fun _ _ _=>False) e s'->False) :
  PySem.W.WalkO q loose XP YP l.row.toRowW d [] (fun f vs=>PySem.call f vs):=by
 refine Att.attach_callB hn hdf fun w s₀ s₁ mg mb fa o pm cd doc a vs ns G Y ho hd hcd hmg hobj hints hlen hbits hg=>?_
 have KX:=hY w _ Y
 obtain ⟨fd,hb,hF⟩:=F w mg fa _ KX G.T.g hmg
 exact law_call KX G.T.g G.T.b G.T.builtins G.T.nolimit hg hobj hints (Nat.le_trans hlen hn2) hr hF hb (fun H hO hS=>hsp w H a ns hlen hbits hO hS) fun H e s'=>hCX w H s₁ e s'
section
variable {X:Cx}
end
structure FunD (K:PySem.W.Frag) (x qual:Str) (st:Stmt) (f:Addr) (fd:FuncData) (items:List Value):Prop where
 ex:∃ (oc:Value) (od:Option Addr) (T:Addr) (kV doc pm:Value) (an:Option Addr) (cdv ct:Value) (osl:Array (Option Value)) (o:Obj) (n:Nat),
  fd = PySem.W.fnOf x qual (defArgs st) (defBody st) (defScope st) (.ref T) kV doc pm an cdv ct/\K.lookup f = some ⟨oc,od,.func fd,osl⟩/\PySem.W.codeIn K cdv qual = true/\K.lookup T = some o/\o.data = .seq items.toArray n
 kp:PySem.W.keepIn K (.ref f) = true
section
variable {P:Program} {w:World} {K:PySem.W.Frag} {mg:Str->Option Value} {base:Heap}
theorem FunD.ok {x qual:Str} {st:Stmt} {f:Addr} {fd:FuncData} {items:List Value} {N ps:List Str} {k:Nat} {sp:Sp} (F:FunD K x qual st f fd items) (S:FnScope N ps (defScope st)) (len:∀ vs H Q E,sp vs H Q E->vs.length = ps.length)
  (hbody:∀ (cdv:Value) (A:Around) (outer:List Env) (s:Shared) (H:Hp) (vs:List V) (Q:VK) (E:XK),Room k (A.deeper (envOfC qual (defScope st) s.heap.objs.size f cdv))->sp vs H Q E->
   ∃ t,PSs (cxOf CX0 P w K mg base N qual (defScope st) f cdv A outer s H E).nox (defBody st) t/\t { nx:=fun _ H'=>Q .non H',rt:=Q } (start N vs) H):FnOk P w K mg base CX0 (k + 1) f fd ps sp:=by
 obtain ⟨oc,od,T,kV,doc,pm,an,cdv,ct,osl,o,n,rfl,lk,hcd,_,_⟩:=F.ex
 refine fn_of lk hcd S len fun A outer s H vs Q E hr hsp=>?_
 obtain ⟨t,h,q⟩:=hbody cdv A outer s H vs Q E hr hsp
 exact ⟨t,h.nox,q⟩
theorem FunD.bindsTo {x qual:Str} {st:Stmt} {f:Addr} {fd:FuncData} {items:List Value} (F:FunD K x qual st f fd items) {args:Args} {bs:List (Str × Value)}
  (h:∀ (T:Addr) (kV doc pm:Value) (an:Option Addr) (cdv ct:Value),∃ k:Option (Array Value)->Sem (List (Str × Value)),
   bindArgs (PySem.W.fnOf x qual (defArgs st) (defBody st) (defScope st) (.ref T) kV doc pm an cdv ct) args = seqItems? (.ref T) >>= k/\k (some items.toArray) = pure bs) {s:Shared} (KX:K.In s.heap):BindsTo s fd args bs:=by
 obtain ⟨oc,od,T,kV,doc,pm,an,cdv,ct,osl,o,n,rfl,lk,hcd,lt,hs⟩:=F.ex
 obtain ⟨k,h1,h2⟩:=h T kV doc pm an cdv ct
 exact BindsTo.of_defaults (T:=T) (n:=n) rfl (KX _ _ lt) hs h1 h2
theorem funD_mk {x qual:Str} {st:Stmt} {f T:Addr} {oc:Value} {od an:Option Addr} {osl:Array (Option Value)} {kV doc pm cdv ct:Value} {o:Obj} {n:Nat} {items:List Value}
  (l:K.lookup f = some ⟨oc,od,.func (PySem.W.fnOf x qual (defArgs st) (defBody st) (defScope st) (.ref T) kV doc pm an cdv ct),osl⟩)
  (c:PySem.W.codeIn K cdv qual = true) (k:PySem.W.keepIn K (.ref f) = true) (lT:K.lookup T = some o) (hs:o.data = .seq items.toArray n) :
  FunD K x qual st f (PySem.W.fnOf x qual (defArgs st) (defBody st) (defScope st) (.ref T) kV doc pm an cdv ct) items:=⟨⟨oc,od,T,kV,doc,pm,an,cdv,ct,osl,o,n,rfl,l,c,lT,hs⟩,k⟩
end
section
variable {X:Cx} {CX:CXT} {k:Nat} {f C:Addr} {fd:FuncData} {ps ks:List Str} {sp:Sp} {E:XK} {x:Str} {p pos:Pos} {e:Expr} {es:List Expr} {kws:List Keyword} {t tk:TA}
 {g:List Value->List Value->List Value} {gV:List V->List V->List V}
end
theorem seq_via {t u:TS} {D:Ends} {σ : St} {H:Hp} (R:St->Hp->Prop) (h2:∀ σ H,R σ H->u D σ H) (h1:(∀ σ H,R σ H->u D σ H)->t { D with nx:=u D } σ H):tSeq t u D σ H:=h1 h2
def lcN (n i:Nat) (D:Addr) (Pv:Nat->List V->Hp->Prop) (ys:List V):VK:=fun v H4=>H4 D = some (.lst ys)/\ys.length < sizeLine/\∃ m',m' < n - i/\m' = n - (i + 1)/\i + 1<=n/\Pv (i + 1) (ys ++ [v]) (upd H4 D (.lst (ys ++ [v])))
def lcS (n i:Nat) (Pv:Nat->List V->Hp->Prop) (ys:List V):Hp->Prop:=fun H4=>∃ m',m' < n - i/\m' = n - (i + 1)/\i + 1<=n/\Pv (i + 1) ys H4
theorem lcN.mk {n i:Nat} {D:Addr} {Pv:Nat->List V->Hp->Prop} {ys:List V} {v:V} {H4:Hp} (hi:i < n) (hn:n<=sizeLine) (hD:H4 D = some (.lst ys)) (hy:ys.length<=i) (p:Pv (i + 1) (ys ++ [v]) (upd H4 D (.lst (ys ++ [v])))):lcN n i D Pv ys v H4:=
 ⟨hD,by omega,n - (i + 1),by omega,rfl,hi,p⟩
theorem lcS.mk {n i:Nat} {Pv:Nat->List V->Hp->Prop} {ys:List V} {H4:Hp} (hi:i < n) (p:Pv (i + 1) ys H4):lcS n i Pv ys H4:=⟨n - (i + 1),by omega,rfl,hi,p⟩
theorem lc_list {K:PySem.W.Frag} {a:Addr} {xs:List V} {caps:List (Option Nat)} {g:TG} {tt:TT} {te:TE} {σ : St} {H1:Hp} {Q:VK} {D:Addr} (Pv:Nat->List V->Hp->Prop) (h0:Pv 0 [] (upd H1 D (.lst [])))
  (hl:∀ i ys H,Pv i ys H->SqL K H a xs)
  (hs:∀ i x ys H,i < xs.length->xs[i]? = some x->Pv i ys H->g x (capS caps σ) H fun σ2 H2=>tt σ2 H2 fun ok H3=>(ok = true->te σ2 H3 (lcN xs.length i D Pv ys))/\(ok = false->lcS xs.length i Pv ys H3))
  (hd:∀ ys H,Pv xs.length ys H->Q (.ref D) H):LCr (Itl K a) caps g tt te σ H1 Q D:=by
 refine ⟨fun i m ys H=>m = xs.length - i/\i<=xs.length/\Pv i ys H,⟨xs.length,by simp,Nat.zero_le _,h0⟩,?_⟩
 rintro i m ys H ⟨rfl,hi,p⟩
 have q:=hl i ys H p
 by_cases hlt:i < xs.length
 ·refine .inr ⟨⟨xs,xs[i],q,by simp [hlt]⟩,fun x H' y=>?_⟩
  obtain ⟨e,y⟩:=y
  subst e
  exact hs i x ys _ hlt (y xs q) p
 ·have e:i = xs.length:=by omega
  subst e
  exact .inl ⟨⟨xs,q,Nat.le_refl _⟩,hd ys H p⟩
theorem same_make0 {H:Hp} {x dx:Addr} {o1:HO} (hx:H x = none) (hd:H dx = none):Same H (upd (upd H dx (.own x)) x o1):=fun b u q=>by
 rw [upd_ne (ne_of_none q hx),upd_ne (ne_of_none q hd)]
 exact q
theorem same_new {H:Hp} {p:Addr} (h:H p = none) (o:HO):Same H (upd H p o):=fun b u q=>by rw [upd_ne (ne_of_none q h)]; exact q
theorem lc_range {lo:Int} {n:Nat} {caps:List (Option Nat)} {g:TG} {tt:TT} {te:TE} {σ : St} {H1:Hp} {Q:VK} {D:Addr} (Pv:Nat->List V->Hp->Prop) (h0:Pv 0 [] (upd H1 D (.lst [])))
  (hs:∀ i ys H,i < n->Pv i ys H->g (.int (lo + i)) (capS caps σ) H fun σ2 H2=>tt σ2 H2 fun ok H3=>(ok = true->te σ2 H3 (lcN n i D Pv ys))/\(ok = false->lcS n i Pv ys H3))
  (hd:∀ ys H,Pv n ys H->Q (.ref D) H):LCr (Itr lo n) caps g tt te σ H1 Q D:=by
 refine ⟨fun i m ys H=>m = n - i/\i<=n/\Pv i ys H,⟨n,by simp,Nat.zero_le _,h0⟩,?_⟩
 rintro i m ys H ⟨rfl,hi,p⟩
 by_cases hlt:i < n
 ·refine .inr ⟨hlt,fun x H' y=>?_⟩
  obtain ⟨e,y⟩:=y
  subst e y
  exact hs i ys _ hlt p
 ·have e:i = n:=by omega
  subst e
  exact .inl ⟨Nat.le_refl _,hd ys H p⟩
theorem lc_enum {K:PySem.W.Frag} {a:Addr} {xs:List V} {caps:List (Option Nat)} {g:TG} {tt:TT} {te:TE} {σ : St} {H1:Hp} {Q:VK} {D:Addr} (Pv:Nat->List V->Hp->Prop) (h0:Pv 0 [] (upd H1 D (.lst [])))
  (hl:∀ i ys H,Pv i ys H->SqL K H a xs)
  (hs:∀ i x p ys H,i < xs.length->xs[i]? = some x->Pv i ys H->H p = none->g (.ref p) (capS caps σ) (upd H p (.tup [.int i,x])) fun σ2 H2=>tt σ2 H2 fun ok H3=>(ok = true->te σ2 H3 (lcN xs.length i D Pv ys))/\(ok = false->lcS xs.length i Pv ys H3))
  (hd:∀ ys H,Pv xs.length ys H->Q (.ref D) H):LCr (Ite K a) caps g tt te σ H1 Q D:=by
 refine ⟨fun i m ys H=>m = xs.length - i/\i<=xs.length/\Pv i ys H,⟨xs.length,by simp,Nat.zero_le _,h0⟩,?_⟩
 rintro i m ys H ⟨rfl,hi,p⟩
 have q:=hl i ys H p
 by_cases hlt:i < xs.length
 ·refine .inr ⟨⟨xs,xs[i],q,by simp [hlt]⟩,fun x H' y=>?_⟩
  obtain ⟨pp,y,rfl,hp,y2,rfl⟩:=y
  exact hs i y pp ys H hlt (y2 xs q) p hp
 ·have e:i = xs.length:=by omega
  subst e
  exact .inl ⟨⟨xs,q,Nat.le_refl _⟩,hd ys H p⟩
theorem for_enum {K:PySem.W.Frag} {a:Addr} {xs:List V} {g:TG} {tb:TS} {D:Ends} {σ : St} {H:Hp} (Pv:Nat->St->Hp->Prop) (h0:Pv 0 σ H) (hl:∀ i σ H,i<=xs.length->Pv i σ H->SqL K H a xs)
  (hs:∀ i x p σ H,xs[i]? = some x->Pv i σ H->H p = none->g (.ref p) σ (upd H p (.tup [.int i,x])) fun σ2 H2=>tb { D with nx:=Pv (i + 1),ct:=Pv (i + 1),bk:=D.nx } σ2 H2) (hd:∀ σ H,Pv xs.length σ H->D.nx σ H) :
  ∃ W:Nat->Nat->St->Hp->Prop,(∃ m,W 0 m σ H)/\∀ i m σ H,W i m σ H->
   ((Ite K a).stop i H/\D.nx σ H)\/((Ite K a).go i H/\∃ N:St->Hp->Prop,(∀ σ' H',N σ' H'->∃ m',m' < m/\W (i + 1) m' σ' H')/\∀ x H',(Ite K a).yld i H x H'->g x σ H' fun σ2 H2=>tb { D with nx:=N,ct:=N,bk:=D.nx } σ2 H2):=by
 refine ⟨fun i m σ H=>m = xs.length - i/\i<=xs.length/\Pv i σ H,⟨xs.length,by simp,Nat.zero_le _,h0⟩,?_⟩
 rintro i m σ H ⟨rfl,hi,p⟩
 have q:=hl i σ H hi p
 by_cases hlt:i < xs.length
 ·refine .inr ⟨⟨xs,xs[i],q,by simp [hlt]⟩,Pv (i + 1),fun σ' H' p'=>⟨xs.length - (i + 1),by omega,rfl,hlt,p'⟩,fun x H' y=>?_⟩
  obtain ⟨pp,y,rfl,hp,y2,rfl⟩:=y
  exact hs i y pp σ H (y2 xs q) p hp
 ·have e:i = xs.length:=by omega
  subst e
  exact .inl ⟨⟨xs,q,Nat.le_refl _⟩,hd σ H p⟩
theorem call_isinstT {X:Cx}:CallR X (.builtin "isinstance") (fun xs H Q=>∃ a ys T b,xs = [.ref a,.ty T]/\SqT X.K H a ys/\PySem.W.kitOne X.K (.type "tuple") (.type T) = some b/\Q (.bl b) H):=by
 intro pins s σ H xs us Q I r h
 obtain ⟨a,ys,T,b,rfl,hS,e,q⟩:=h
 obtain ⟨u,w',rfl,ru,rw'⟩:=vals2 r
 cases rw'
 cases ru
 obtain ⟨its,r,⟨o,h1,h2,_⟩,_⟩:=I.tuple hS
 exact PySem.W.kia_one PySem.W.kitx_tuple I.kIn ⟨o,h1,h2⟩ e (fun z=>nomatch z) fun tk=>⟨.bl b,H,I.tok tk,rfl,q⟩
section
variable {X:Cx} {pins:List (Addr × Obj)} {σ : St} {H H':Hp} {s s':Shared} {ea:Addr} {cls:Value} {vs:List Value} {h':Heap} {M:Model} {E:Value->Shared->Prop}
end
section
variable {X:Cx} {E:XK} {x:Str} {C:Addr} {B Bn newId nid initId inN:String} {bm bmN:List Value} {np cpos pos:Pos} {e:Expr} {es:List Expr} {t:TA}
end
section
variable {P:Program} {w:World} {K:PySem.W.Frag} {mg:Str->Option Value} {base:Heap} {N:List Str} {qual:Str} {scope:Scope} {f:Addr} {cd:Value} {A:Around} {outer:List Env} {s:Shared} {H:Hp} {E E':XK}
end
section
variable {X:Cx} {k:Nat} {f:Addr} {fd:FuncData} {ps:List Str} {sp:Sp} {E:XK} {x:Str} {p pos:Pos} {e:Expr} {es:List Expr} {t:TA}
end
section
variable {X:Cx} {pins:List (Addr × Obj)} {σ : St} {H H':Hp} {s s':Shared} {ea a:Addr} {cls:Value} {o:HO} {h5:Heap}
end
section
variable {X:Cx} {pins:List (Addr × Obj)} {σ : St} {H:Hp} {s:Shared} {M:Model} {A:Around} {E:Value->Shared->Prop} {i:Nat} {n:Str} {pos:Pos}
end
section
variable {X:Cx} {pins:List (Addr × Obj)} {σ : St} {e:Expr} {es:List Expr} {te ta:TE} {t tr:TA} {E:XK} {x m:Str} {p pos apos:Pos} {k:Nat} {f C:Addr} {fd:FuncData} {ps:List Str} {sp:Sp} {o:Expr} {dvs:List V} {ds:List Value}
end
section
variable {X:Cx} {pins:List (Addr × Obj)} {σ : St} {H:Hp} {s:Shared} {ea:Addr}
variable {st b₀:Stmt} {suite:List Stmt} {c n:Str} {np hpos pos:Pos} {C:Addr} {i:Nat} {tb:XK->TS} {ts:TS} {ok:Value->Prop}
end
end L2
namespace L2
open PySem PySem.W PySem.Builtin PySem.Builtin.ObjectAttr PySem.Builtin.Getset_descriptor PySem.Spec PyProof.Rows
section
variable {prog:Program} {w:World} {A:Around} {E:Value->Shared->Prop} {s:Shared} {K:PySem.W.Frag} {x D:Addr}
end
end L2
namespace L2
open PySem PySem.Spec PyProof.Rows
section
variable {X:Cx}
end
section
variable {P:Program} {w:World} {K:PySem.W.Frag} {mg:Str->Option Value} {base:Heap}
end
section
variable {X:Cx} {k:Nat} {f:Addr} {fd:FuncData} {ps:List Str} {sp:Sp} {x:Str} {p pos:Pos} {e:Expr} {es:List Expr} {t:TA}
end
section
variable {prog:Program} {w:World} {A:Around} {E:Value->Shared->Prop} {s:Shared} {r:Addr} {n:Int} {t u v:Tok}
end
section
variable {X:Cx} {tg:Expr}
end
section
variable {X:Cx} {o i:Expr} {to ti:TE} {pos tpos:Pos}
def rLen:R2:=fun x y H Q=>∃ (a c:Addr) (xs ys:List V),x = .ref a/\y = .ref c/\H a = some (.lst xs)/\H c = some (.lst ys)/\xs.length ≠ ys.length/\Q (.bl false) H
theorem op_eqLen (hu:X.A.units < cLine):OpR X (compareOp .Eq) rLen:=by
 intro pins s σ H x y v u Q I rx ry h
 obtain ⟨a,c,xs,ys,rfl,rfl,ha,hc,hn,q⟩:=h
 cases rx
 cases ry
 obtain ⟨its,r,pl,_⟩:=I.list (SqL.of ha)
 obtain ⟨its2,r2,pl2,_⟩:=I.list (SqL.of hc)
 have e1:=r.length
 have e2:=r2.length
 exact PySem.SeqAt.eq_list_lengthsAt pl.isList pl2.isList (by simp only [List.size_toArray,bne_iff_ne]; omega) hu ⟨.bl false,H,I,rfl,q⟩
end
section
variable {X:Cx} {pins:List (Addr × Obj)} {σ : St} {e:Expr} {te:TE} {pos p:Pos} {C:Addr} {x:Str}
end
theorem same_after {H H1:Hp} {x dx:Addr} {o1 o2:HO} (hx:H x = none) (hd:H dx = none) (s:Same (upd (upd H dx (.own x)) x o1) H1):Same H (upd H1 x o2):=fun b u q=>by
 rw [upd_ne (ne_of_none q hx)]
 exact s _ _ (same_make0 hx hd b u q)
structure Ctor (P:Program) (w:World) (K:PySem.W.Frag) (mg:Str->Option Value) (base:Heap) (CX:CXT) (k:Nat) (x:Str) (C i:Addr) (fd:FuncData) (ps:List Str) (ds:List Value) (sp:Sp):Prop where
 mkr:Mk K C i
 ok:FnOk P w K mg base CX k i fd ps sp
 mg:mg x = some (.ref C)
 bd:Binds K fd ps ds
section
variable {X:Cx} {CX:CXT} {k:Nat} {C i f:Addr} {fd:FuncData} {ps ks:List Str} {sp:Sp} {E:XK} {x m:Str} {p pos apos:Pos} {e:Expr} {es:List Expr} {t tk:TA} {ds:List Value} {dvs:List V} {kws:List Keyword}
 {g:List Value->List Value->List Value} {gV:List V->List V->List V}
theorem cMk (c:Ctor X.prog X.w X.K X.mg X.base CX k x C i fd ps ds sp) (hd:Vals dvs ds) (hp:Passes CX X E) (hr:Room (k + 1) X.A) (ha:PA X (e :: es) t) (hg:Gl X x:=by rfl) (hdb:(x == ("__debug__" : Str)) = false:=by decide)
  (h1:isSt e = false:=by rfl) (h2:es.any isSt = false:=by rfl):PE X (.Call (.Name x p) (e :: es) [] pos) (tMake C sp dvs E t):=pe_make c.mkr c.ok hr hg c.mg c.bd hd hp ha hdb (star_cons h1) (star_any h2)
structure ClsFn (K:PySem.W.Frag) (C:Addr) (m:Str) (f:Addr):Prop where
 ga:PySem.W.specialIn K (.ref C) "__getattribute__" = some (some (.builtin "type.__getattribute__"))
 rd:PySem.W.readsIn K C (.type "type") = true
 fc:PySem.W.findCls K (.ref C) (.type "type") m = some (.val (.ref f))
 kp:PySem.W.keepIn K (.ref f) = true
theorem pe_cm {pl:Sem Bool} (B:ClsFn X.K C m f) (hm:X.mg x = some (.ref C)) (F:FnOk X.prog X.w X.K X.mg X.base CX k f fd ps sp) (hr:Room k X.A) (hb:Binds X.K fd ps []) (hx:Passes CX X E) (ha:PA X (e :: es) t) (hg:Gl X x:=by rfl)
  (hdb:(x == ("__debug__" : Str)) = false:=by decide) (h1:isSt e = false:=by rfl) (h2:es.any isSt = false:=by rfl)
  (ht:eval (.Call (.Attribute (.Name x p) m apos) (e :: es) [] pos) X.env = (do
   let ov <- eval (.Name x p) X.env
   standAt apos.atName
   let (f,first) <- holding [ov] (getMethod ov m pl)
   callWith pos f first (backTo pos (starEach (e :: es) X.env)) (backToKw pos (keywordEach [] X.env))):=by rfl) :
  PE X (.Call (.Attribute (.Name x p) m apos) (e :: es) [] pos) (tCall sp [] E t):=by
 refine ⟨?_⟩
 intro pins s σ H Q I h
 refine PySem.W.methodCall_KW (pl:=pl) (ld_glob I hg hm ?_ hdb) ht
 refine PySem.W.method_cls I.kIn B.ga (PySem.W.cls_value I.kIn B.rd B.fc rfl ?_)
 have It:=I.tok (s.toks + 1)
 refine PySem.W.callWith_K (first:=[]) (h₀:=X.base) I.ok.mod.kin B.kp (thn (ha pos pins _ σ H _ It h) fun us s2 ⟨vs,H2,I2,r,q2⟩=>⟨I2.kIn,?_⟩) (star_cons h1) (star_any h2)
 exact run_fn F hr hb .nil hx I2 r q2
end
theorem ps_dead {X:Cx} {st:Stmt}:PS X st (fun _ _ _=>False):=⟨fun _ _ _ _ _ _ h=>h.elim⟩
def SetT (P:Program) (w:World) (a:Addr) (S:Str->Bool) (n:Nat) (h:Heap):Prop:=h.SetOf (strKind P w) a S n
abbrev setO (P:Program) (w:World) (a:Addr) (S:Str->Bool) (n:Nat):HO:=.ext (SetT P w a S n)
theorem setO_ok {P:Program} {w:World} {H:Hp} {h:Heap} {a:Addr} {S:Str->Bool} {n:Nat} (e:h.SetOf (strKind P w) a S n):ObjOk P w H h a (setO P w a S n):=
 ⟨e,let ⟨o,_,_,_,h1,_⟩:=e; ⟨o,h1⟩,fun g1 g2 q k=>let ⟨o,es,ep,t,h1,c⟩:=q; ⟨o,es,ep,t,k o h1,c⟩⟩
section
variable {X:Cx}
theorem call_set0:CallR X (.type "set") (fun xs H Q=>xs = []/\∀ p,H p = none->Q (.ref p) (upd H p (setO X.prog X.w p (fun _=>false) 0))):=by
 intro pins s σ H xs us Q I r h
 obtain ⟨rfl,q⟩:=h
 cases r
 refine call_set_0 fun led=>?_
 have hf:H s.heap.objs.size = none:=I.hok.fresh (Nat.le_refl _)
 refine ⟨.ref s.heap.objs.size,_,I.laid (t':=s.toks) (fun b u e=>Heap.get?_push_of_some _ e) (Nat.le_refl _) (setO_ok ?_),rfl,q _ hf⟩
 exact (setObjOf_fresh led).setOf (Heap.get?_push_size _ rfl) (by decide)
theorem op_in_setT:OpR X (compareOp .In) (fun x y H Q=>∃ (a:Addr) (S:Str->Bool) (n:Nat) (z:Str),x = .str z/\y = .ref a/\H a = some (setO X.prog X.w a S n)/\Q (.bl (S z)) H):=by
 intro pins s σ H x y v u Q I rx ry h
 obtain ⟨a,S,n,z,rfl,rfl,e,q⟩:=h
 obtain ⟨t,rfl⟩:=rx
 cases ry
 have hS:s.heap.SetOf (strKind X.prog X.w) a S n:=(I.hok a _ e).1
 exact wpAny_inSet_of (strKind_is X.prog X.w z t) rfl hS ⟨.bl (S z),H,I.tok _,rfl,q⟩
def tSAdd (P:Program) (w:World) (to te:TE):TE:=fun σ H Q=>to σ H fun x H1=>∃ (a:Addr) (S:Str->Bool) (n:Nat),x = .ref a/\H1 a = some (setO P w a S n)/\te σ H1 fun y H2=>∃ (S:Str->Bool) (n:Nat) (z:Str),y = .str z/\H2 a = some (setO P w a S n)/\n + 1 < scanBound/\
 Q .non (upd H2 a (setO P w a (fun k=>S k || decide (k = z)) (if S z then n else n + 1)))
theorem pe_sadd {o e:Expr} {apos cpos:Pos} {to te:TE} (ho:PE X o to) (he:PE X e te) (m:M1 X o "add" apos e cpos):PE X (.Call (.Attribute o "add" apos) [e] [] cpos) (tSAdd X.prog X.w to te):=by
 refine ⟨?_⟩
 intro pins s σ H Q I h
 refine wpAny_Call_method m.base m.few m.line PySem.F.plainAttrs_set PySem.F.slot_set_add PySem.F.type_set_add (thn (ho pins s σ H _ I h) fun u s1 ⟨x,H1,I1,rx,a,S,n,ex,d,q1⟩=>?_)
 subst ex
 obtain rfl:u = Value.ref a:=rx
 have hS:s1.heap.SetOf (strKind X.prog X.w) a S n:=(I1.hok a _ d).1
 refine ⟨hS.typeIs,hS.noDict,?_⟩
 rw [m.trees]
 refine Calls.callWith_builtin rfl (Calls.evalArgs_plain (Calls.spliced_cons (thn (he pins s1 σ H1 _ I1 q1) fun iv s2 ⟨y,H2,I2,ry,S2,n2,z,ey,e2,hn,q2⟩=>Calls.spliced_nil ?_)))
 subst ey
 obtain ⟨t,rfl⟩:=ry
 have hS2:s2.heap.SetOf (strKind X.prog X.w) a S2 n2:=(I2.hok a _ e2).1
 refine call_set_add (strKind_is X.prog X.w z t) rfl hS2 hn fun h' hs hS3=>⟨.non,_,?_,rfl,q2⟩
 refine I2.write (x:=a) (e:=a) (by rw [e2]; exact True.intro) (.inl rfl) (fun b q hb z=>(hs.2 b hb).trans z) (let ⟨o,_,_,_,h1,_⟩:=hS3; ⟨o,h1⟩) (setO_ok hS3)
def tMethP (Cs:Addr->Prop) (m:Str) (sp:Sp) (E:XK) (ta:TE):TE:=fun σ H Q=>ta σ H fun x H1=>∃ a C dx fs,x = .ref a/\Cs C/\H1 a = some (.ins C dx fs)/\fs.lookup m = none/\sp [x] H1 Q E
theorem pe_methP {CX:CXT} {k:Nat} {f:Addr} {fd:FuncData} {ps:List Str} {sp:Sp} {E:XK} {m:Str} {pos apos:Pos} {o:Expr} {ta:TE} {Cs:Addr->Prop} {pl:Sem Bool} (he:PE X o ta) (hC:∀ C,Cs C->Cls X.K C/\Meth X.K C m f) (F:FnOk X.prog X.w X.K X.mg X.base CX k f fd ps sp) (hr:Room k X.A) (hb:Binds X.K fd ps []) (hx:Passes CX X E)
  (ht:eval (.Call (.Attribute o m apos) [] [] pos) X.env = (do
   let ov <- eval o X.env
   standAt apos.atName
   let (f,first) <- holding [ov] (getMethod ov m pl)
   callWith pos f first (backTo pos (starEach [] X.env)) (backToKw pos (keywordEach [] X.env))):=by rfl) :
  PE X (.Call (.Attribute o m apos) [] [] pos) (tMethP Cs m sp E ta):=by
 refine ⟨?_⟩
 intro pins s σ H Q I h
 refine PySem.W.methodCall_KW (pl:=pl) (thn (he pins s σ H _ I h) fun u s1 ⟨x,H1,I1,rx,a,C,dx,fs,ex,hc,ea,l,q⟩=>?_) ht
 subst ex
 obtain rfl:u = Value.ref a:=rx
 obtain ⟨c,hm⟩:=hC C hc
 refine getmeth_ok I1 ea c hm l ?_
 exact PySem.W.callWith_K0 (first:=[.ref a]) I1.kIn hm.kp (run_fn (us:=[.ref a]) (vs:=[.ref a]) F hr hb .nil hx I1 (.cons rfl .nil) q)
structure KTab (w:World) (K:PySem.W.Frag) (a:Addr) (f:Str->Option V):Prop where
 obj:∃ es n,K.lookup a = some ⟨.type "dict",none,.dict es n,#[]⟩/\PySem.W.KeysLit w.params es.toList
 vals:∀ x v,f x = some v->∃ u,PySem.W.nsIn K a x = some (some u)/\RelV v u
theorem pe_kget {e:Expr} {d:Str} {p pos:Pos} {a:Addr} {f:Str->Option V} {te:TE} (T:KTab X.w X.K a f) (hm:X.mg d = some (.ref a)) (he:PE X e te) (hg:Gl X d:=by rfl) (hs:NoSl e:=by first | exact fun _ _=>rfl | decide | rfl) (hdb:(d == ("__debug__" : Str)) = false:=by decide) :
  PE X (.Subscript (.Name d p) e pos) (fun σ H Q=>te σ H fun y H1=>∃ x v,y = .str x/\f x = some v/\Q v H1):=by
 refine ⟨?_⟩
 intro pins s σ H Q I h
 obtain ⟨es,n,hl,hk⟩:=T.obj
 refine subD_of PySem.F.slot_dict_getitem.lookup hs (ld_glob I hg hm (thn (he pins s σ H _ I h) fun iv s2 ⟨y,H2,I2,ry,x,v,ey,ef,q2⟩=>?_) hdb)
 subst ey
 obtain ⟨t,rfl⟩:=ry
 obtain ⟨u,eu,ru⟩:=T.vals x v ef
 have hmap:=PySem.W.mapOf_K (prog:=X.prog) (w:=X.w) I2.kIn hl hk
 exact ⟨hmap.typeIs,wpAny_getItem_of (strKind_is X.prog X.w x t) hmap (PySem.W.find_K hl eu) ⟨v,H2,I2.tok _,ru,q2⟩⟩
end
section
variable {X:Cx} {pins:List (Addr × Obj)} {σ : St} {H:Hp} {s:Shared} {sc:Scope} {fr Nc:List Str} {fp:List Addr} {C:Addr}
theorem comp_startO {caps:List (Option Nat)} {h':Heap} {D:Addr} {m:Str->Option Value} {t':Nat} {o0:HO} (I:Inv X pins σ H s) (B:BlockOk X.env sc fr) (hf:∀ b ∈ fp,FpOk X pins H b) (ho:∀ b ∈ fp,∃ o,s.heap.get? b = some o)
  (hC:s.heap.objs.size<=C) (hD:s.heap.objs.size<=D) (hDC:D ≠ C) (keep:∀ b o,s.heap.get? b = some o->h'.get? b = some o) (new:ObjOk X.prog X.w (upd H D o0) h' D o0) (hn:h'.Ns C m)
  (hcap:capChk X.N Nc caps X.env sc fr = true) (hlen:caps.length = Nc.length) :
  Inv (compCx X pins sc fr Nc fp s H C) [] (capS caps σ) (upd H D o0) { s with heap:=h',toks:=t' }:=by
 have hk:X.env.scope.kind = .function:=I.ok.kind
 have fresh:∀ a,s.heap.objs.size<=a->H a = none:=fun a ha=>I.hok.fresh ha
 refine ⟨comp_ok I B hf ho hC,rfl,I.bare,Un.laid keep hD (fresh D hD),⟨m,hn,fun i x v e1 e2 e3=>?_⟩,fun x c h=>?_,?_,fun x c h=>?_,fun p hp=>?_,?_,?_⟩
 ·
  have e2':(caps[i]?).map (fun o=>match o with | none=>none | some j=>(σ[j]?).join) = some (some v):=by
   have:(capS caps σ)[i]? = some (some v):=e2
   unfold capS at this
   rw [List.getElem?_map] at this
   exact this
  cases hc:caps[i]? with
  | none=>rw [hc] at e2'; cases e2'
  | some o=>
   rw [hc] at e2'
   cases o with
   | none=>simp at e2'
   | some j=>
    have e4:(σ[j]?).join = some v:=by simpa using e2'
    have e5 : σ[j]? = some (some v):=by
     cases q : σ[j]? with
     | none=>rw [q] at e4; cases e4
     | some w'=>rw [q] at e4; simp at e4; rw [e4]
    have e6:(Nc.zip caps)[i]? = some (x,some j):=by
     rw [List.getElem?_zip_eq_some]
     exact ⟨e1,hc⟩
    have e7:=List.all_eq_true.mp hcap _ (List.mem_of_getElem? e6)
    simp only [Bool.and_eq_true,beq_iff_eq,List.contains_iff_mem] at e7
    obtain ⟨⟨⟨a1,a2⟩,a3⟩,a4⟩:=e7
    obtain ⟨m0,hn0,hl0⟩:=I.loc
    obtain ⟨u,r,l⟩:=hl0 j x v a1 e5 (.inr (.inl a2))
    refine ⟨u,r,.inr ⟨.inl (relabel_free hk a3 a2),_,clB_in a4,?_⟩⟩
    rcases l with ⟨z,_⟩ | ⟨_,c,ec,hcell⟩
    ·rw [a2] at z; cases z
    ·have:(X.env.cells.lookup x).getD 0 = c:=by rw [ec]; rfl
     rw [this]
     exact hcell.keeps keep
 ·obtain ⟨v,hv⟩:=I.cell x c (B.sub h)
  exact ⟨v,hv.keeps keep⟩
 ·show upd H D o0 C = none
  rw [upd_ne (Ne.symm hDC)]; exact fresh C hC
 ·obtain ⟨v,hv⟩:=I.cell x c (B.sub h)
  have:c ≠ D:=fun z=>by have:=hv.lt; rw [z] at this; exact absurd (Nat.lt_of_lt_of_le this hD) (Nat.lt_irrefl _)
  rw [upd_ne this]; exact I.freeC x c (B.sub h)
 ·have hp':p ∈ X.pn ++ pins:=by simpa using hp
  obtain ⟨e,n,ne,nf,d⟩:=I.pin p hp'
  have hlt:=I.pin_lt hp'
  refine ⟨keep _ _ e,?_,?_,fun z=>?_,d⟩
  ·rw [upd_ne (fun z=>by rw [z] at hlt; exact absurd (Nat.lt_of_lt_of_le hlt hD) (Nat.lt_irrefl _))]; exact n
  ·intro z
   have z':p.1 = C:=z
   rw [z'] at hlt; exact absurd (Nat.lt_of_lt_of_le hlt hC) (Nat.lt_irrefl _)
  ·rcases List.mem_cons.mp (I.stkSub p.1 z) with q | q
   ·exact ne q
   ·exact nf q
 ·exact I.hok.laid keep hD new
 ·show (capS caps σ).length = Nc.length
  unfold capS
  rw [List.length_map,hlen]
end
section
variable {prog:Program} {w:World} {A:Around} {R:Result->Shared->Prop} {s:Shared}
theorem compLoop_anyD {kx vx target iter:Expr} {ifs:List Expr} {scope:Scope} {pos:Pos} {it:Value} {D:Addr} {env:Env} (I:Nat->Shared->Prop)
  (turn:∀ n s,I n s->wpAny (model prog w) A (pyNext it) (fun r s₁=>match r with
   | none=>R (.ok .next) s₁
   | some v=>wpAny (model prog w) A (letOwnedTupleGo target it v) (fun _ s₀=>wpAny (model prog w) A (assign target env v) (fun _ s₂=>
     wpAny (model prog w) A (forIn ifs true fun c r=>if r = true then do let ok <- isTrue c env (eval c env); pure (ForInStep.yield ok) else pure (ForInStep.yield r)) (fun ok s₃=>
      if ok = true then wpAny (model prog w) A (eval kx env) (fun kv s₄=>wpAny (model prog w) A (eval vx env) (fun vv s₅=>
       wpAny (model prog w) A (dictSet D kv vv) (fun _ s₆=>∃ m,m < n/\I m s₆) (fun _ _=>False) s₅) (fun _ _=>False) s₄) (fun _ _=>False) s₃
      else ∃ m,m < n/\I m s₃) (fun _ _=>False) s₂) (fun _ _=>False) s₀) (fun _ _=>False) s₁) (fun _ _=>False) s)
  (n:Nat) (h:I n s) :
  codeAny (model prog w) A (.compLoop (.DictComp kx vx [⟨target,iter,ifs,0⟩] scope pos) 0 it (.ref D) env) R s:=by
 refine codeAny_loop rfl I (fun n s hI=>?_) n h
 show wpAny _ A ((compTurn (.DictComp kx vx [⟨target,iter,ifs,0⟩] scope pos) 0 it (.ref D) env).onRaise (fun x=>do noteFrame x env; theTreesLotGoes x)) _ _ s
 refine wpAny_noted ?_
 rw [compTurn_dict]
 refine wpAny_bind (wpAny_standAt (wpAny_bind (wpAny_mono (turn n s hI) (fun r s₁ h₁=>?_) fun _ _ z=>z.elim)))
 cases r with
 | none=>exact wpAny_pure h₁
 | some v=>
  refine wpAny_bind (wpAny_mono h₁ (fun _ s₀ h₀=>?_) fun _ _ z=>z.elim)
  refine wpAny_bind (wpAny_mono h₀ (fun _ s₂ h₂=>wpAny_bind (wpAny_mono h₂ (fun ok s₃ h₃=>?_) fun _ _ z=>z.elim)) fun _ _ z=>z.elim)
  cases ok with
  | false=>exact wpAny_pure ⟨rfl,h₃⟩
  | true=>
   exact wpAny_bind (wpAny_bind (wpAny_mono h₃ (fun kv s₄ h₄=>wpAny_bind (wpAny_holding (wpAny_mono h₄ (fun vv s₅ h₅=>wpAny_bind (wpAny_standAt (wpAny_holding (wpAny_mono h₅ (fun _ s₆ h₆=>wpAny_pure ⟨rfl,h₆⟩) fun _ _ z=>z.elim)))) fun _ _ z=>z.elim))) fun _ _ z=>z.elim))
end
def DCr (J:It) (caps:List (Option Nat)) (g:TG) (tt:TT) (tk tv:TE) (σ : St) (H1:Hp) (Q:VK) (D:Addr):Prop:=
 ∃ W:Nat->Nat->List (Key × V)->Hp->Prop,(∃ m,W 0 m [] (upd H1 D (.dK [])))/\∀ i m ys H,W i m ys H->
  (J.stop i H/\Q (.ref D) H)\/
  (J.go i H/\∀ x H',J.yld i H x H'->g x (capS caps σ) H' fun σ2 H2=>tt σ2 H2 fun ok H3=>
   (ok = true->tk σ2 H3 fun y H4=>tv σ2 H4 fun v H5=>∃ k,y = kV k/\H5 D = some (.dK ys)/\ys.length < sizeLine/\∃ m',m' < m/\W (i + 1) m' (putK ys k v) (upd H5 D (.dK (putK ys k v))))/\
   (ok = false->∃ m',m' < m/\W (i + 1) m' ys H3))
def tDC (wi:TI) (caps:List (Option Nat)) (g:TG) (tt:TT) (tk tv:TE):TE:=fun σ H Q=>wi σ H fun J H1=>∀ D,H1 D = none->DCr J caps g tt tk tv σ H1 Q D
section
variable {X:Cx} {pins:List (Addr × Obj)} {σ : St} {s:Shared} {sc:Scope} {fr Nc:List Str} {caps:List (Option Nat)} {kx vx tg iter:Expr} {ifs:List Expr} {g:TG} {tt:TT} {tk tv:TE} {ow:List Nat} {pos pos2:Pos} {E:Value->Shared->Prop}
theorem sysLt {H:Hp} (I:Inv X pins σ H s):sysModules < s.heap.objs.size:=I.big
theorem comp_runD {H2:Hp} {it:Addr} {fp:List Addr} {tn:Nat->Heap->Prop} {J:It} {Q:VK} {RR:Value->Addr->Result->Shared->Prop}
  (hc:X.calm = true) (B:BlockOk X.env sc fr) (go:GOwn g ow) (how:(ow.all fun i=>caps[i]? == some none) = true) (hcap:capChk X.N Nc caps X.env sc fr = true) (hlen:caps.length = Nc.length)
  (hb:∀ (pins:List (Addr × Obj)) (fp:List Addr) (s:Shared) (H:Hp) (C:Addr),PG (compCx X pins sc fr Nc fp s H C) tg g/\PIf (compCx X pins sc fr Nc fp s H C) ifs tt/\PE (compCx X pins sc fr Nc fp s H C) kx tk/\PE (compCx X pins sc fr Nc fp s H C) vx tv)
  (I2:Inv X pins σ H2 s) (T:Turn X.prog X.w X.K tg J fp it tn) (st2:tn 0 s.heap) (f2:∀ b ∈ fp,FpOk X pins H2 b) (h:∀ D,H2 D = none->DCr J caps g tt tk tv σ H2 Q D)
  (fin:∀ (D C:Addr) (σ':St) (H':Hp) (s':Shared),Inv (compCx X pins sc fr Nc fp s H2 C) [] σ' H' s'->Q (.ref D) H'->RR (.ref D) C (.ok .next) s') :
  wpAny (model X.prog X.w) X.A newDict (fun acc s₃=>wpAny (model X.prog X.w) X.A (newFunctionEnv sc X.env.globals (clB X.env fr) [] X.env.qual none .none (some X.env)) (fun cenv s₄=>
   codeAny (model X.prog X.w) X.A (.compStart (.DictComp kx vx [⟨tg,iter,ifs,0⟩] sc pos) 0 (.ref it) acc { cenv with scope:=relabel sc X.env }) (RR acc cenv.locals) s₄) E s₃) E s:=by
 have hcell:∀ y ∈ sc.names,y.2 ≠ .cell:=fun y hy=>by
  have h3:=List.all_eq_true.mp B.names _ hy
  simp only [Bool.and_eq_true,bne_iff_ne,ne_eq] at h3
  exact h3.1.1
 refine wpAny_newObj_type (wpAny_newFunctionEnv hcell (by intro y hy; simp at hy) (fun h₁ hns₁ hsb₁=>?_) B.kind)
 dsimp only at hns₁ hsb₁ |-
 have hnew:(s.heap.push { cls:=.type "dict",dict:=none,data:=.dict #[] }).DictOf (mixKind X.prog X.w) s.heap.objs.size []:=Heap.DictOf.new s.heap
 generalize hH2:s.heap.push { cls:=.type "dict",dict:=none,data:=.dict #[] } = H3 at hns₁ hsb₁ hnew |-
 have hCs:H3.objs.size = s.heap.objs.size + 1:=by rw [<- hH2,Heap.size_push]
 have hDC:s.heap.objs.size ≠ H3.objs.size:=by rw [hCs]; exact Nat.ne_of_lt (Nat.lt_succ_self _)
 have hC:s.heap.objs.size<=H3.objs.size:=by rw [hCs]; exact Nat.le_succ _
 have old:∀ b o,s.heap.get? b = some o->h₁.get? b = some o:=fun b o e=>
  hsb₁.extBut b o (Nat.ne_of_lt (Nat.lt_of_lt_of_le (Heap.lt_size e) hC)) (Heap.get?_push_of_some _ (hH2 ▸ Heap.get?_push_of_some _ e))
 have hsm:sysModules < s.heap.objs.size:=sysLt I2
 have hD:h₁.DictOf (mixKind X.prog X.w) s.heap.objs.size []:=hnew.at fun o e=>hsb₁.extBut _ _ hDC (Heap.get?_push_of_some _ e)
 have hDo:∀ H',ObjOk X.prog X.w H' h₁ s.heap.objs.size (.dK []):=fun _=>⟨Nat.zero_le _,beq_eq_false_iff_ne.mpr (Ne.symm (Nat.ne_of_lt hsm)),[],.nil,hD⟩
 have ho:∀ b ∈ fp,∃ o,s.heap.get? b = some o:=fun b hb'=>let ⟨o,e,_⟩:=T.obj 0 _ st2 b hb'; ⟨o,e⟩
 have I4:∀ t',Inv (compCx X pins sc fr Nc fp s H2 H3.objs.size) [] (capS caps σ) (upd H2 s.heap.objs.size (.dK [])) { s with heap:=h₁,toks:=t' }:=fun t'=>
  comp_startO I2 B f2 ho hC (Nat.le_refl _) hDC old (hDo _) hns₁ hcap hlen
 have ok:=(I4 0).ok
 obtain ⟨hbg,hbt,hbk,hbv⟩:=hb pins fp s H2 H3.objs.size
 obtain ⟨W,⟨m0,w0⟩,turn⟩:=h s.heap.objs.size (I2.hok.fresh (Nat.le_refl _))
 have stat:∀ {H':Hp},(∀ b ∈ fp,H' b = none)->∀ b ∈ fp,FpOk (compCx X pins sc fr Nc fp s H2 H3.objs.size) [] H' b:=fun hn b hb'=>
  ⟨hn b hb',(ok.exf b hb').1,ok.exfs b hb',.inl hb',(ok.exf b hb').2,fun p hp=>(f2 b hb').2.2.2.2.2 p (by simpa using hp)⟩
 have hfp0:∀ b ∈ fp,upd H2 s.heap.objs.size (.dK []) b = none:=fun b hb'=>by
  obtain ⟨o,e⟩:=ho b hb'
  rw [upd_ne (Nat.ne_of_lt (Heap.lt_size e))]
  exact (f2 b hb').1
 have loop:∀ s₃:Shared,s₃ = { s with heap:=h₁,toks:=s.toks + ([]:List (Str × Value)).length }->
   codeAny (model X.prog X.w) X.A (.compLoop (.DictComp kx vx [⟨tg,iter,ifs,0⟩] sc pos) 0 (.ref it) (.ref s.heap.objs.size) (compEnvC sc (clB X.env fr) H3.objs.size X.env)) (RR (.ref s.heap.objs.size) H3.objs.size) s₃:=by
  rintro s₃ rfl
  refine compLoop_anyD (fun n s'=>∃ i σ' H' ys,Inv (compCx X pins sc fr Nc fp s H2 H3.objs.size) [] σ' H' s'/\tn i s'.heap/\(∀ b ∈ fp,H' b = none)/\W i n ys H'/\
   (∀ (k:Nat) (v:V),(capS caps σ)[k]? = some (some v)->σ'[k]? = some (some v))) ?_ m0
   ⟨0,_,_,[],I4 _,T.keep _ _ _ st2 (fun b _ o e=>old b o e),hfp0,w0,fun _ _ e=>e⟩
  rintro n s3 ⟨i,σ3,H4,ys,I3,st3,fr3,w3,wk3⟩
  have I3':Inv (compCx X pins sc fr Nc fp s H2 H3.objs.size) [] (capS caps σ) H4 s3:=I3.weak (by rw [I3.len]; exact (I4 0).len) wk3
  rcases turn i n ys H4 w3 with ⟨stop,qn⟩ | ⟨gg,step⟩
  ·refine thn (T.done (compCx X pins sc fr Nc fp s H2 H3.objs.size) rfl rfl rfl hc i [] s3 _ H4 (fun _ _=>False) I3' (stat fr3) st3 stop) fun r s4 ⟨hr,I4'⟩=>?_
   subst hr
   exact fin _ _ _ _ _ I4' qn
  ·refine thn (T.item (compCx X pins sc fr Nc fp s H2 H3.objs.size) rfl rfl rfl hc i [] s3 _ H4 (fun _ _=>False) I3' (stat fr3) st3 gg) fun r s4 ⟨u,hr,h4⟩=>?_
   subst hr
   refine thn h4 fun _ s5 ⟨x,H5,I5,r5,y5,st5,fr5⟩=>?_
   have I5':=I5.pinned (stat fr5) (T.obj _ _ st5)
   refine thn (hbg _ s5 _ H5 x u _ I5' r5 (go _ _ _ _ (step x H5 y5))) fun _ s6 ⟨σ6,H6,I6,q6,l6,k6⟩=>?_
   have wk6:∀ (k:Nat) (v:V),(capS caps σ)[k]? = some (some v)->σ6[k]? = some (some v):=fun k v e=>by
    rw [k6 k fun hk=>?_]
    ·exact e
    ·have h1:=List.all_eq_true.mp how k hk
     have h2:caps[k]? = some none:=by simpa using h1
     unfold capS at e
     rw [List.getElem?_map,h2] at e
     cases e
   refine thn (hbt _ s6 σ6 H6 _ I6 q6) fun ok s7 ⟨H7,I7,q7⟩=>?_
   have again:∀ {H8:Hp} {s8:Shared} {ys':List (Key × V)},Inv (compCx X pins sc fr Nc fp s H2 H3.objs.size) ([] ++ pinsAt fp s5.heap) σ6 H8 s8->(∃ m',m' < n/\W (i + 1) m' ys' H8)->
     ∃ m,m < n/\∃ i σ' H' ys,Inv (compCx X pins sc fr Nc fp s H2 H3.objs.size) [] σ' H' s8/\tn i s8.heap/\(∀ b ∈ fp,H' b = none)/\W i m ys H'/\(∀ (k:Nat) (v:V),(capS caps σ)[k]? = some (some v)->σ'[k]? = some (some v)):=fun {H8 s8 ys'} I8 ⟨m',hm,w8⟩=>by
    refine ⟨m',hm,i + 1,σ6,H8,ys',I8.unpinned,T.keep _ _ _ st5 fun b hb' o e=>(I8.pin (b,o) (List.mem_append_right _ (List.mem_append_right _ (mem_pinsAt hb' e)))).1,fun b hb'=>?_,w8,wk6⟩
    obtain ⟨o,e,d⟩:=T.obj _ _ st5 b hb'
    exact (I8.pin (b,o) (List.mem_append_right _ (List.mem_append_right _ (mem_pinsAt hb' e)))).2.1
   cases ok with
   | false=>
    rw [if_neg Bool.false_ne_true]
    exact again I7 (q7.2 rfl)
   | true=>
    rw [if_pos rfl]
    refine thn (hbk _ s7 σ6 H7 _ I7 (q7.1 rfl)) fun uk s8 ⟨y,H8,I8,r8,q8⟩=>?_
    refine thn (hbv _ s8 σ6 H8 _ I8 q8) fun uv s9 ⟨v,H9,I9,r9,k,ey,hD9,hz,q9⟩=>?_
    subst ey
    obtain ⟨z,hd,vs,rel,dd⟩:=dk_of I9.hok hD9
    have hzs:vs.length<=sizeLine:=by rw [<- rel.length]; exact z
    have hl:(putK ys k v).length<=sizeLine:=by have:=length_putK ys k v; omega
    refine wpAny_dictSet_pairs (hsz:=hzs) (kV_is r8) dd fun h' dd' hs=>?_
    have he:∃ q,h'.get? s.heap.objs.size = some q:=let ⟨q,_,_,hq,_⟩:=dd'; ⟨q,hq⟩
    exact again (d_write I9 (by rw [hD9]; exact True.intro) hs he (dk_new hl hd (rel.put k r9) dd')) q9
 exact codeAny_compStart_dict (loop _ rfl) (T.self _ 0 _ _ _ (T.keep _ _ _ st2 (fun b _ o e=>old b o e)) (loop _ rfl))
theorem pe_dc {wi:TI} (fr Nc:List Str) (caps:List (Option Nat)) (hc:X.calm = true) (B:BlockOk X.env sc fr) (hi:PI X tg iter wi) (go:GOwn g ow) (how:(ow.all fun i=>caps[i]? == some none) = true)
  (hcap:capChk X.N Nc caps X.env sc fr = true) (hlen:caps.length = Nc.length)
  (hb:∀ (pins:List (Addr × Obj)) (fp:List Addr) (s:Shared) (H:Hp) (C:Addr),PG (compCx X pins sc fr Nc fp s H C) tg g/\PIf (compCx X pins sc fr Nc fp s H C) ifs tt/\PE (compCx X pins sc fr Nc fp s H C) kx tk/\PE (compCx X pins sc fr Nc fp s H C) vx tv)
  (hs:∀ x,foldedSetIterable iter X.env x = pure x:=by intro _; rfl):PE X (.DictComp kx vx [⟨tg,iter,ifs,0⟩] sc pos) (tDC wi caps g tt tk tv):=by
 refine ⟨?_⟩
 intro pins s σ H Q I h
 rw [arm_eval_DictComp]
 refine wpAny_comprehension_free (use:=none) rfl hs B.clos B.kind B.loc (thn (hi pins s σ H _ I h) fun v s1 h1=>thn h1 fun itv s2 h2=>?_)
 obtain ⟨it,fp,tn,J,H2,e,I2,T,st2,f2,q⟩:=h2
 subst e
 refine comp_runD (RR:=fun acc C=>compPost (model X.prog X.w) X.A X.xe none (EP X pins σ Q) acc C) hc B go how hcap hlen hb I2 T st2 f2 q ?_
 intro D C σ' H' s' J' qq
 obtain ⟨m,hn,_⟩:=J'.loc
 exact ⟨m,hn,fun h' hs'=>⟨.ref D,H',comp_gone I2 J' (comp_back I2 f2 J') hs',rfl,qq⟩⟩
end
def eqT (xs ys:List V):Bool:=((List.range (min xs.length ys.length)).all fun j=>eqV (xs[j]?.getD .non) (ys[j]?.getD .non)) && xs.length == ys.length
end L2
namespace K81
open PySem L2 PyProof.Rows
def top (i:Nat):Stmt:=PySem.Challenge.pw_callbinds_k81_rows.main.body.getD i (.Pass ⟨0,0,0,0⟩)
abbrev sIs:Stmt:=top 25
abbrev sPInit:Stmt:=inClass (top 41) 0
abbrev sFree:Stmt:=inClass (top 41) 1
abbrev sByPlace:Stmt:=inClass (top 41) 2
abbrev sByName:Stmt:=inClass (top 41) 3
abbrev sTakes:Stmt:=inClass (top 41) 4
abbrev sTold:Stmt:=inClass (top 41) 5
abbrev sSeat:Stmt:=inClass (top 42) 0
abbrev sBoth:Stmt:=inClass (top 43) 0
abbrev sTail:Stmt:=inClass (top 44) 0
abbrev sTag:Stmt:=inClass (top 45) 0
abbrev sBag:Stmt:=inClass (top 46) 0
abbrev sFInit:Stmt:=inClass (top 31) 0
abbrev sKeep:Stmt:=inClass (top 31) 1
abbrev sFPars:Stmt:=inClass (top 31) 2
abbrev sFBars:Stmt:=inClass (top 31) 3
abbrev sFPlaces:Stmt:=inClass (top 31) 4
abbrev sFTail:Stmt:=inClass (top 31) 5
abbrev sFBag:Stmt:=inClass (top 31) 6
abbrev sFNum:Stmt:=inClass (top 31) 7
abbrev sFTold:Stmt:=inClass (top 31) 8
abbrev sPof:Stmt:=top 47
abbrev sRMany:Stmt:=top 32
abbrev sROrder:Stmt:=top 33
abbrev sRBars:Stmt:=top 34
abbrev sRTwice:Stmt:=top 35
abbrev sNumW:Stmt:=top 36
abbrev sTable:Stmt:=top 1
abbrev sRowOf:Stmt:=top 2
abbrev sDoors:Stmt:=top 3
abbrev sLaid:Stmt:=top 5
abbrev sMisfits:Stmt:=top 13
abbrev sFits:Stmt:=top 14
abbrev sShape:Stmt:=top 15
abbrev sFirsts:Stmt:=top 16
abbrev sMOf:Stmt:=top 17
abbrev sOvers:Stmt:=top 18
abbrev sUnw:Stmt:=top 19
abbrev sLack:Stmt:=top 20
abbrev sOneE:Stmt:=top 21
abbrev sNth:Stmt:=top 49
abbrev sStir:Stmt:=top 50
abbrev sPool:Stmt:=top 51
abbrev sRow:Stmt:=top 52
abbrev sBars:Stmt:=top 53
abbrev sForm:Stmt:=top 54
abbrev sLTakes:Stmt:=top 55
abbrev sIsNames:Stmt:=top 56
abbrev sMay:Stmt:=top 57
abbrev sRight:Stmt:=top 58
abbrev sCopied:Stmt:=top 59
abbrev sLaw:Stmt:=top 60
def low (c:Nat):Bool:=decide (97<=c) && decide (c<=122)
def nameB (z:Str):Bool:=decide (1<=z.length) && decide (z.length<=8) && z.cps.toList.all low
def nmV:V->Bool
 | .str z=>nameB z
 | _=>false
def OkS (z:Str):Prop:=z.length<=1000/\∀ c ∈ z.cps.toList,c < 128
def OkV (K:PySem.W.Frag) (H:Hp) (x:V):Prop:=(∃ z,x = .str z/\OkS z)\/(nmV x = false/\∃ t,TyOf K H x t/\PySem.W.kitOne K t (.type "str") = some false)
theorem nameB_iff {z:Str}:nameB z = true ↔ 1<=z.length/\z.length<=8/\∀ c ∈ z.cps.toList,97<=c/\c<=122:=by
 unfold nameB low
 simp only [Bool.and_eq_true,decide_eq_true_eq,List.all_eq_true]
 constructor
 ·rintro ⟨⟨a,b⟩,c⟩; exact ⟨a,b,c⟩
 ·rintro ⟨a,b,c⟩; exact ⟨⟨a,b⟩,c⟩
theorem nameB_long {z:Str} (h:z.length = 0\/9<=z.length):nameB z = false:=by
 cases e:nameB z with
 | false=>rfl
 | true=>
  have:=nameB_iff.mp e
  omega
theorem nameB_ok {z:Str} (h:nameB z = true):OkS z:=by
 obtain ⟨_,h2,h3⟩:=nameB_iff.mp h
 exact ⟨by omega,fun c hc=>by have:=h3 c hc; omega⟩
def letters:Str:="abcdefghijklmnopqrstuvwxyz"
theorem letters_in:∀ c:Nat,c < 128->(!(Builtin.Str.occurrences letters ⟨#[c]⟩ 0 letters.length 1).isEmpty) = low c:=by decide +kernel
theorem same_new {H:Hp} {p:Addr} (h:H p = none) (o:HO):Same H (upd H p o):=fun b u q=>by rw [upd_ne (ne_of_none q h)]; exact q
theorem tyOf_same {K:PySem.W.Frag} {H H':Hp} {x:V} {t:Value} (s:Same H H') (h:TyOf K H x t):TyOf K H' x t:=by
 cases h with
 | non=>exact .non
 | bl b=>exact .bl b
 | int i=>exact .int i
 | str z=>exact .str z
 | flt z=>exact .flt z
 | lst e=>exact .lst (s _ _ e)
 | frz e=>exact .frz (s _ _ e)
 | tup e=>exact .tup (s _ _ e)
 | dK e=>exact .dK (s _ _ e)
 | dT e=>exact .dT (s _ _ e)
 | ins e a b c d f=>exact .ins (s _ _ e) a b c d f
theorem OkV.same {K:PySem.W.Frag} {H H':Hp} {x:V} (s:Same H H') (h:OkV K H x):OkV K H' x:=by
 rcases h with h | ⟨h,t,ty,e⟩
 ·exact .inl h
 ·exact .inr ⟨h,t,tyOf_same s ty,e⟩
theorem nd1:([Str.ofString "sign"]:List Str).Nodup:=by decide +kernel
def spIs (K:PySem.W.Frag):Sp:=fun vs H Q _=>∃ x,vs = [x]/\OkV K H x/\∀ H',Same H H'->Q (.bl (nmV x)) H'
structure Txt1 (K:PySem.W.Frag) (mg:Str->Option Value):Prop where
 isi:mg "isinstance" = none
 str:mg "str" = none
 bool:mg "bool" = none
 len:mg "len" = none
 all:mg "all" = none
 range:mg "range" = none
 letters:∃ t,mg "LETTERS" = some (.str letters t)
 longest:∃ t,mg "LONGEST" = some (.int 8 t)
 kNon:PySem.W.kitOne K (.type "NoneType") (.type "str") = some false
 kInt:PySem.W.kitOne K (.type "int") (.type "str") = some false
 kBl:PySem.W.kitOne K (.type "bool") (.type "str") = some false
 kLst:PySem.W.kitOne K (.type "list") (.type "str") = some false
 kTup:PySem.W.kitOne K (.type "tuple") (.type "str") = some false
 kDct:PySem.W.kitOne K (.type "dict") (.type "str") = some false
 kStr:PySem.W.kitOne K (.type "str") (.type "str") = some true
 bBl:PySem.W.kitOne K (.type "bool") (.type "bool") = some true
section
variable {P:Program} {w:World} {K:PySem.W.Frag} {mg:Str->Option Value} {base:Heap} {f:Addr} {fd:FuncData}
theorem scIs:FnScope ["thing"] ["thing"] (defScope sIs):=⟨rfl,rfl,rfl,by decide +kernel,rfl,by decide +kernel,by decide +kernel⟩
theorem ok_is (F:Fun K "is_name" "is_name" sIs f fd) (T:Txt1 K mg):FnOk P w K mg base CX0 1 f fd ["thing"] (spIs K):=by
 refine F.ok scIs (fun vs H Q E h=>?_) (fun cdv A outer s H vs Q E hr h=>?_)
 ·obtain ⟨x,rfl,_⟩:=h
  rfl
 obtain ⟨x,rfl,hx,q⟩:=h
 obtain ⟨tL,hL⟩:=T.letters
 obtain ⟨tN,hN⟩:=T.longest
 refine ⟨_,pss_cons (ps_if (PW.pt (pw_or (pt_not (pt_val (cB call_isinst T.isi boot_isinstance (ac (pv 0) (ac (pe_bltn (v:=.ty "str") rfl T.str PyProof.Rows.boot_str rfl) pa_nil)))))
   (pw_or1 (pt_not (pt_chain op_le op_le pe_int (cB call_len_str T.len PySem.boot_len (ac (pv 0) pa_nil)) (pe_glob (v:=.int 8) rfl hN ⟨_,rfl⟩))))))
   (pss_one (ps_ret pe_bl)) pss_nil)
  (pss_one (ps_ret (cB (call_allB rfl) T.all boot_all (ac (pe_lc [] ["sign"] [none] rfl ⟨rfl,rfl,rfl,rfl⟩ (pi_str (pv 0)) (gown_name 0) rfl rfl rfl
   (fun pins fp s H C=>⟨pg_name (i:=0) nd1 rfl (Or.inl rfl) (.inr rfl),pif_nil,pe_cmpR op_in_str (pv 0) (pe_glob (v:=.str letters) rfl hL ⟨_,rfl⟩) (by with_unfolding_all rfl)⟩)) pa_nil)))),?_⟩
 rcases hx with ⟨z,rfl,hz1,hz2⟩ | ⟨hn,t,ty,e⟩
 ·refine ⟨_,rfl,_,_,_,_,rfl,.str z,T.kStr,_,rfl,?_⟩
  refine iteF ?_
  refine ⟨_,rfl,z,rfl,Nat.le_trans hz1 (by decide),_,_,rfl,rfl,_,rfl,?_⟩
  have no:nameB z = false->Q (.bl false) H:=fun e=>by
   have:=q H (Same.refl H)
   have e':nmV (.str z) = false:=e
   rw [e'] at this
   exact this
  refine ite2 (fun c=>?_) (fun c=>?_)
  ·have c':(1:Int)<=(z.length:Int):=of_decide_eq_true c
   refine ⟨_,_,rfl,rfl,_,rfl,?_⟩
   by_cases h8:(z.length:Int)<=8
   ·rw [decide_eq_true h8]
    refine iteF ?_
    refine ⟨_,rfl,z,rfl,fun D hD=>?_⟩
    refine ⟨fun i m ys H'=>i<=z.cps.size/\m = z.cps.size - i/\ys = (z.cps.toList.take i).map (fun c=>V.bl (low c))/\H' = upd H D (.lst ys),⟨_,Nat.zero_le _,rfl,rfl,rfl⟩,?_⟩
    rintro i m ys H' ⟨hi,rfl,rfl,rfl⟩
    by_cases he:i = z.cps.size
    ·subst he
     refine .inl ⟨Nat.le_refl _,?_⟩
     refine ⟨D,z.cps.toList.map low,rfl,SqL.of ?_,?_⟩
     ·rw [upd_same,List.take_of_length_le (by simp),List.map_map]
      rfl
     ·have e:(z.cps.toList.map low).all id = nmV (.str z):=by
       show _ = nameB z
       unfold nameB
       rw [decide_eq_true (show 1<=z.length by omega),decide_eq_true (show z.length<=8 by omega),List.all_map]
       rfl
      rw [e]
      exact q _ (same_new hD _)
    ·refine .inr ⟨by show i < z.cps.size; omega,?_⟩
     rintro x H' ⟨rfl,c,hc,rfl⟩
     refine ⟨fun _=>?_,fun e=>Bool.noConfusion e⟩
     refine ⟨_,rfl,_,_,rfl,rfl,upd_same,?_,z.cps.size - (i + 1),by omega,by omega,rfl,?_,?_⟩
     ·rw [List.length_map,List.length_take]
      have:z.cps.size<=1000:=hz1
      exact small1000 (by omega)
     ·have hc':z.cps.toList[i]? = some c:=by simpa using hc
      have hlow:=letters_in c (hz2 c (List.mem_of_getElem? hc'))
      rw [hlow,List.take_add_one,hc',List.map_append]
      rfl
     ·rw [upd_upd]
   ·rw [decide_eq_false h8]
    refine iteT ?_
    exact no (nameB_long (.inr (by omega)))
  ·have c':¬ (1:Int)<=(z.length:Int):=of_decide_eq_false (Bool.eq_false_iff.mpr c)
   refine ⟨_,rfl,?_⟩
   exact iteT (no (nameB_long (.inl (by omega))))
 ·refine ⟨_,rfl,_,_,_,_,rfl,ty,e,_,rfl,?_⟩
  refine iteT ?_
  refine iteT ?_
  have:=q H (Same.refl H)
  rw [hn] at this
  exact this
end
theorem dT {A B:Prop} {c:Prop} [Decidable c] (h:c) (a:A):if decide c = true then A else B:=by rw [decide_eq_true h]; exact iteT a
theorem dF {A B:Prop} {c:Prop} [Decidable c] (h:¬ c) (b:B):if decide c = true then A else B:=by rw [decide_eq_false h]; exact iteF b
def kw:Nat->Str
 | 0=>"seat" | 1=>"both" | 2=>"tail" | 3=>"tag" | _=>"bag"
def rowV (k:Nat) (x:V) (b:Bool):List V:=match k with
 | 0=>[.str "seat",x,.bl b] | 1=>[.str "both",x,.bl b] | 2=>[.str "tail",x] | 3=>[.str "tag",x,.bl b] | _=>[.str "bag",x]
def fr (k:Nat) (b:Bool):Bool:=match k with
 | 0=>b | 1=>b | 2=>true | 3=>b | _=>true
theorem lt5 {k:Nat} (h:k < 5):k = 0\/k = 1\/k = 2\/k = 3\/k = 4:=by omega
def pf (wd:Str) (x:V) (b:Bool):List (Str × V):=putF "may_lack" (.bl b) (putF "name" x (putF "word" (.str wd) []))
theorem pf_word {wd:Str} {x:V} {b:Bool}:(pf wd x b).lookup ("word" : Str) = some (.str wd):=by
 unfold pf
 rw [lookup_putF,if_neg (by decide +kernel),lookup_putF,if_neg (by decide +kernel),lookup_putF,if_pos rfl]
theorem pf_name {wd:Str} {x:V} {b:Bool}:(pf wd x b).lookup ("name" : Str) = some x:=by
 unfold pf
 rw [lookup_putF,if_neg (by decide +kernel),lookup_putF,if_pos rfl]
theorem pf_lack {wd:Str} {x:V} {b:Bool}:(pf wd x b).lookup ("may_lack" : Str) = some (.bl b):=by
 unfold pf
 rw [lookup_putF,if_pos rfl]
theorem pf_no {wd:Str} {x:V} {b:Bool} {m:Str} (h1:¬ m = "may_lack") (h2:¬ m = "name") (h3:¬ m = "word"):(pf wd x b).lookup m = none:=by
 unfold pf
 rw [lookup_putF,if_neg h1,lookup_putF,if_neg h2,lookup_putF,if_neg h3]
 rfl
structure MA where
 (fF fP fB fT fO:Addr)
structure PC (K:PySem.W.Frag) (m:MA) (C:Addr):Prop where
 cl:Cls K C
 nW:NoAttr K C "word"
 nN:NoAttr K C "name"
 nM:NoAttr K C "may_lack"
 mF:Meth K C "free" m.fF
 mP:Meth K C "by_place" m.fP
 mB:Meth K C "by_name" m.fB
 mT:Meth K C "takes_one" m.fT
 mO:Meth K C "told" m.fO
def spP (K:PySem.W.Frag) (m:MA):Sp:=fun vs H Q _=>∃ (p dx C:Addr) (wd:Str) (x:V) (b:Bool),vs = [.ref p,.str wd,x,.bl b]/\H p = some (.ins C dx [])/\PC K m C/\OkV K H x/\nmV x = true/\∀ H1,Same H H1->Q .non (upd H1 p (.ins C dx (pf wd x b)))
def spS (K:PySem.W.Frag) (C:Addr) (wd:Str):Sp:=fun vs H Q _=>∃ (p dx:Addr) (x:V) (b:Bool),vs = [.ref p,x,.bl b]/\H p = some (.ins C dx [])/\OkV K H x/\nmV x = true/\∀ H1,Same H H1->Q .non (upd H1 p (.ins C dx (pf wd x b)))
def spT (K:PySem.W.Frag) (C:Addr) (wd:Str):Sp:=fun vs H Q _=>∃ (p dx:Addr) (x:V),vs = [.ref p,x]/\H p = some (.ins C dx [])/\OkV K H x/\nmV x = true/\∀ H1,Same H H1->Q .non (upd H1 p (.ins C dx (pf wd x true)))
def bpL:List V:=[.str "seat",.str "both"]
def bnL:List V:=[.str "both",.str "tag"]
def otL:List V:=[.str "seat",.str "both",.str "tag"]
def spFree (K:PySem.W.Frag) (m:MA):Sp:=fun vs H Q _=>∃ (p dx C:Addr) (wd:Str) (x:V) (b:Bool),vs = [.ref p]/\PC K m C/\H p = some (.ins C dx (pf wd x b))/\Q (.bl b) H
def spIn (K:PySem.W.Frag) (m:MA) (l:List V):Sp:=fun vs H Q _=>∃ (p dx C:Addr) (wd:Str) (x:V) (b:Bool),vs = [.ref p]/\PC K m C/\H p = some (.ins C dx (pf wd x b))/\Q (.bl (inV (.str wd) l)) H
def spTold (K:PySem.W.Frag) (m:MA):Sp:=fun vs H Q _=>∃ (p dx C:Addr) (k:Nat) (x:V) (b:Bool),vs = [.ref p]/\k < 5/\PC K m C/\H p = some (.ins C dx (pf (kw k) x (fr k b)))/\∀ (r:Addr) (H':Hp),Same H H'->H' r = some (.tup (rowV k x b))->Q (.ref r) H'
structure Wds (K:PySem.W.Frag) (mg:Str->Option Value) (tP tB tO:Addr):Prop where
 mP:mg "BY_PLACE" = some (.ref tP)
 mB:mg "BY_NAME" = some (.ref tB)
 mO:mg "OF_ONE_THING" = some (.ref tO)
 hP:∀ H,SqT K H tP bpL
 hB:∀ H,SqT K H tB bnL
 hO:∀ H,SqT K H tO otL
section
variable {P:Program} {w:World} {K:PySem.W.Frag} {mg:Str->Option Value} {base:Heap} {f C tP tB tO:Addr} {fd:FuncData} {m:MA}
theorem scPInit:FnScope ["self","word","name","may_lack"] ["self","word","name","may_lack"] (defScope sPInit):=⟨rfl,rfl,rfl,by decide +kernel,rfl,by decide +kernel,by decide +kernel⟩
theorem ok_pinit {g:Addr} {gd:FuncData} (F:Fun K "__init__" "Parameter.__init__" sPInit f fd) (cI:Callee P w K mg base 1 "is_name" g gd ["thing"] (spIs K)) :
  FnOk P w K mg base CX0 2 f fd ["self","word","name","may_lack"] (spP K m):=by
 refine F.ok scPInit (fun vs H Q E h=>?_) (fun cdv A outer s H vs Q E hr h=>?_)
 ·obtain ⟨p,dx,C,wd,x,b,rfl,_⟩:=h
  rfl
 obtain ⟨p,dx,C,wd,x,b,rfl,hp,c,hx,q1,q2⟩:=h
 refine ⟨_,pss_cons (ps_if (pt_not (pt_val (cF cI hr (ac (pv 2) pa_nil)))) (pss_one ps_dead) pss_nil)
  (pss_cons (ps_fld (pv 0) (pv 1) rfl) (pss_cons (ps_fld (pv 0) (pv 2) rfl) (pss_one (ps_fld (pv 0) (pv 3) rfl)))),?_⟩
 refine ⟨_,rfl,x,rfl,hx,fun H1 s1=>⟨_,rfl,?_⟩⟩
 rw [q1]
 refine iteF ?_
 refine ⟨_,rfl,_,rfl,p,C,dx,[],rfl,s1 _ _ hp,c.cl,c.nW,(by show 0 < 1000; decide),?_⟩
 refine ⟨_,rfl,_,rfl,p,C,dx,_,rfl,upd_same,c.cl,c.nN,(by show 1 < 1000; decide),?_⟩
 refine ⟨_,rfl,_,rfl,p,C,dx,_,rfl,upd_same,c.cl,c.nM,(by show 2 < 1000; decide),?_⟩
 rw [upd_upd,upd_upd]
 exact q2 _ s1
theorem scSeat:FnScope ["self","name","free"] ["self","name","free"] (defScope sSeat):=⟨rfl,rfl,rfl,by decide +kernel,rfl,by decide +kernel,by decide +kernel⟩
theorem ok_seat {g D:Addr} {gd:FuncData} {ds:List Value} (F:FunD K "__init__" "Seat.__init__" sSeat f fd ds) (c:PC K m C) (B:ClsFn K D "__init__" g) (mD:mg "Parameter" = some (.ref D)) (G:FnOk P w K mg base CX0 2 g gd ["self","word","name","may_lack"] (spP K m)) (bg:Binds K gd ["self","word","name","may_lack"] []) :
  FnOk P w K mg base CX0 3 f fd ["self","name","free"] (spS K C "seat"):=by
 refine F.ok scSeat (fun vs H Q E h=>?_) (fun cdv A outer s H vs Q E hr h=>?_)
 ·obtain ⟨p,dx,x,b,rfl,_⟩:=h
  rfl
 obtain ⟨p,dx,x,b,rfl,hp,hx,q1,q2⟩:=h
 refine ⟨_,pss_one (ps_expr (pe_cm B mD G hr bg pass0 (ac (pv 0) (ac pe_str (ac (pv 1) (ac (pv 2) pa_nil)))))),?_⟩
 exact ⟨_,rfl,_,rfl,_,rfl,p,dx,C,_,x,b,rfl,hp,c,hx,q1,q2⟩
theorem scBoth:FnScope ["self","name","free"] ["self","name","free"] (defScope sBoth):=⟨rfl,rfl,rfl,by decide +kernel,rfl,by decide +kernel,by decide +kernel⟩
theorem ok_both {g D:Addr} {gd:FuncData} {ds:List Value} (F:FunD K "__init__" "Both.__init__" sBoth f fd ds) (c:PC K m C) (B:ClsFn K D "__init__" g) (mD:mg "Parameter" = some (.ref D)) (G:FnOk P w K mg base CX0 2 g gd ["self","word","name","may_lack"] (spP K m)) (bg:Binds K gd ["self","word","name","may_lack"] []) :
  FnOk P w K mg base CX0 3 f fd ["self","name","free"] (spS K C "both"):=by
 refine F.ok scBoth (fun vs H Q E h=>?_) (fun cdv A outer s H vs Q E hr h=>?_)
 ·obtain ⟨p,dx,x,b,rfl,_⟩:=h
  rfl
 obtain ⟨p,dx,x,b,rfl,hp,hx,q1,q2⟩:=h
 refine ⟨_,pss_one (ps_expr (pe_cm B mD G hr bg pass0 (ac (pv 0) (ac pe_str (ac (pv 1) (ac (pv 2) pa_nil)))))),?_⟩
 exact ⟨_,rfl,_,rfl,_,rfl,p,dx,C,_,x,b,rfl,hp,c,hx,q1,q2⟩
theorem scTag:FnScope ["self","name","free"] ["self","name","free"] (defScope sTag):=⟨rfl,rfl,rfl,by decide +kernel,rfl,by decide +kernel,by decide +kernel⟩
theorem ok_tag {g D:Addr} {gd:FuncData} {ds:List Value} (F:FunD K "__init__" "Tag.__init__" sTag f fd ds) (c:PC K m C) (B:ClsFn K D "__init__" g) (mD:mg "Parameter" = some (.ref D)) (G:FnOk P w K mg base CX0 2 g gd ["self","word","name","may_lack"] (spP K m)) (bg:Binds K gd ["self","word","name","may_lack"] []) :
  FnOk P w K mg base CX0 3 f fd ["self","name","free"] (spS K C "tag"):=by
 refine F.ok scTag (fun vs H Q E h=>?_) (fun cdv A outer s H vs Q E hr h=>?_)
 ·obtain ⟨p,dx,x,b,rfl,_⟩:=h
  rfl
 obtain ⟨p,dx,x,b,rfl,hp,hx,q1,q2⟩:=h
 refine ⟨_,pss_one (ps_expr (pe_cm B mD G hr bg pass0 (ac (pv 0) (ac pe_str (ac (pv 1) (ac (pv 2) pa_nil)))))),?_⟩
 exact ⟨_,rfl,_,rfl,_,rfl,p,dx,C,_,x,b,rfl,hp,c,hx,q1,q2⟩
theorem scTail:FnScope ["self","name"] ["self","name"] (defScope sTail):=⟨rfl,rfl,rfl,by decide +kernel,rfl,by decide +kernel,by decide +kernel⟩
theorem ok_tail {g D:Addr} {gd:FuncData} (F:Fun K "__init__" "Tail.__init__" sTail f fd) (c:PC K m C) (B:ClsFn K D "__init__" g) (mD:mg "Parameter" = some (.ref D)) (G:FnOk P w K mg base CX0 2 g gd ["self","word","name","may_lack"] (spP K m)) (bg:Binds K gd ["self","word","name","may_lack"] []) :
  FnOk P w K mg base CX0 3 f fd ["self","name"] (spT K C "tail"):=by
 refine F.ok scTail (fun vs H Q E h=>?_) (fun cdv A outer s H vs Q E hr h=>?_)
 ·obtain ⟨p,dx,x,rfl,_⟩:=h
  rfl
 obtain ⟨p,dx,x,rfl,hp,hx,q1,q2⟩:=h
 refine ⟨_,pss_one (ps_expr (pe_cm B mD G hr bg pass0 (ac (pv 0) (ac pe_str (ac (pv 1) (ac pe_bl pa_nil)))))),?_⟩
 exact ⟨_,rfl,_,rfl,p,dx,C,_,x,true,rfl,hp,c,hx,q1,q2⟩
theorem scBag:FnScope ["self","name"] ["self","name"] (defScope sBag):=⟨rfl,rfl,rfl,by decide +kernel,rfl,by decide +kernel,by decide +kernel⟩
theorem ok_bag {g D:Addr} {gd:FuncData} (F:Fun K "__init__" "Bag.__init__" sBag f fd) (c:PC K m C) (B:ClsFn K D "__init__" g) (mD:mg "Parameter" = some (.ref D)) (G:FnOk P w K mg base CX0 2 g gd ["self","word","name","may_lack"] (spP K m)) (bg:Binds K gd ["self","word","name","may_lack"] []) :
  FnOk P w K mg base CX0 3 f fd ["self","name"] (spT K C "bag"):=by
 refine F.ok scBag (fun vs H Q E h=>?_) (fun cdv A outer s H vs Q E hr h=>?_)
 ·obtain ⟨p,dx,x,rfl,_⟩:=h
  rfl
 obtain ⟨p,dx,x,rfl,hp,hx,q1,q2⟩:=h
 refine ⟨_,pss_one (ps_expr (pe_cm B mD G hr bg pass0 (ac (pv 0) (ac pe_str (ac (pv 1) (ac pe_bl pa_nil)))))),?_⟩
 exact ⟨_,rfl,_,rfl,p,dx,C,_,x,true,rfl,hp,c,hx,q1,q2⟩
theorem scFree:FnScope ["self"] ["self"] (defScope sFree):=⟨rfl,rfl,rfl,by decide +kernel,rfl,by decide +kernel,by decide +kernel⟩
theorem ok_free (F:Fun K "free" "Parameter.free" sFree f fd):FnOk P w K mg base CX0 1 f fd ["self"] (spFree K m):=by
 refine F.ok scFree (fun vs H Q E h=>?_) (fun cdv A outer s H vs Q E hr h=>?_)
 ·obtain ⟨p,dx,C,wd,x,b,rfl,_⟩:=h
  rfl
 obtain ⟨p,dx,C,wd,x,b,rfl,c,hp,q⟩:=h
 refine ⟨_,pss_one (ps_ret (pe_fld (pv 0) rfl)),?_⟩
 exact ⟨_,rfl,p,C,dx,_,_,rfl,hp,c.cl,c.nM,pf_lack,q⟩
theorem scByPlace:FnScope ["self"] ["self"] (defScope sByPlace):=⟨rfl,rfl,rfl,by decide +kernel,rfl,by decide +kernel,by decide +kernel⟩
theorem ok_by_place (F:Fun K "by_place" "Parameter.by_place" sByPlace f fd) (Wd:Wds K mg tP tB tO):FnOk P w K mg base CX0 1 f fd ["self"] (spIn K m bpL):=by
 refine F.ok scByPlace (fun vs H Q E h=>?_) (fun cdv A outer s H vs Q E hr h=>?_)
 ·obtain ⟨p,dx,C,wd,x,b,rfl,_⟩:=h
  rfl
 obtain ⟨p,dx,C,wd,x,b,rfl,c,hp,q⟩:=h
 refine ⟨_,pss_one (ps_ret (pe_cmpR op_in_seq (pe_fld (pv 0) rfl) (pe_glob (v:=.ref tP) rfl Wd.mP rfl) (by with_unfolding_all rfl))),?_⟩
 exact ⟨_,rfl,p,C,dx,_,_,rfl,hp,c.cl,c.nW,pf_word,tP,bpL,rfl,.inr (Wd.hP H),rfl,(by decide),q⟩
theorem scByName:FnScope ["self"] ["self"] (defScope sByName):=⟨rfl,rfl,rfl,by decide +kernel,rfl,by decide +kernel,by decide +kernel⟩
theorem ok_by_name (F:Fun K "by_name" "Parameter.by_name" sByName f fd) (Wd:Wds K mg tP tB tO):FnOk P w K mg base CX0 1 f fd ["self"] (spIn K m bnL):=by
 refine F.ok scByName (fun vs H Q E h=>?_) (fun cdv A outer s H vs Q E hr h=>?_)
 ·obtain ⟨p,dx,C,wd,x,b,rfl,_⟩:=h
  rfl
 obtain ⟨p,dx,C,wd,x,b,rfl,c,hp,q⟩:=h
 refine ⟨_,pss_one (ps_ret (pe_cmpR op_in_seq (pe_fld (pv 0) rfl) (pe_glob (v:=.ref tB) rfl Wd.mB rfl) (by with_unfolding_all rfl))),?_⟩
 exact ⟨_,rfl,p,C,dx,_,_,rfl,hp,c.cl,c.nW,pf_word,tB,bnL,rfl,.inr (Wd.hB H),rfl,(by decide),q⟩
theorem scTakes:FnScope ["self"] ["self"] (defScope sTakes):=⟨rfl,rfl,rfl,by decide +kernel,rfl,by decide +kernel,by decide +kernel⟩
theorem ok_takes_one (F:Fun K "takes_one" "Parameter.takes_one" sTakes f fd) (Wd:Wds K mg tP tB tO):FnOk P w K mg base CX0 1 f fd ["self"] (spIn K m otL):=by
 refine F.ok scTakes (fun vs H Q E h=>?_) (fun cdv A outer s H vs Q E hr h=>?_)
 ·obtain ⟨p,dx,C,wd,x,b,rfl,_⟩:=h
  rfl
 obtain ⟨p,dx,C,wd,x,b,rfl,c,hp,q⟩:=h
 refine ⟨_,pss_one (ps_ret (pe_cmpR op_in_seq (pe_fld (pv 0) rfl) (pe_glob (v:=.ref tO) rfl Wd.mO rfl) (by with_unfolding_all rfl))),?_⟩
 exact ⟨_,rfl,p,C,dx,_,_,rfl,hp,c.cl,c.nW,pf_word,tO,otL,rfl,.inr (Wd.hO H),rfl,(by decide),q⟩
theorem scTold:FnScope ["self"] ["self"] (defScope sTold):=⟨rfl,rfl,rfl,by decide +kernel,rfl,by decide +kernel,by decide +kernel⟩
theorem ok_told {gd:FuncData} (F:Fun K "told" "Parameter.told" sTold f fd) (G:FnOk P w K mg base CX0 1 m.fT gd ["self"] (spIn K m otL)) (bg:Binds K gd ["self"] []):FnOk P w K mg base CX0 2 f fd ["self"] (spTold K m):=by
 refine F.ok scTold (fun vs H Q E h=>?_) (fun cdv A outer s H vs Q E hr h=>?_)
 ·obtain ⟨p,dx,C,k,x,b,rfl,_⟩:=h
  rfl
 obtain ⟨p,dx,C,k,x,b,rfl,hk,c,hp,q⟩:=h
 have nt:(pf (kw k) x (fr k b)).lookup ("takes_one" : Str) = none:=pf_no (by decide +kernel) (by decide +kernel) (by decide +kernel)
 refine ⟨_,pss_cons (ps_if (pt_val (pe_meth0 (pv 0) c.cl c.mT G hr bg .nil pass0)) (pss_one (ps_ret (pe_tup (ac (pe_fld (pv 0) rfl) (ac (pe_fld (pv 0) rfl) (ac (pe_fld (pv 0) rfl) pa_nil)))))) pss_nil)
  (pss_one (ps_ret (pe_tup (ac (pe_fld (pv 0) rfl) (ac (pe_fld (pv 0) rfl) pa_nil))))),?_⟩
 refine ⟨_,rfl,p,dx,_,rfl,hp,nt,p,dx,C,kw k,x,fr k b,rfl,c,hp,_,rfl,?_⟩
 have fW:∃ b',pf (kw k) x (fr k b) = pf (kw k) x b':=⟨_,rfl⟩
 rcases lt5 hk with rfl | rfl | rfl | rfl | rfl
 ·refine iteT ?_
  exact ⟨_,rfl,p,C,dx,_,_,rfl,hp,c.cl,c.nW,pf_word,_,rfl,p,C,dx,_,_,rfl,hp,c.cl,c.nN,pf_name,_,rfl,p,C,dx,_,_,rfl,hp,c.cl,c.nM,pf_lack,(by show 3<=sizeLine; decide),fun r hr=>q r _ (same_new hr _) upd_same⟩
 ·refine iteT ?_
  exact ⟨_,rfl,p,C,dx,_,_,rfl,hp,c.cl,c.nW,pf_word,_,rfl,p,C,dx,_,_,rfl,hp,c.cl,c.nN,pf_name,_,rfl,p,C,dx,_,_,rfl,hp,c.cl,c.nM,pf_lack,(by show 3<=sizeLine; decide),fun r hr=>q r _ (same_new hr _) upd_same⟩
 ·refine iteF ?_
  exact ⟨_,rfl,p,C,dx,_,_,rfl,hp,c.cl,c.nW,pf_word,_,rfl,p,C,dx,_,_,rfl,hp,c.cl,c.nN,pf_name,(by show 2<=sizeLine; decide),fun r hr=>q r _ (same_new hr _) upd_same⟩
 ·refine iteT ?_
  exact ⟨_,rfl,p,C,dx,_,_,rfl,hp,c.cl,c.nW,pf_word,_,rfl,p,C,dx,_,_,rfl,hp,c.cl,c.nN,pf_name,_,rfl,p,C,dx,_,_,rfl,hp,c.cl,c.nM,pf_lack,(by show 3<=sizeLine; decide),fun r hr=>q r _ (same_new hr _) upd_same⟩
 ·refine iteF ?_
  exact ⟨_,rfl,p,C,dx,_,_,rfl,hp,c.cl,c.nW,pf_word,_,rfl,p,C,dx,_,_,rfl,hp,c.cl,c.nN,pf_name,(by show 2<=sizeLine; decide),fun r hr=>q r _ (same_new hr _) upd_same⟩
end
structure C5 where
 (c0 c1 c2 c3 c4:Addr)
def C5.at (c:C5):Nat->Addr
 | 0=>c.c0 | 1=>c.c1 | 2=>c.c2 | 3=>c.c3 | _=>c.c4
structure Ctors (P:Program) (w:World) (K:PySem.W.Frag) (mg:Str->Option Value) (base:Heap) (c:C5) (i0 i1 i2 i3 i4:Addr) (d0 d1 d2 d3 d4:FuncData):Prop where
 k0:Ctor P w K mg base CX0 3 "Seat" c.c0 i0 d0 ["self","name","free"] [] (spS K c.c0 "seat")
 k1:Ctor P w K mg base CX0 3 "Both" c.c1 i1 d1 ["self","name","free"] [] (spS K c.c1 "both")
 k2:Ctor P w K mg base CX0 3 "Tail" c.c2 i2 d2 ["self","name"] [] (spT K c.c2 "tail")
 k3:Ctor P w K mg base CX0 3 "Tag" c.c3 i3 d3 ["self","name","free"] [] (spS K c.c3 "tag")
 k4:Ctor P w K mg base CX0 3 "Bag" c.c4 i4 d4 ["self","name"] [] (spT K c.c4 "bag")
def Res (c:C5) (H:Hp) (k:Nat) (x:V) (b:Bool) (Q:VK):Prop:=
 nmV x = true/\∀ (o dx:Addr) (H':Hp),Same H H'->H' o = some (.ins (c.at k) dx (pf (kw k) x (fr k b)))->Q (.ref o) H'
def spPof (K:PySem.W.Frag) (c:C5):Sp:=fun vs H Q _=>∃ (p:Addr) (k:Nat) (x:V) (b:Bool),vs = [.ref p]/\k < 5/\H p = some (.tup (rowV k x b))/\OkV K H x/\Res c H k x b Q
theorem ne10:¬ (V.str "both" = V.str "seat"):=by decide +kernel
theorem ne20:¬ (V.str "tail" = V.str "seat"):=by decide +kernel
theorem ne21:¬ (V.str "tail" = V.str "both"):=by decide +kernel
theorem ne30:¬ (V.str "tag" = V.str "seat"):=by decide +kernel
theorem ne31:¬ (V.str "tag" = V.str "both"):=by decide +kernel
theorem ne32:¬ (V.str "tag" = V.str "tail"):=by decide +kernel
theorem ne40:¬ (V.str "bag" = V.str "seat"):=by decide +kernel
theorem ne41:¬ (V.str "bag" = V.str "both"):=by decide +kernel
theorem ne42:¬ (V.str "bag" = V.str "tail"):=by decide +kernel
theorem ne43:¬ (V.str "bag" = V.str "tag"):=by decide +kernel
section
variable {P:Program} {w:World} {K:PySem.W.Frag} {mg:Str->Option Value} {base:Heap} {f i0 i1 i2 i3 i4:Addr} {fd d0 d1 d2 d3 d4:FuncData} {c:C5}
theorem lk_0 {x:V} {k:Nat} {b:Bool} (h:k < 5):atI (rowV k x b) 0 = some (.str (kw k)):=by rcases lt5 h with rfl | rfl | rfl | rfl | rfl <;> rfl
theorem scPof:FnScope ["told","word"] ["told"] (defScope sPof):=⟨rfl,rfl,rfl,by decide +kernel,rfl,by decide +kernel,by decide +kernel⟩
theorem ok_pof (F:Fun K "parameter_of" "parameter_of" sPof f fd) (U:Ctors P w K mg base c i0 i1 i2 i3 i4 d0 d1 d2 d3 d4):FnOk P w K mg base CX0 5 f fd ["told"] (spPof K c):=by
 refine F.ok scPof (fun vs H Q E h=>?_) (fun cdv A outer s H vs Q E hr h=>?_)
 ·obtain ⟨p,k,x,b,rfl,_⟩:=h
  rfl
 obtain ⟨p,k,x,b,rfl,hk,hp,hx,r1,r2⟩:=h
 refine ⟨_,pss_cons (ps_set (i:=1) scPof.nd rfl (Or.inl rfl) (pe_ix ix_tup (pv 0) pe_int (fun _ _=>rfl)))
  (pss_cons (ps_if (pt_cmpR op_eq (pv 1) pe_str (nomark _)) (pss_one (ps_ret (cMk U.k0 .nil pass0 hr (ac (pe_ix ix_tup (pv 0) pe_int (fun _ _=>rfl)) (ac (pe_ix ix_tup (pv 0) pe_int (fun _ _=>rfl)) pa_nil))))) pss_nil)
  (pss_cons (ps_if (pt_cmpR op_eq (pv 1) pe_str (nomark _)) (pss_one (ps_ret (cMk U.k1 .nil pass0 hr (ac (pe_ix ix_tup (pv 0) pe_int (fun _ _=>rfl)) (ac (pe_ix ix_tup (pv 0) pe_int (fun _ _=>rfl)) pa_nil))))) pss_nil)
  (pss_cons (ps_if (pt_cmpR op_eq (pv 1) pe_str (nomark _)) (pss_one (ps_ret (cMk U.k2 .nil pass0 hr (ac (pe_ix ix_tup (pv 0) pe_int (fun _ _=>rfl)) pa_nil)))) pss_nil)
  (pss_cons (ps_if (pt_cmpR op_eq (pv 1) pe_str (nomark _)) (pss_one (ps_ret (cMk U.k3 .nil pass0 hr (ac (pe_ix ix_tup (pv 0) pe_int (fun _ _=>rfl)) (ac (pe_ix ix_tup (pv 0) pe_int (fun _ _=>rfl)) pa_nil))))) pss_nil)
  (pss_one (ps_ret (cMk U.k4 .nil pass0 hr (ac (pe_ix ix_tup (pv 0) pe_int (fun _ _=>rfl)) pa_nil)))))))),?_⟩
 refine ⟨_,rfl,p,_,_,.str (kw k),rfl,rfl,SqT.of hp,lk_0 hk,?_⟩
 rcases lt5 hk with rfl | rfl | rfl | rfl | rfl
 ·have hS:SqT K H p _:=SqT.of hp
  refine ⟨_,rfl,rfl,_,rfl,?_⟩
  refine dT rfl ?_
  exact ⟨_,rfl,p,_,_,x,rfl,rfl,hS,rfl,_,rfl,p,_,_,.bl b,rfl,rfl,hS,rfl,fun o dx ho hdx ne=>⟨o,dx,x,b,rfl,upd_same,hx.same (same_make0 ho hdx),r1,fun H1 s1=>⟨rfl,r2 o dx _ (same_after ho hdx s1) upd_same⟩⟩⟩
 ·have hS:SqT K H p _:=SqT.of hp
  refine ⟨_,rfl,rfl,_,rfl,?_⟩
  refine dF ne10 ?_
  refine ⟨_,rfl,rfl,_,rfl,?_⟩
  refine dT rfl ?_
  exact ⟨_,rfl,p,_,_,x,rfl,rfl,hS,rfl,_,rfl,p,_,_,.bl b,rfl,rfl,hS,rfl,fun o dx ho hdx ne=>⟨o,dx,x,b,rfl,upd_same,hx.same (same_make0 ho hdx),r1,fun H1 s1=>⟨rfl,r2 o dx _ (same_after ho hdx s1) upd_same⟩⟩⟩
 ·have hS:SqT K H p _:=SqT.of hp
  refine ⟨_,rfl,rfl,_,rfl,?_⟩
  refine dF ne20 ?_
  refine ⟨_,rfl,rfl,_,rfl,?_⟩
  refine dF ne21 ?_
  refine ⟨_,rfl,rfl,_,rfl,?_⟩
  refine dT rfl ?_
  exact ⟨_,rfl,p,_,_,x,rfl,rfl,hS,rfl,fun o dx ho hdx ne=>⟨o,dx,x,rfl,upd_same,hx.same (same_make0 ho hdx),r1,fun H1 s1=>⟨rfl,r2 o dx _ (same_after ho hdx s1) upd_same⟩⟩⟩
 ·have hS:SqT K H p _:=SqT.of hp
  refine ⟨_,rfl,rfl,_,rfl,?_⟩
  refine dF ne30 ?_
  refine ⟨_,rfl,rfl,_,rfl,?_⟩
  refine dF ne31 ?_
  refine ⟨_,rfl,rfl,_,rfl,?_⟩
  refine dF ne32 ?_
  refine ⟨_,rfl,rfl,_,rfl,?_⟩
  refine dT rfl ?_
  exact ⟨_,rfl,p,_,_,x,rfl,rfl,hS,rfl,_,rfl,p,_,_,.bl b,rfl,rfl,hS,rfl,fun o dx ho hdx ne=>⟨o,dx,x,b,rfl,upd_same,hx.same (same_make0 ho hdx),r1,fun H1 s1=>⟨rfl,r2 o dx _ (same_after ho hdx s1) upd_same⟩⟩⟩
 ·have hS:SqT K H p _:=SqT.of hp
  refine ⟨_,rfl,rfl,_,rfl,?_⟩
  refine dF ne40 ?_
  refine ⟨_,rfl,rfl,_,rfl,?_⟩
  refine dF ne41 ?_
  refine ⟨_,rfl,rfl,_,rfl,?_⟩
  refine dF ne42 ?_
  refine ⟨_,rfl,rfl,_,rfl,?_⟩
  refine dF ne43 ?_
  exact ⟨_,rfl,p,_,_,x,rfl,rfl,hS,rfl,fun o dx ho hdx ne=>⟨o,dx,x,rfl,upd_same,hx.same (same_make0 ho hdx),r1,fun H1 s1=>⟨rfl,r2 o dx _ (same_after ho hdx s1) upd_same⟩⟩⟩
end
end K81
namespace L2
open PySem PySem.Spec PyProof.Rows
def dcN (n i:Nat) (D:Addr) (Pv:Nat->List (Key × V)->Hp->Prop) (ys:List (Key × V)) (y:V):VK:=fun v H5=>∃ k,y = kV k/\H5 D = some (.dK ys)/\ys.length < sizeLine/\∃ m',m' < n - i/\m' = n - (i + 1)/\i + 1<=n/\Pv (i + 1) (putK ys k v) (upd H5 D (.dK (putK ys k v)))
def dcS (n i:Nat) (Pv:Nat->List (Key × V)->Hp->Prop) (ys:List (Key × V)) (H4:Hp):Prop:=∃ m',m' < n - i/\m' = n - (i + 1)/\i + 1<=n/\Pv (i + 1) ys H4
theorem dcN.mk {n i:Nat} {D:Addr} {Pv:Nat->List (Key × V)->Hp->Prop} {ys:List (Key × V)} {y v:V} {H5:Hp} (k:Key) (hi:i < n) (ek:y = kV k) (hn:n<=sizeLine) (hD:H5 D = some (.dK ys)) (hy:ys.length<=i) (p:Pv (i + 1) (putK ys k v) (upd H5 D (.dK (putK ys k v)))):dcN n i D Pv ys y v H5:=
 ⟨k,ek,hD,by omega,n - (i + 1),by omega,rfl,hi,p⟩
theorem dcS.mk {n i:Nat} {Pv:Nat->List (Key × V)->Hp->Prop} {ys:List (Key × V)} {H4:Hp} (hi:i < n) (p:Pv (i + 1) ys H4):dcS n i Pv ys H4:=⟨n - (i + 1),by omega,rfl,hi,p⟩
theorem dc_enum {K:PySem.W.Frag} {a:Addr} {xs:List V} {caps:List (Option Nat)} {g:TG} {tt:TT} {tk tv:TE} {σ : St} {H1:Hp} {Q:VK} {D:Addr} (Pv:Nat->List (Key × V)->Hp->Prop) (h0:Pv 0 [] (upd H1 D (.dK [])))
  (hl:∀ i ys H,Pv i ys H->SqL K H a xs)
  (hs:∀ i x p ys H,i < xs.length->xs[i]? = some x->Pv i ys H->H p = none->g (.ref p) (capS caps σ) (upd H p (.tup [.int i,x])) fun σ2 H2=>tt σ2 H2 fun ok H3=>(ok = true->tk σ2 H3 fun y H4=>tv σ2 H4 (dcN xs.length i D Pv ys y))/\(ok = false->dcS xs.length i Pv ys H3))
  (hd:∀ ys H,Pv xs.length ys H->Q (.ref D) H):DCr (Ite K a) caps g tt tk tv σ H1 Q D:=by
 refine ⟨fun i m ys H=>m = xs.length - i/\i<=xs.length/\Pv i ys H,⟨xs.length,by simp,Nat.zero_le _,h0⟩,?_⟩
 rintro i m ys H ⟨rfl,hi,p⟩
 have q:=hl i ys H p
 by_cases hlt:i < xs.length
 ·refine .inr ⟨⟨xs,xs[i],q,by simp [hlt]⟩,fun x H' y=>?_⟩
  obtain ⟨pp,y,rfl,hp,y2,rfl⟩:=y
  exact hs i y pp ys H hlt (y2 xs q) p hp
 ·have e:i = xs.length:=by omega
  subst e
  exact .inl ⟨⟨xs,q,Nat.le_refl _⟩,hd ys H p⟩
end L2
namespace K81
open PySem L2 PyProof.Rows
structure Rw where
 (k:Nat) (z:Str) (b:Bool)
def Rw.ok (r:Rw):Prop:=r.k < 5/\nameB r.z = true
abbrev rv (r:Rw):List V:=rowV r.k (.str r.z) r.b
abbrev pr (r:Rw):List (Str × V):=pf (kw r.k) (.str r.z) (fr r.k r.b)
def PAt (c:C5) (H:Hp) (p:Addr) (r:Rw):Prop:=∃ dx,H p = some (.ins (c.at r.k) dx (pr r))
def byPl (k:Nat):Bool:=k == 0 || k == 1
def byNm (k:Nat):Bool:=k == 1 || k == 3
theorem in_pl:∀ k:Nat,k < 5->inV (.str (kw k)) bpL = byPl k:=by decide +kernel
theorem in_nm:∀ k:Nat,k < 5->inV (.str (kw k)) bnL = byNm k:=by decide +kernel
def grp:Nat->Nat
 | 0=>0 | 1=>0 | 2=>1 | 3=>2 | _=>3
def badAt (l g:Nat):Bool:=decide (g < l) || (g == l && (g == 1 || g == 3))
def ordOk:Nat->List Rw->Bool
 | _,[]=>true
 | l,r :: rs=>!badAt l (grp r.k) && ordOk (grp r.k) rs
def nms (rows:List Rw):List Str:=(rows.filter fun r=>byNm r.k).map (·.z)
structure Valid (rows:List Rw) (bars:List Str):Prop where
 ok:∀ r ∈ rows,r.ok
 l24:rows.length<=24
 l60:bars.length<=60
 ord:ordOk 0 rows = true
 bn:∀ z ∈ bars,nameB z = true
 nd:(nms rows ++ bars).Nodup
def firstK (kk:Nat):Nat->List Rw->Option Nat
 | _,[]=>none
 | i,r :: rs=>if r.k = kk then some i else firstK kk (i + 1) rs
def numV:Option Nat->V
 | none=>.non
 | some i=>.int i
def doorsF:Nat->List (Key × V)->List Rw->List (Key × V)
 | _,acc,[]=>acc
 | i,acc,r :: rs=>doorsF (i + 1) (if byNm r.k = true then putK acc (.inr r.z) (.int i) else acc) rs
def plN (rows:List Rw):Nat:=(rows.filter fun r=>byPl r.k).length
def attrs:List Str:=["row","bar_names","place_count","tail_number","bag_number","doors"]
structure FF (fs:List (Str × V)) (lr lb ld:Addr) (rows:List Rw):Prop where
 row:fs.lookup ("row" : Str) = some (.ref lr)
 bn:fs.lookup ("bar_names" : Str) = some (.ref lb)
 pc:fs.lookup ("place_count" : Str) = some (.int (plN rows))
 tn:fs.lookup ("tail_number" : Str) = some (numV (firstK 2 0 rows))
 bg:fs.lookup ("bag_number" : Str) = some (numV (firstK 4 0 rows))
 dr:fs.lookup ("doors" : Str) = some (.ref ld)
 no:∀ m,m ∉ attrs->fs.lookup m = none
def FormAt (c:C5) (CF:Addr) (H:Hp) (f:Addr) (rows:List Rw) (bars:List Str):Prop:=
 ∃ dx fs lr lb ld ps,H f = some (.ins CF dx fs)/\FF fs lr lb ld rows/\H lr = some (.lst (ps.map V.ref))/\Paired (PAt c H) ps rows/\H lb = some (.lst (bars.map V.str))/\H ld = some (.dK (doorsF 0 [] rows))
section
variable {c:C5} {CF f p:Addr} {H H':Hp} {rows:List Rw} {bars:List Str} {r:Rw} {ps:List Addr}
theorem PAt.same (h:PAt c H p r) (s:Same H H'):PAt c H' p r:=h.imp fun _=>s _ _
theorem pats_same (s:Same H H') (h:Paired (PAt c H) ps rows):Paired (PAt c H') ps rows:=Paired.imp' (fun _ _ z=>z.same s) h
theorem FormAt.same (h:FormAt c CF H f rows bars) (s:Same H H'):FormAt c CF H' f rows bars:=by
 obtain ⟨dx,fs,lr,lb,ld,ps,h1,h2,h3,h4,h5,h6⟩:=h
 exact ⟨dx,fs,lr,lb,ld,ps,s _ _ h1,h2,s _ _ h3,pats_same s h4,s _ _ h5,s _ _ h6⟩
def FormN (c:C5) (CF:Addr) (H H':Hp) (f:Addr) (rows:List Rw) (bars:List Str):Prop:=
 ∃ dx fs lr lb ld ps,H' f = some (.ins CF dx fs)/\FF fs lr lb ld rows/\H' lr = some (.lst (ps.map V.ref))/\Paired (PAt c H') ps rows/\H' lb = some (.lst (bars.map V.str))/\H' ld = some (.dK (doorsF 0 [] rows))/\H lr = none/\H lb = none
theorem FormN.of {H0:Hp} (h:FormN c CF H H' f rows bars) (s:Same H0 H):FormN c CF H0 H' f rows bars:=by
 obtain ⟨dx,fs,lr,lb,ld,ps,h1,h2,h3,h4,h5,h6,h7,h8⟩:=h
 exact ⟨dx,fs,lr,lb,ld,ps,h1,h2,h3,h4,h5,h6,s.free h7,s.free h8⟩
theorem paired_at {α β : Type} {R : α->β->Prop} {xs:List α} {ys:List β} (h:Paired R xs ys):∀ {i:Nat} {x : α},xs[i]? = some x->∃ y,ys[i]? = some y/\R x y:=by
 induction h with
 | nil=>intro i x e; simp at e
 | cons r t ih=>
  intro i x e
  cases i with
  | zero=>exact ⟨_,rfl,by simp at e; exact e ▸ r⟩
  | succ i=>simpa using ih (by simpa using e)
end
def grpV (x:Str):Option V:=([(("seat" : Str),V.int 0),("both",.int 0),("tail",.int 1),("tag",.int 2),("bag",.int 3)]:List (Str × V)).lookup x
theorem grpV_kw:∀ k:Nat,k < 5->grpV (kw k) = some (.int (grp k)):=by decide +kernel
theorem grp_lt (k:Nat):grp k < 4:=by unfold grp; split <;> decide
structure TxtF (w:World) (K:PySem.W.Frag) (mg:Str->Option Value) (G sg:Addr):Prop where
 len:mg "len" = none
 en:mg "enumerate" = none
 lst:mg "list" = none
 set:mg "set" = none
 mp:∃ t,mg "MOST_PARAMETERS" = some (.int 24 t)
 mb:∃ t,mg "MOST_BARS" = some (.int 60 t)
 mgr:mg "GROUPS" = some (.ref G)
 gt:KTab w K G grpV
 ms:mg "SINGLE_GROUPS" = some (.ref sg)
 hs:∀ H,SqT K H sg [.int 1,.int 3]
def Cs5 (c:C5):Addr->Prop:=fun C=>∃ k,k < 5/\C = c.at k
def spMany (K:PySem.W.Frag):Sp:=fun vs H Q _=>∃ (a b:Addr) (xs ys:List V),vs = [.ref a,.ref b]/\SqL K H a xs/\SqL K H b ys/\xs.length<=24/\ys.length<=60/\Q .non H
def spOrd (c:C5):Sp:=fun vs H Q _=>∃ (a:Addr) (ps:List Addr) (rows:List Rw),vs = [.ref a]/\H a = some (.lst (ps.map V.ref))/\Paired (PAt c H) ps rows/\(∀ r ∈ rows,r.ok)/\ordOk 0 rows = true/\∀ H',Same H H'->Q .non H'
def spRB:Sp:=fun vs H Q _=>∃ (b:Addr) (bars:List Str),vs = [.ref b]/\H b = some (.lst (bars.map V.str))/\(∀ z ∈ bars,nameB z = true)/\∀ H',Same H H'->Q .non H'
def spTw (c:C5):Sp:=fun vs H Q _=>∃ (a b:Addr) (ps:List Addr) (rows:List Rw) (bars:List Str),vs = [.ref a,.ref b]/\H a = some (.lst (ps.map V.ref))/\Paired (PAt c H) ps rows/\(∀ r ∈ rows,r.ok)/\rows.length<=500/\H b = some (.lst (bars.map V.str))/\bars.length<=500/\(nms rows ++ bars).Nodup/\∀ H',Same H H'->Q .non H'
def spNW (c:C5):Sp:=fun vs H Q _=>∃ (a:Addr) (ps:List Addr) (rows:List Rw) (kk:Nat),vs = [.ref a,.str (kw kk)]/\kk < 5/\H a = some (.lst (ps.map V.ref))/\Paired (PAt c H) ps rows/\(∀ r ∈ rows,r.ok)/\∀ H',Same H H'->Q (numV (firstK kk 0 rows)) H'
theorem kw_inj:∀ i:Nat,i < 5->∀ k:Nat,k < 5->decide (V.str (kw k) = V.str (kw i)) = (k == i):=by decide +kernel
theorem drop_at {α : Type} {xs:List α} {i:Nat} {x : α} (h:xs[i]? = some x):xs.drop i = x :: xs.drop (i + 1):=by
 have hi:i < xs.length:=(List.getElem?_eq_some_iff.mp h).1
 rw [List.drop_eq_getElem_cons hi]
 rw [List.getElem?_eq_getElem hi] at h
 rw [Option.some.inj h]
theorem refs_at {ps:List Addr} {i:Nat} {x:V} (h:(ps.map V.ref)[i]? = some x):∃ p,ps[i]? = some p/\x = .ref p:=by
 rw [List.getElem?_map] at h
 cases e:ps[i]? with
 | none=>rw [e] at h; cases h
 | some p=>rw [e] at h; exact ⟨p,rfl,(Option.some.inj h).symm⟩
theorem strs_at {zs:List Str} {i:Nat} {x:V} (h:(zs.map V.str)[i]? = some x):∃ z,zs[i]? = some z/\x = .str z:=by
 rw [List.getElem?_map] at h
 cases e:zs[i]? with
 | none=>rw [e] at h; cases h
 | some p=>rw [e] at h; exact ⟨p,rfl,(Option.some.inj h).symm⟩
section
variable {P:Program} {w:World} {K:PySem.W.Frag} {mg:Str->Option Value} {base:Heap} {f G sg:Addr} {fd:FuncData} {c:C5} {m:MA}
def Pcs (K:PySem.W.Frag) (m:MA) (c:C5):Prop:=∀ k,k < 5->PC K m (c.at k)
theorem scRMany:FnScope ["parameters","bars"] ["parameters","bars"] (defScope sRMany):=⟨rfl,rfl,rfl,by decide +kernel,rfl,by decide +kernel,by decide +kernel⟩
theorem ok_many (F:Fun K "refuse_too_many" "refuse_too_many" sRMany f fd) (T:TxtF w K mg G sg):FnOk P w K mg base CX0 1 f fd ["parameters","bars"] (spMany K):=by
 refine F.ok scRMany (fun vs H Q E h=>?_) (fun cdv A outer s H vs Q E hr h=>?_)
 ·obtain ⟨a,b,xs,ys,rfl,_⟩:=h
  rfl
 obtain ⟨a,b,xs,ys,rfl,ha,hb,l1,l2,q⟩:=h
 obtain ⟨t1,m1⟩:=T.mp
 obtain ⟨t2,m2⟩:=T.mb
 refine ⟨_,pss_cons (ps_if (pt_cmpR op_gt (cB call_len_seq T.len PySem.boot_len (ac (pv 0) pa_nil)) (pe_glob (v:=.int 24) rfl m1 ⟨_,rfl⟩) (nomark _)) (pss_one ps_dead) pss_nil)
  (pss_one (ps_if (pt_cmpR op_gt (cB call_len_seq T.len PySem.boot_len (ac (pv 1) pa_nil)) (pe_glob (v:=.int 60) rfl m2 ⟨_,rfl⟩) (nomark _)) (pss_one ps_dead) pss_nil)),?_⟩
 refine ⟨_,rfl,a,_,rfl,.inl ha,_,_,rfl,rfl,_,rfl,?_⟩
 refine dF (by show ¬ (24:Int) < (xs.length:Int); omega) ?_
 refine ⟨_,rfl,b,_,rfl,.inl hb,_,_,rfl,rfl,_,rfl,?_⟩
 exact dF (by show ¬ (60:Int) < (ys.length:Int); omega) q
theorem scROrder:FnScope ["parameters","last","at","parameter","group"] ["parameters"] (defScope sROrder):=⟨rfl,rfl,rfl,by decide +kernel,rfl,by decide +kernel,by decide +kernel⟩
theorem ok_order (F:Fun K "refuse_bad_order" "refuse_bad_order" sROrder f fd) (T:TxtF w K mg G sg) (PP:Pcs K m c):FnOk P w K mg base CX0 1 f fd ["parameters"] (spOrd c):=by
 refine F.ok scROrder (fun vs H Q E h=>?_) (fun cdv A outer s H vs Q E hr h=>?_)
 ·obtain ⟨a,ps,rows,rfl,_⟩:=h
  rfl
 obtain ⟨a,ps,rows,rfl,ha,hp,hok,ho,q⟩:=h
 refine ⟨_,pss_cons (ps_set (i:=1) scROrder.nd rfl (Or.inl rfl) pe_int)
  (pss_one (ps_for PassesOwn.never rfl (pi_enum rfl T.en (ac (pv 0) pa_nil)) (pg_tup rfl (pgs_cons (pg_name (i:=2) scROrder.nd rfl (Or.inl rfl)) (pgs_cons (pg_name (i:=3) scROrder.nd rfl (Or.inl rfl)) pgs_nil)))
   (pss_cons (ps_set (i:=4) scROrder.nd rfl (Or.inl rfl) (pe_kget T.gt T.mgr (pe_fld (pv 3) rfl)))
   (pss_cons (ps_if (PW.pt (pw_or (pt_cmpR op_lt (pv 4) (pv 1) (nomark _)) (pw_or1 (PW.pt (pw_and (pt_cmpR op_eq (pv 4) (pv 1) (nomark _)) (pw_and1 (pt_cmpR op_in_seq (pv 4) (pe_glob (v:=.ref sg) rfl T.ms rfl) (by with_unfolding_all rfl)))))))) (pss_one ps_dead) pss_nil)
   (pss_one (ps_set (i:=1) scROrder.nd rfl (Or.inl rfl) (pv 4))))))),?_⟩
 show tSeq _ _ _ _ _
 refine ⟨_,rfl,a,rfl,⟨_,SqL.of ha⟩,for_enum (K:=K) (a:=a) (xs:=ps.map V.ref) (fun i σ H'=>∃ (l:Nat) (v2 v3 v4:Option V),σ = [some (.ref a),some (.int (l:Nat)),v2,v3,v4]/\Same H H'/\ordOk l (rows.drop i) = true)
  ⟨0,_,_,_,rfl,Same.refl _,ho⟩ (fun i σ H' _ ⟨_,_,_,_,_,sH,_⟩=>SqL.of (sH _ _ ha)) ?_ ?_⟩
 ·rintro i x p σ H' hx ⟨l,v2,v3,v4,rfl,sH,hl⟩ hpn
  obtain ⟨pa,hpa,rfl⟩:=refs_at hx
  obtain ⟨r,hr',dx,hdx⟩:=paired_at hp hpa
  have rok:=hok r (List.mem_of_getElem? hr')
  have C:=PP r.k rok.1
  rw [drop_at hr'] at hl
  have hl':(!badAt l (grp r.k) && ordOk (grp r.k) (rows.drop (i + 1))) = true:=hl
  rw [Bool.and_eq_true,Bool.not_eq_true'] at hl'
  obtain ⟨hb,hl2⟩:=hl'
  have hb':(decide (grp r.k < l) || (grp r.k == l && (grp r.k == 1 || grp r.k == 3))) = false:=hb
  rw [Bool.or_eq_false_iff] at hb'
  have sp:=same_new hpn (.tup [.int (i:Nat),.ref pa])
  refine ⟨p,_,rfl,SqT.of upd_same,rfl,_,_,rfl,_,_,rfl,rfl,?_⟩
  refine ⟨_,rfl,pa,_,dx,_,_,rfl,sp _ _ (sH _ _ hdx),C.cl,C.nW,pf_word,kw r.k,.int (grp r.k),rfl,grpV_kw r.k rok.1,?_⟩
  refine ⟨_,rfl,_,rfl,_,_,rfl,rfl,_,rfl,?_⟩
  refine dF (fun z=>by have:=of_decide_eq_false hb'.1; omega) ?_
  have fin:∃ (l':Nat) (v2 v3 v4:Option V),([some (.ref a),some (.int (grp r.k:Nat)),some (.int (i:Nat)),some (.ref pa),some (.int (grp r.k:Nat))]:L2.St) = [some (.ref a),some (.int (l':Nat)),v2,v3,v4]/\Same H (upd H' p (.tup [.int (i:Nat),.ref pa]))/\ordOk l' (rows.drop (i + 1)) = true:=
   ⟨grp r.k,_,_,_,rfl,sH.trans sp,hl2⟩
  refine ⟨_,rfl,_,rfl,rfl,_,rfl,?_⟩
  by_cases e:grp r.k = l
  ·refine dT (by rw [e]) ?_
   refine ⟨_,rfl,sg,_,rfl,.inr (T.hs _),rfl,(by decide),_,rfl,?_⟩
   have h13:(grp r.k == 1 || grp r.k == 3) = false:=by
    have:=hb'.2
    rw [e] at this |-
    simpa using this
   have hin:inV (.int (grp r.k:Nat)) [.int 1,.int 3] = false:=by
    have g4:=grp_lt r.k
    have:∀ g:Nat,g < 4->(g == 1 || g == 3) = false->inV (.int (g:Nat)) [.int 1,.int 3] = false:=by decide +kernel
    exact this _ g4 h13
   rw [show (if false = true then !inV (V.int ((grp r.k:Nat):Int)) [V.int 1,V.int 3] else inV (V.int ((grp r.k:Nat):Int)) [V.int 1,V.int 3]) = false from hin]
   refine iteF ?_
   exact ⟨_,rfl,fin⟩
  ·refine dF (fun z=>e (by have:=V.int.inj z; omega)) ?_
   exact ⟨_,rfl,fin⟩
 ·rintro σ H' ⟨l,v2,v3,v4,rfl,sH,_⟩
  exact q _ sH
end
end K81
namespace L2
open PySem PySem.Spec PyProof.Rows
theorem pe_fldK {X:Cx} {K:PySem.W.Frag} {e:Expr} {f:Str} {pos:Pos} {ta:TE} (hK:X.K = K) (he:PE X e ta) (hb:attributeBase e f X.env (eval e X.env) = eval e X.env):PE X (.Attribute e f pos) (tFld K ta f):=hK ▸ pe_fld he hb
end L2
namespace K81
open PySem L2 PyProof.Rows
theorem le1000 {n:Nat} (h:n<=1000):n<=sizeLine:=Nat.le_of_lt (small1000 h)
theorem nm_take {rows:List Rw} {i:Nat} {r:Rw} (h:rows[i]? = some r):nms (rows.take (i + 1)) = nms (rows.take i) ++ (if byNm r.k = true then [r.z] else []):=by
 have hi:i < rows.length:=(List.getElem?_eq_some_iff.mp h).1
 have e:rows[i] = r:=by rw [List.getElem?_eq_getElem hi] at h; exact Option.some.inj h
 unfold nms
 rw [List.take_succ_eq_append_getElem hi,List.filter_append,List.map_append,e]
 cases hb:byNm r.k <;> simp [hb]
section
variable {P:Program} {w:World} {K:PySem.W.Frag} {mg:Str->Option Value} {base:Heap} {f G sg:Addr} {fd:FuncData} {c:C5} {m:MA}
theorem scNumW:FnScope ["parameters","word","at","parameter"] ["parameters","word"] (defScope sNumW):=⟨rfl,rfl,rfl,by decide +kernel,rfl,by decide +kernel,by decide +kernel⟩
theorem ok_numw (F:Fun K "number_of_word" "number_of_word" sNumW f fd) (T:TxtF w K mg G sg) (PP:Pcs K m c):FnOk P w K mg base CX0 1 f fd ["parameters","word"] (spNW c):=by
 refine F.ok scNumW (fun vs H Q E h=>?_) (fun cdv A outer s H vs Q E hr h=>?_)
 ·obtain ⟨a,ps,rows,kk,rfl,_⟩:=h
  rfl
 obtain ⟨a,ps,rows,kk,rfl,hkk,ha,hp,hok,q⟩:=h
 refine ⟨_,pss_cons (ps_for PassesOwn.never rfl (pi_enum rfl T.en (ac (pv 0) pa_nil)) (pg_tup rfl (pgs_cons (pg_name (i:=2) scNumW.nd rfl (Or.inl rfl)) (pgs_cons (pg_name (i:=3) scNumW.nd rfl (Or.inl rfl)) pgs_nil)))
   (pss_one (ps_if (pt_cmpR op_eq (pe_fld (pv 3) rfl) (pv 1) (nomark _)) (pss_one (ps_ret (pv 2))) pss_nil))) (pss_one (ps_ret pe_non)),?_⟩
 refine ⟨_,rfl,a,rfl,⟨_,SqL.of ha⟩,for_enum (K:=K) (a:=a) (xs:=ps.map V.ref) (fun i σ H'=>∃ (v2 v3:Option V),σ = [some (.ref a),some (.str (kw kk)),v2,v3]/\Same H H'/\firstK kk i (rows.drop i) = firstK kk 0 rows)
  ⟨_,_,rfl,Same.refl _,rfl⟩ (fun i σ H' _ ⟨_,_,_,sH,_⟩=>SqL.of (sH _ _ ha)) ?_ ?_⟩
 ·rintro i x p σ H' hx ⟨v2,v3,rfl,sH,hl⟩ hpn
  obtain ⟨pa,hpa,rfl⟩:=refs_at hx
  obtain ⟨r,hr',dx,hdx⟩:=paired_at hp hpa
  have rok:=hok r (List.mem_of_getElem? hr')
  have C:=PP r.k rok.1
  rw [drop_at hr'] at hl
  have hl':(if r.k = kk then some i else firstK kk (i + 1) (rows.drop (i + 1))) = firstK kk 0 rows:=hl
  have sp:=same_new hpn (.tup [.int (i:Nat),.ref pa])
  refine ⟨p,_,rfl,SqT.of upd_same,rfl,_,_,rfl,_,_,rfl,rfl,?_⟩
  refine ⟨_,rfl,pa,_,dx,_,_,rfl,sp _ _ (sH _ _ hdx),C.cl,C.nW,pf_word,_,rfl,rfl,_,rfl,?_⟩
  by_cases e:r.k = kk
  ·refine dT (by rw [e]) ?_
   rw [if_pos e] at hl'
   refine ⟨_,rfl,?_⟩
   have:=q _ (sH.trans sp)
   rw [<- hl'] at this
   exact this
  ·refine dF (fun z=>?_) ?_
   ·have h1:=kw_inj kk hkk r.k rok.1
    rw [decide_eq_true z] at h1
    exact e (by simpa using h1.symm)
   ·rw [if_neg e] at hl'
    exact ⟨_,_,rfl,sH.trans sp,hl'⟩
 ·rintro σ H' ⟨v2,v3,rfl,sH,hl⟩
  have e:firstK kk 0 rows = none:=by
   rw [<- hl,List.length_map,hp.length,List.drop_length]
   rfl
  have:=q _ sH
  rw [e] at this
  exact this
theorem scRBars:FnScope ["bars","bar"] ["bars"] (defScope sRBars):=⟨rfl,rfl,rfl,by decide +kernel,rfl,by decide +kernel,by decide +kernel⟩
theorem ok_rbars {g:Addr} {gd:FuncData} (F:Fun K "refuse_bars_without_name" "refuse_bars_without_name" sRBars f fd) (cI:Callee P w K mg base 1 "is_name" g gd ["thing"] (spIs K)):FnOk P w K mg base CX0 2 f fd ["bars"] spRB:=by
 refine F.ok scRBars (fun vs H Q E h=>?_) (fun cdv A outer s H vs Q E hr h=>?_)
 ·obtain ⟨b,bars,rfl,_⟩:=h
  rfl
 obtain ⟨b,bars,rfl,hb,hn,q⟩:=h
 refine ⟨_,pss_one (ps_for PassesOwn.never rfl (pi_list (pv 0)) (pg_name (i:=1) scRBars.nd rfl (Or.inl rfl)) (pss_one (ps_if (pt_not (pt_val (cF cI hr (ac (pv 1) pa_nil)))) (pss_one ps_dead) pss_nil))),?_⟩
 refine ⟨_,rfl,b,rfl,⟨_,SqL.of hb⟩,for_list (K:=K) (a:=b) (xs:=bars.map V.str) (fun i σ H'=>∃ v1,σ = [some (.ref b),v1]/\Same H H') ⟨_,rfl,Same.refl _⟩ (fun i σ H' _ ⟨_,_,sH⟩=>SqL.of (sH _ _ hb)) ?_ ?_⟩
 ·rintro i x σ H' hx ⟨v1,rfl,sH⟩
  obtain ⟨z,hz,rfl⟩:=strs_at hx
  have nz:=hn z (List.mem_of_getElem? hz)
  refine ⟨_,rfl,_,rfl,.inl ⟨z,rfl,nameB_ok nz⟩,fun H2 s2=>⟨_,rfl,?_⟩⟩
  rw [show nmV (.str z) = true from nz]
  refine iteF ?_
  exact ⟨_,rfl,sH.trans s2⟩
 ·rintro σ H' ⟨v1,rfl,sH⟩
  exact q _ sH
theorem ndPm:([Str.ofString "parameter"]:List Str).Nodup:=by decide +kernel
theorem scRTwice:FnScope ["parameters","bars","seen","name"] ["parameters","bars"] (defScope sRTwice):=⟨rfl,rfl,rfl,by decide +kernel,rfl,by decide +kernel,by decide +kernel⟩
theorem ok_twice {gd:FuncData} (F:Fun K "refuse_twice" "refuse_twice" sRTwice f fd) (T:TxtF w K mg G sg) (PP:Pcs K m c) (GB:FnOk P w K mg base CX0 1 m.fB gd ["self"] (spIn K m bnL)) (bB:Binds K gd ["self"] []):FnOk P w K mg base CX0 2 f fd ["parameters","bars"] (spTw c):=by
 refine F.ok scRTwice (fun vs H Q E h=>?_) (fun cdv A outer s H vs Q E hr h=>?_)
 ·obtain ⟨a,b,ps,rows,bars,rfl,_⟩:=h
  rfl
 obtain ⟨a,b,ps,rows,bars,rfl,ha,hp,hok,l1,hb,l2,nd,q⟩:=h
 have hC:∀ C,Cs5 c C->Cls K C/\Meth K C "by_name" m.fB:=fun C ⟨k,hk,e⟩=>by rw [e]; exact ⟨(PP k hk).cl,(PP k hk).mB⟩
 refine ⟨_,pss_cons (ps_set (i:=2) scRTwice.nd rfl (Or.inl rfl) (pe_callTy0 call_set0 rfl T.set (by decide +kernel:bootBuiltins "set" = some (.type "set"))))
  (pss_one (ps_for PassesOwn.never rfl (pi_list (pe_op op_cat (pe_lc [] ["parameter"] [none] rfl ⟨rfl,rfl,rfl,rfl⟩ (pi_list (pv 0)) (gown_name 0) rfl rfl rfl
    (fun pins fp s H C=>⟨pg_name (i:=0) ndPm rfl (Or.inl rfl) (.inr rfl),pif_one (pt_val (pe_methP (pv 0) hC GB hr bB pass0)),pe_fldK (K:=K) rfl (pv 0) rfl⟩)) (cTy call_list_of T.lst PyProof.Rows.boot_list (ac (pv 1) pa_nil)))) (pg_name (i:=3) scRTwice.nd rfl (Or.inl rfl))
   (pss_cons (ps_if (pt_cmpR op_in_setT (pv 3) (pv 2) (by with_unfolding_all rfl)) (pss_one ps_dead) pss_nil)
   (pss_one (ps_expr (pe_sadd (pv 2) (pv 3) ⟨rfl,rfl,rfl,rfl⟩)))))),?_⟩
 refine ⟨rfl,fun se hse=>?_⟩
 have s1:Same H (upd H se (setO P w se (fun _=>false) 0)):=same_new hse _
 have g1:upd H se (setO P w se (fun _=>false) 0) se = some (setO P w se (fun _=>false) 0):=upd_same
 show tSeq _ _ _ _ (upd H se (setO P w se (fun _=>false) 0))
 generalize upd H se (setO P w se (fun _=>false) 0) = H1 at s1 g1 |-
 have ha1:=s1 _ _ ha
 have hp1:=pats_same s1 hp
 refine ⟨_,rfl,a,rfl,⟨_,SqL.of ha1⟩,fun D hD=>?_⟩
 refine lc_list (K:=K) (xs:=ps.map V.ref) (fun i ys H'=>Same H1 H'/\H' D = some (.lst ys)/\ys = (nms (rows.take i)).map V.str) ⟨same_new hD _,upd_same,rfl⟩ (fun i ys H' h=>SqL.of (h.1 _ _ ha1)) ?_ ?_
 ·rintro i x ys H' hlt hx ⟨sH,hDy,ey⟩
  obtain ⟨pa,hpa,rfl⟩:=refs_at hx
  obtain ⟨r,hr',dx,hdx⟩:=paired_at hp1 hpa
  have rok:=hok r (List.mem_of_getElem? hr')
  have C:=PP r.k rok.1
  have nl:ys.length<=i:=by
   rw [ey,List.length_map]
   unfold nms
   rw [List.length_map]
   refine Nat.le_trans (List.length_filter_le _ _) ?_
   rw [List.length_take]
   omega
  have hd2:=sH _ _ hdx
  refine ⟨_,rfl,pa,_,dx,_,rfl,⟨r.k,rok.1,rfl⟩,hd2,pf_no (by decide +kernel) (by decide +kernel) (by decide +kernel),pa,dx,_,_,_,_,rfl,C,hd2,_,rfl,?_⟩
  rw [in_nm r.k rok.1]
  have tk:=nm_take hr'
  refine ⟨fun e=>?_,fun e=>?_⟩
  ·rw [e,if_pos rfl] at tk
   refine ⟨_,rfl,pa,_,dx,_,_,rfl,hd2,C.cl,C.nN,pf_name,?_⟩
   refine lcN.mk hlt (le1000 (by rw [List.length_map,hp.length]; omega)) hDy nl ⟨fun b u e=>?_,upd_same,?_⟩
   ·rw [upd_ne (ne_of_none e hD)]
    exact sH b u e
   ·rw [ey,tk,List.map_append]
    rfl
  ·rw [e,if_neg Bool.false_ne_true,List.append_nil] at tk
   exact lcS.mk hlt ⟨sH,hDy,by rw [ey,tk]⟩
 rintro ys H2 ⟨s2,hDy,ey⟩
 have ey:ys = (nms rows).map V.str:=by
  rw [ey,List.length_map,hp.length,List.take_length]
 subst ey
 have hb2:=s2 _ _ (s1 _ _ hb)
 refine ⟨_,rfl,b,_,rfl,.inl (SqL.of hb2),fun l hl=>?_⟩
 have s3:=same_new hl (.lst (bars.map V.str))
 have g3:upd H2 l (.lst (bars.map V.str)) l = some (.lst (bars.map V.str)):=upd_same
 generalize upd H2 l (.lst (bars.map V.str)) = H3 at s3 g3 |-
 have ln:(nms rows).length<=500:=by
  unfold nms
  rw [List.length_map]
  exact Nat.le_trans (List.length_filter_le _ _) l1
 refine ⟨D,l,_,_,rfl,rfl,s3 _ _ hDy,g3,le1000 (by rw [List.length_map,List.length_map]; omega),fun l4 hl4=>?_⟩
 rw [<- List.map_append]
 have s4:=same_new hl4 (.lst ((nms rows ++ bars).map V.str))
 have g4:upd H3 l4 (.lst ((nms rows ++ bars).map V.str)) l4 = some (.lst ((nms rows ++ bars).map V.str)):=upd_same
 have nse:l4 ≠ se:=fun z=>by
  rw [z] at hl4
  rw [s3 _ _ (s2 _ _ g1)] at hl4
  cases hl4
 generalize upd H3 l4 (.lst ((nms rows ++ bars).map V.str)) = H4 at s4 g4 |-
 have sA:Same H1 H4:=s2.trans (s3.trans s4)
 have gse:=sA _ _ g1
 refine ⟨l4,rfl,⟨_,SqL.of g4⟩,for_list (K:=K) (a:=l4) (xs:=(nms rows ++ bars).map V.str) (fun i σ H'=>∃ (S:Str->Bool) (n:Nat) (v3:Option V),σ = [some (.ref a),some (.ref b),some (.ref se),v3]/\H' se = some (setO P w se S n)/\(∀ z,S z = decide (z ∈ (nms rows ++ bars).take i))/\n<=i/\(∀ b' u,H4 b' = some u->b' ≠ se->H' b' = some u))
  ⟨_,0,_,rfl,gse,fun z=>by simp,Nat.le_refl _,fun b' u e _=>e⟩ (fun i σ H' _ ⟨_,_,_,_,_,_,_,k⟩=>SqL.of (k _ _ g4 nse)) ?_ ?_⟩
 ·rintro i x σ H' hx ⟨S,n,v3,rfl,hS,hSz,hn,k⟩
  obtain ⟨z,hz,rfl⟩:=strs_at hx
  have hi:i < (nms rows ++ bars).length:=(List.getElem?_eq_some_iff.mp hz).1
  have ez:(nms rows ++ bars)[i] = z:=by rw [List.getElem?_eq_getElem hi] at hz; exact Option.some.inj hz
  have nz:S z = false:=by
   rw [hSz,decide_eq_false_iff_not]
   intro hm
   obtain ⟨j,hj,ej⟩:=List.mem_take_iff_getElem.mp hm
   have:=List.pairwise_iff_getElem.mp nd j i (by omega) hi (by omega)
   exact this (ej.trans ez.symm)
  refine ⟨_,rfl,_,rfl,se,S,n,z,rfl,rfl,hS,_,rfl,?_⟩
  rw [nz]
  refine iteF ?_
  refine ⟨_,rfl,se,S,n,rfl,hS,_,rfl,S,n,z,rfl,hS,?_,?_⟩
  ·rw [List.length_append] at hi
   show n + 1 < 4096
   omega
  ·refine ⟨_,_,_,rfl,upd_same,fun y=>?_,?_,fun b' u e ne=>?_⟩
   ·rw [hSz y,List.take_succ_eq_append_getElem hi,ez]
    simp [List.mem_append]
   ·rw [nz]
    show n + 1<=i + 1
    omega
   ·rw [upd_ne ne]
    exact k b' u e ne
 ·rintro σ H' ⟨S,n,v3,rfl,hS,hSz,hn,k⟩
  refine q _ fun b' u e=>k b' u (sA _ _ (s1 _ _ e)) fun z=>?_
  rw [z,hse] at e
  cases e
end
def SX (f:Addr) (H H':Hp):Prop:=∀ b u,H b = some u->b ≠ f->H' b = some u
theorem SX.same {f:Addr} {H H1 H2:Hp} (x:SX f H H1) (s:Same H1 H2):SX f H H2:=fun b u e n=>s b u (x b u e n)
theorem SX.upd {f:Addr} {H H1:Hp} {o:HO} (x:SX f H H1):SX f H (upd H1 f o):=fun b u e n=>by rw [upd_ne n]; exact x b u e n
theorem SX.refl {f:Addr} {H:Hp}:SX f H H:=fun _ _ e _=>e
theorem putF_le (f:Str) (v:V):∀ fs:List (Str × V),(putF f v fs).length<=fs.length + 1
 | []=>Nat.le_refl _
 | (g,x) :: r=>by
  show (if g = f then (g,v) :: r else (g,x) :: putF f v r).length<=_
  split
  ·simp
  ·have:=putF_le f v r
   simp only [List.length_cons]
   omega
def Pre (fs:List (Str × V)):Prop:=fs.length<=50/\∀ m,m ∉ attrs->fs.lookup m = none
structure FC (K:PySem.W.Frag) (CF:Addr):Prop where
 cl:Cls K CF
 n1:NoAttr K CF "row"
 n2:NoAttr K CF "bar_names"
 n3:NoAttr K CF "place_count"
 n4:NoAttr K CF "tail_number"
 n5:NoAttr K CF "bag_number"
 n6:NoAttr K CF "doors"
def spKeep (c:C5) (CF:Addr):Sp:=fun vs H Q _=>∃ (f a b dx:Addr) (fs:List (Str × V)) (ps:List Addr) (rows:List Rw) (bars:List Str),vs = [.ref f,.ref a,.ref b]/\H f = some (.ins CF dx fs)/\Pre fs/\H a = some (.lst (ps.map V.ref))/\Paired (PAt c H) ps rows/\(∀ r ∈ rows,r.ok)/\rows.length<=500/\H b = some (.lst (bars.map V.str))/\
 ∀ H',SX f H H'->FormN c CF H H' f rows bars->(∃ dx' fs',H' f = some (.ins CF dx' fs')/\fs'.length<=fs.length + 6)->Q .non H'
theorem pl_take {rows:List Rw} {i:Nat} {r:Rw} (h:rows[i]? = some r):plN (rows.take (i + 1)) = plN (rows.take i) + (if byPl r.k = true then 1 else 0):=by
 have hi:i < rows.length:=(List.getElem?_eq_some_iff.mp h).1
 have e:rows[i] = r:=by rw [List.getElem?_eq_getElem hi] at h; exact Option.some.inj h
 unfold plN
 rw [List.take_succ_eq_append_getElem hi,List.filter_append,List.length_append,e]
 cases hb:byPl r.k <;> simp [hb]
theorem doors_len:∀ (rows:List Rw) (i:Nat) (acc:List (Key × V)),(doorsF i acc rows).length<=acc.length + rows.length
 | [],_,_=>Nat.le_refl _
 | r :: rs,i,acc=>by
  have h:=doors_len rs (i + 1) (if byNm r.k = true then putK acc (.inr r.z) (.int i) else acc)
  have h2:(if byNm r.k = true then putK acc (.inr r.z) (.int i) else acc).length<=acc.length + 1:=by
   split
   ·exact length_putK acc _ _
   ·omega
  show (doorsF (i + 1) _ rs).length<=acc.length + (rs.length + 1)
  omega
theorem doorsF_take {r:Rw}:∀ (rows:List Rw) (j i:Nat) (acc:List (Key × V)),rows[i]? = some r->doorsF j acc (rows.take (i + 1)) = (if byNm r.k = true then putK (doorsF j acc (rows.take i)) (.inr r.z) (.int (j + i:Nat)) else doorsF j acc (rows.take i))
 | [],_,_,_,h=>by simp at h
 | r0 :: rs,j,0,acc,h=>by
  have e:r0 = r:=by simpa using h
  subst e
  show (if byNm r0.k = true then putK acc (.inr r0.z) (.int j) else acc) = _
  rfl
 | r0 :: rs,j,i + 1,acc,h=>by
  have:=doorsF_take rs (j + 1) i (if byNm r0.k = true then putK acc (.inr r0.z) (.int j) else acc) (by simpa using h)
  show doorsF (j + 1) _ (rs.take (i + 1)) = _
  rw [this,show j + 1 + i = j + (i + 1) by omega]
  rfl
section
variable {P:Program} {w:World} {K:PySem.W.Frag} {mg:Str->Option Value} {base:Heap} {f G sg CF:Addr} {fd:FuncData} {c:C5} {m:MA}
theorem PAt.ne {H:Hp} {p f CF dx:Addr} {r:Rw} {fs:List (Str × V)} (h:PAt c H p r) (e:H f = some (.ins CF dx fs)) (n:fs.lookup ("word" : Str) = none):p ≠ f:=fun z=>by
 obtain ⟨d,h⟩:=h
 rw [z,e] at h
 injection h with h
 injection h with h1 h2 h3
 rw [h3,pf_word] at n
 cases n
theorem pats_sx {H H':Hp} {f CF dx:Addr} {fs:List (Str × V)} (e:H f = some (.ins CF dx fs)) (n:fs.lookup ("word" : Str) = none) (x:SX f H H') {ps:List Addr} {rows:List Rw} (h:Paired (PAt c H) ps rows):Paired (PAt c H') ps rows:=
 Paired.imp' (fun _ _ z=>by
  have ne:=z.ne e n
  obtain ⟨d,q⟩:=z
  exact ⟨d,x _ _ q ne⟩) h
theorem ndAP:([Str.ofString "at",Str.ofString "parameter"]:List Str).Nodup:=by decide +kernel
theorem scKeep:FnScope ["self","parameters","bars"] ["self","parameters","bars"] (defScope sKeep):=⟨rfl,rfl,rfl,by decide +kernel,rfl,by decide +kernel,by decide +kernel⟩
theorem ok_keep {g:Addr} {gd gp gb:FuncData} (F:Fun K "keep" "Form.keep" sKeep f fd) (T:TxtF w K mg G sg) (PP:Pcs K m c) (FK:FC K CF) (cW:Callee P w K mg base 1 "number_of_word" g gd ["parameters","word"] (spNW c))
  (GP:FnOk P w K mg base CX0 1 m.fP gp ["self"] (spIn K m bpL)) (bP:Binds K gp ["self"] []) (GB:FnOk P w K mg base CX0 1 m.fB gb ["self"] (spIn K m bnL)) (bB:Binds K gb ["self"] []):FnOk P w K mg base CX0 2 f fd ["self","parameters","bars"] (spKeep c CF):=by
 refine F.ok scKeep (fun vs H Q E h=>?_) (fun cdv A outer s H vs Q E hr h=>?_)
 ·obtain ⟨f,a,b,dx,fs,ps,rows,bars,rfl,_⟩:=h
  rfl
 obtain ⟨f,a,b,dx,fs,ps,rows,bars,rfl,hf,⟨pl,pn⟩,ha,hp,hok,l5,hb,q⟩:=h
 have hP:∀ C,Cs5 c C->Cls K C/\Meth K C "by_place" m.fP:=fun C ⟨k,hk,e⟩=>by rw [e]; exact ⟨(PP k hk).cl,(PP k hk).mP⟩
 have hB:∀ C,Cs5 c C->Cls K C/\Meth K C "by_name" m.fB:=fun C ⟨k,hk,e⟩=>by rw [e]; exact ⟨(PP k hk).cl,(PP k hk).mB⟩
 have nw:fs.lookup ("word" : Str) = none:=pn _ (by decide +kernel)
 refine ⟨_,pss_cons (ps_fld (pv 0) (cTy call_list_of T.lst PyProof.Rows.boot_list (ac (pv 1) pa_nil)) rfl)
  (pss_cons (ps_fld (pv 0) (cTy call_list_of T.lst PyProof.Rows.boot_list (ac (pv 2) pa_nil)) rfl)
  (pss_cons (ps_fld (pv 0) (cB call_len_seq T.len PySem.boot_len (ac (pe_lc [] ["parameter"] [none] rfl ⟨rfl,rfl,rfl,rfl⟩ (pi_list (pe_fld (pv 0) rfl)) (gown_name 0) rfl rfl rfl
    (fun pins fp s H C=>⟨pg_name (i:=0) ndPm rfl (Or.inl rfl) (.inr rfl),pif_one (pt_val (pe_methP (pv 0) hP GP hr bP pass0)),pv 0⟩)) pa_nil)) rfl)
  (pss_cons (ps_fld (pv 0) (cF cW hr (ac (pe_fld (pv 0) rfl) (ac pe_str pa_nil))) rfl)
  (pss_cons (ps_fld (pv 0) (cF cW hr (ac (pe_fld (pv 0) rfl) (ac pe_str pa_nil))) rfl)
  (pss_one (ps_fld (pv 0) (pe_dc [] ["at","parameter"] [none,none] rfl ⟨rfl,rfl,rfl,rfl⟩ (pi_enum rfl T.en (ac (pe_fld (pv 0) rfl) pa_nil)) (gown_tup2 (K:=K) (n:=2) 0 1) rfl rfl rfl
    (fun pins fp s H C=>⟨pg_tup rfl (pgs_cons (pg_name (i:=0) ndAP rfl (Or.inl rfl) (.inr rfl)) (pgs_cons (pg_name (i:=1) ndAP rfl (Or.inl rfl) (.inr rfl)) pgs_nil)),pif_one (pt_val (pe_methP (pv 1) hB GB hr bB pass0)),pe_fldK (K:=K) rfl (pv 1) rfl,pv 0⟩)) rfl)))))),?_⟩
 refine ⟨_,rfl,a,_,rfl,.inl (SqL.of ha),fun l1 hl1=>?_⟩
 have s1:=same_new hl1 (.lst (ps.map V.ref))
 refine ⟨_,rfl,f,CF,dx,fs,rfl,s1 _ _ hf,FK.cl,FK.n1,(by omega),?_⟩
 have x1:SX f H (upd (upd H l1 (.lst (ps.map V.ref))) f (.ins CF dx (putF "row" (.ref l1) fs))):=(SX.refl.same s1).upd
 have f1:upd (upd H l1 (.lst (ps.map V.ref))) f (.ins CF dx (putF "row" (.ref l1) fs)) f = some (.ins CF dx (putF "row" (.ref l1) fs)):=upd_same
 have e1:upd (upd H l1 (.lst (ps.map V.ref))) f (.ins CF dx (putF "row" (.ref l1) fs)) l1 = some (.lst (ps.map V.ref)):=by
  rw [upd_ne (fun z=>by rw [z,hf] at hl1; cases hl1),upd_same]
 have p1:=putF_le "row" (.ref l1) fs
 have r1:(putF "row" (.ref l1) fs).lookup ("row" : Str) = some (.ref l1):=by rw [lookup_putF,if_pos rfl]
 show tSeq _ _ _ _ (upd (upd H l1 (.lst (ps.map V.ref))) f (.ins CF dx (putF "row" (.ref l1) fs)))
 generalize upd (upd H l1 (.lst (ps.map V.ref))) f (.ins CF dx (putF "row" (.ref l1) fs)) = H1 at x1 f1 e1 |-
 have nbf:b ≠ f:=ne_of hb hf (by intro z; cases z)
 refine ⟨_,rfl,b,_,rfl,.inl (SqL.of (x1 _ _ hb nbf)),fun l2 hl2=>?_⟩
 have s2:=same_new hl2 (.lst (bars.map V.str))
 have hlb:H l2 = none:=by
  cases e:H l2 with
  | none=>rfl
  | some u=>exact absurd (x1 _ _ e (fun z=>by rw [z,f1] at hl2; cases hl2)) (by rw [hl2]; intro z; cases z)
 refine ⟨_,rfl,f,CF,dx,_,rfl,s2 _ _ f1,FK.cl,FK.n2,(by omega),?_⟩
 have x2:SX f H (upd (upd H1 l2 (.lst (bars.map V.str))) f (.ins CF dx (putF "bar_names" (.ref l2) (putF "row" (.ref l1) fs)))):=(x1.same s2).upd
 have f2:upd (upd H1 l2 (.lst (bars.map V.str))) f (.ins CF dx (putF "bar_names" (.ref l2) (putF "row" (.ref l1) fs))) f = some (.ins CF dx (putF "bar_names" (.ref l2) (putF "row" (.ref l1) fs))):=upd_same
 have g2:upd (upd H1 l2 (.lst (bars.map V.str))) f (.ins CF dx (putF "bar_names" (.ref l2) (putF "row" (.ref l1) fs))) l2 = some (.lst (bars.map V.str)):=by
  rw [upd_ne (fun z=>by rw [z,f1] at hl2; cases hl2),upd_same]
 have e2:upd (upd H1 l2 (.lst (bars.map V.str))) f (.ins CF dx (putF "bar_names" (.ref l2) (putF "row" (.ref l1) fs))) l1 = some (.lst (ps.map V.ref)):=by
  rw [upd_ne (ne_of e1 f1 (by intro z; cases z)),s2 _ _ e1]
 have p2:=putF_le "bar_names" (.ref l2) (putF "row" (.ref l1) fs)
 have r2:(putF "bar_names" (.ref l2) (putF "row" (.ref l1) fs)).lookup ("row" : Str) = some (.ref l1):=by rw [lookup_putF,if_neg (by decide +kernel)]; exact r1
 show tSeq _ _ _ _ (upd (upd H1 l2 (.lst (bars.map V.str))) f (.ins CF dx (putF "bar_names" (.ref l2) (putF "row" (.ref l1) fs))))
 generalize hfs2:putF "bar_names" (.ref l2) (putF "row" (.ref l1) fs) = fs2 at f2 e2 g2 p2 r2 x2 |-
 generalize upd (upd H1 l2 (.lst (bars.map V.str))) f (.ins CF dx fs2) = H2 at x2 f2 e2 g2 |-
 have hp2:=pats_sx hf nw x2 hp
 refine ⟨_,rfl,f,CF,dx,_,_,rfl,f2,FK.cl,FK.n1,r2,l1,rfl,⟨_,SqL.of e2⟩,fun D hD=>?_⟩
 refine lc_list (K:=K) (xs:=ps.map V.ref) (fun i ys H'=>Same H2 H'/\H' D = some (.lst ys)/\ys.length = plN (rows.take i)) ⟨same_new hD _,upd_same,rfl⟩ (fun i ys H' h=>SqL.of (h.1 _ _ e2)) ?_ ?_
 ·rintro i x ys H' hlt hx ⟨sH,hDy,ey⟩
  obtain ⟨pa,hpa,rfl⟩:=refs_at hx
  obtain ⟨r,hr',dx',hdx⟩:=paired_at hp2 hpa
  have rok:=hok r (List.mem_of_getElem? hr')
  have C:=PP r.k rok.1
  have nl:ys.length<=i:=by
   rw [ey]
   unfold plN
   refine Nat.le_trans (List.length_filter_le _ _) ?_
   rw [List.length_take]
   omega
  have hd2:=sH _ _ hdx
  refine ⟨_,rfl,pa,_,dx',_,rfl,⟨r.k,rok.1,rfl⟩,hd2,pf_no (by decide +kernel) (by decide +kernel) (by decide +kernel),pa,dx',_,_,_,_,rfl,C,hd2,_,rfl,?_⟩
  rw [in_pl r.k rok.1]
  have tk:=pl_take hr'
  refine ⟨fun e=>?_,fun e=>?_⟩
  ·rw [e,if_pos rfl] at tk
   refine ⟨_,rfl,lcN.mk hlt (le1000 (by rw [List.length_map,hp.length]; omega)) hDy nl ⟨fun b u e=>?_,upd_same,?_⟩⟩
   ·rw [upd_ne (ne_of_none e hD)]
    exact sH b u e
   ·rw [List.length_append,ey,tk]
    rfl
  ·rw [e,if_neg Bool.false_ne_true] at tk
   exact lcS.mk hlt ⟨sH,hDy,by rw [ey,tk]; rfl⟩
 rintro ys H3 ⟨s3,hDy,ey⟩
 rw [List.length_map,hp.length,List.take_length] at ey
 refine ⟨D,_,rfl,.inl (SqL.of hDy),?_⟩
 rw [ey]
 have x3:=x2.same s3
 refine ⟨_,rfl,f,CF,dx,_,rfl,s3 _ _ f2,FK.cl,FK.n3,(by omega),?_⟩
 have f3:upd H3 f (.ins CF dx (putF "place_count" (.int (plN rows:Nat)) fs2)) f = some (.ins CF dx (putF "place_count" (.int (plN rows:Nat)) fs2)):=upd_same
 have x4:SX f H (upd H3 f (.ins CF dx (putF "place_count" (.int (plN rows:Nat)) fs2))):=x3.upd
 have e4:upd H3 f (.ins CF dx (putF "place_count" (.int (plN rows:Nat)) fs2)) l1 = some (.lst (ps.map V.ref)):=by rw [upd_ne (ne_of e2 f2 (by intro z; cases z))]; exact s3 _ _ e2
 have g4:upd H3 f (.ins CF dx (putF "place_count" (.int (plN rows:Nat)) fs2)) l2 = some (.lst (bars.map V.str)):=by rw [upd_ne (ne_of g2 f2 (by intro z; cases z))]; exact s3 _ _ g2
 have p3:=putF_le "place_count" (.int (plN rows:Nat)) fs2
 have r3:(putF "place_count" (.int (plN rows:Nat)) fs2).lookup ("row" : Str) = some (.ref l1):=by rw [lookup_putF,if_neg (by decide +kernel)]; exact r2
 show tSeq _ _ _ _ (upd H3 f (.ins CF dx (putF "place_count" (.int (plN rows:Nat)) fs2)))
 generalize hfs3:putF "place_count" (.int (plN rows:Nat)) fs2 = fs3 at f3 x4 e4 g4 p3 r3 |-
 generalize upd H3 f (.ins CF dx fs3) = H4 at x4 f3 e4 g4 |-
 refine ⟨_,rfl,f,CF,dx,_,_,rfl,f3,FK.cl,FK.n1,r3,l1,ps,rows,2,rfl,by decide,e4,pats_sx hf nw x4 hp,hok,fun H5 s5=>?_⟩
 refine ⟨_,rfl,f,CF,dx,_,rfl,s5 _ _ f3,FK.cl,FK.n4,(by omega),?_⟩
 have f5:upd H5 f (.ins CF dx (putF "tail_number" (numV (firstK 2 0 rows)) fs3)) f = some (.ins CF dx (putF "tail_number" (numV (firstK 2 0 rows)) fs3)):=upd_same
 have x5:SX f H (upd H5 f (.ins CF dx (putF "tail_number" (numV (firstK 2 0 rows)) fs3))):=(x4.same s5).upd
 have e5:upd H5 f (.ins CF dx (putF "tail_number" (numV (firstK 2 0 rows)) fs3)) l1 = some (.lst (ps.map V.ref)):=by rw [upd_ne (ne_of e4 f3 (by intro z; cases z))]; exact s5 _ _ e4
 have g5:upd H5 f (.ins CF dx (putF "tail_number" (numV (firstK 2 0 rows)) fs3)) l2 = some (.lst (bars.map V.str)):=by rw [upd_ne (ne_of g4 f3 (by intro z; cases z))]; exact s5 _ _ g4
 have p4:=putF_le "tail_number" (numV (firstK 2 0 rows)) fs3
 have r4:(putF "tail_number" (numV (firstK 2 0 rows)) fs3).lookup ("row" : Str) = some (.ref l1):=by rw [lookup_putF,if_neg (by decide +kernel)]; exact r3
 show tSeq _ _ _ _ (upd H5 f (.ins CF dx (putF "tail_number" (numV (firstK 2 0 rows)) fs3)))
 generalize hfs4:putF "tail_number" (numV (firstK 2 0 rows)) fs3 = fs4 at f5 x5 e5 g5 p4 r4 |-
 generalize upd H5 f (.ins CF dx fs4) = H6 at x5 f5 e5 g5 |-
 refine ⟨_,rfl,f,CF,dx,_,_,rfl,f5,FK.cl,FK.n1,r4,l1,ps,rows,4,rfl,by decide,e5,pats_sx hf nw x5 hp,hok,fun H7 s7=>?_⟩
 refine ⟨_,rfl,f,CF,dx,_,rfl,s7 _ _ f5,FK.cl,FK.n5,(by omega),?_⟩
 have f7:upd H7 f (.ins CF dx (putF "bag_number" (numV (firstK 4 0 rows)) fs4)) f = some (.ins CF dx (putF "bag_number" (numV (firstK 4 0 rows)) fs4)):=upd_same
 have x7:SX f H (upd H7 f (.ins CF dx (putF "bag_number" (numV (firstK 4 0 rows)) fs4))):=(x5.same s7).upd
 have e7:upd H7 f (.ins CF dx (putF "bag_number" (numV (firstK 4 0 rows)) fs4)) l1 = some (.lst (ps.map V.ref)):=by rw [upd_ne (ne_of e5 f5 (by intro z; cases z))]; exact s7 _ _ e5
 have g7:upd H7 f (.ins CF dx (putF "bag_number" (numV (firstK 4 0 rows)) fs4)) l2 = some (.lst (bars.map V.str)):=by rw [upd_ne (ne_of g5 f5 (by intro z; cases z))]; exact s7 _ _ g5
 have p5:=putF_le "bag_number" (numV (firstK 4 0 rows)) fs4
 have r5:(putF "bag_number" (numV (firstK 4 0 rows)) fs4).lookup ("row" : Str) = some (.ref l1):=by rw [lookup_putF,if_neg (by decide +kernel)]; exact r4
 generalize hfs5:putF "bag_number" (numV (firstK 4 0 rows)) fs4 = fs5 at f7 x7 e7 g7 p5 r5 |-
 generalize upd H7 f (.ins CF dx fs5) = H8 at x7 f7 e7 g7 |-
 have hp8:=pats_sx hf nw x7 hp
 refine ⟨_,rfl,f,CF,dx,_,_,rfl,f7,FK.cl,FK.n1,r5,l1,rfl,⟨_,SqL.of e7⟩,fun D2 hD2=>?_⟩
 refine dc_enum (K:=K) (xs:=ps.map V.ref) (fun i ys H'=>Same H8 H'/\H' D2 = some (.dK ys)/\ys = doorsF 0 [] (rows.take i)) ⟨same_new hD2 _,upd_same,rfl⟩ (fun i ys H' h=>SqL.of (h.1 _ _ e7)) ?_ ?_
 ·rintro i x p ys H' hlt hx ⟨sH,hDy,ey⟩ hpn
  obtain ⟨pa,hpa,rfl⟩:=refs_at hx
  obtain ⟨r,hr',dx',hdx⟩:=paired_at hp8 hpa
  have rok:=hok r (List.mem_of_getElem? hr')
  have C:=PP r.k rok.1
  have sp:=same_new hpn (.tup [.int (i:Nat),.ref pa])
  have hd2:=sp _ _ (sH _ _ hdx)
  have hDp:upd H' p (.tup [.int (i:Nat),.ref pa]) D2 = some (.dK ys):=by rw [upd_ne (ne_of_none hDy hpn)]; exact hDy
  have nl:ys.length<=i:=by
   rw [ey]
   refine Nat.le_trans (doors_len _ _ _) ?_
   rw [List.length_take]
   show 0 + _<=i
   omega
  refine ⟨p,_,rfl,SqT.of upd_same,rfl,_,_,rfl,_,_,rfl,rfl,?_⟩
  refine ⟨_,rfl,pa,_,dx',_,rfl,⟨r.k,rok.1,rfl⟩,hd2,pf_no (by decide +kernel) (by decide +kernel) (by decide +kernel),pa,dx',_,_,_,_,rfl,C,hd2,_,rfl,?_⟩
  rw [in_nm r.k rok.1]
  have tk:=doorsF_take rows 0 i [] hr'
  refine ⟨fun e=>?_,fun e=>?_⟩
  ·rw [e,if_pos rfl] at tk
   refine ⟨_,rfl,pa,_,dx',_,_,rfl,hd2,C.cl,C.nN,pf_name,_,rfl,dcN.mk (.inr r.z) hlt rfl (le1000 (by rw [List.length_map,hp.length]; omega)) hDp nl ⟨fun b u e=>?_,upd_same,?_⟩⟩
   ·rw [upd_ne (ne_of_none e hD2)]
    exact sp _ _ (sH b u e)
   ·rw [tk,<- ey,Nat.zero_add]
  ·rw [e,if_neg Bool.false_ne_true] at tk
   exact dcS.mk hlt ⟨sH.trans sp,hDp,by rw [ey,tk]⟩
 rintro ys H9 ⟨s9,hDy,ey⟩
 rw [List.length_map,hp.length,List.take_length] at ey
 refine ⟨_,rfl,f,CF,dx,_,rfl,s9 _ _ f7,FK.cl,FK.n6,(by omega),?_⟩
 have nf:∀ {x:Addr} {o:HO},H9 x = some o->(∀ C d g,o ≠ .ins C d g)->upd H9 f (.ins CF dx (putF "doors" (.ref D2) fs5)) x = some o:=fun {x o} e n=>by
  rw [upd_ne (ne_of e (s9 _ _ f7) (by intro z; exact n _ _ _ z))]
  exact e
 refine q _ (x7.same s9).upd ⟨dx,_,l1,l2,D2,ps,upd_same,?_,nf (s9 _ _ e7) (by intro _ _ _ z; cases z),pats_sx hf nw (x7.same s9).upd hp,nf (s9 _ _ g7) (by intro _ _ _ z; cases z),nf (by rw [hDy,ey]) (by intro _ _ _ z; cases z),hl1,hlb⟩ ⟨dx,_,upd_same,Nat.le_trans (putF_le _ _ _) (by omega)⟩
 rw [<- hfs5,<- hfs4,<- hfs3,<- hfs2]
 refine ⟨?_,?_,?_,?_,?_,?_,fun mm hm=>?_⟩
 ·rw [lookup_putF,if_neg (by decide +kernel),lookup_putF,if_neg (by decide +kernel),lookup_putF,if_neg (by decide +kernel),lookup_putF,if_neg (by decide +kernel),lookup_putF,if_neg (by decide +kernel),lookup_putF,if_pos rfl]
 ·rw [lookup_putF,if_neg (by decide +kernel),lookup_putF,if_neg (by decide +kernel),lookup_putF,if_neg (by decide +kernel),lookup_putF,if_neg (by decide +kernel),lookup_putF,if_pos rfl]
 ·rw [lookup_putF,if_neg (by decide +kernel),lookup_putF,if_neg (by decide +kernel),lookup_putF,if_neg (by decide +kernel),lookup_putF,if_pos rfl]
 ·rw [lookup_putF,if_neg (by decide +kernel),lookup_putF,if_neg (by decide +kernel),lookup_putF,if_pos rfl]
 ·rw [lookup_putF,if_neg (by decide +kernel),lookup_putF,if_pos rfl]
 ·rw [lookup_putF,if_pos rfl]
 ·have h':∀ a ∈ attrs,¬ mm = a:=fun a ha e=>hm (e ▸ ha)
  rw [lookup_putF,if_neg (h' _ (by decide +kernel)),lookup_putF,if_neg (h' _ (by decide +kernel)),lookup_putF,if_neg (h' _ (by decide +kernel)),lookup_putF,if_neg (h' _ (by decide +kernel)),lookup_putF,if_neg (h' _ (by decide +kernel)),lookup_putF,if_neg (h' _ (by decide +kernel))]
  exact pn mm hm
end
def spFI (c:C5) (CF:Addr):Sp:=fun vs H Q _=>∃ (f a dx:Addr) (bv:V) (ps:List Addr) (rows:List Rw) (bars:List Str),vs = [.ref f,.ref a,bv]/\H f = some (.ins CF dx [])/\H a = some (.lst (ps.map V.ref))/\Paired (PAt c H) ps rows/\((bv = .non/\bars = [])\/∃ b,bv = .ref b/\H b = some (.lst (bars.map V.str)))/\Valid rows bars/\
 ∀ H',SX f H H'->FormN c CF H H' f rows bars->(∃ dx' fs',H' f = some (.ins CF dx' fs')/\fs'.length<=6)->Q .non H'
def spPars (c:C5) (CF:Addr):Sp:=fun vs H Q _=>∃ (f:Addr) (rows:List Rw) (bars:List Str),vs = [.ref f]/\FormAt c CF H f rows bars/\∀ (l:Addr) (ps:List Addr) (H':Hp),Same H H'->H l = none->H' l = some (.lst (ps.map V.ref))->Paired (PAt c H') ps rows->Q (.ref l) H'
def spBars (c:C5) (CF:Addr):Sp:=fun vs H Q _=>∃ (f:Addr) (rows:List Rw) (bars:List Str),vs = [.ref f]/\FormAt c CF H f rows bars/\∀ (l:Addr) (H':Hp),Same H H'->H l = none->H' l = some (.lst (bars.map V.str))->Q (.ref l) H'
def spPlaces (c:C5) (CF:Addr):Sp:=fun vs H Q _=>∃ (f:Addr) (rows:List Rw) (bars:List Str),vs = [.ref f]/\FormAt c CF H f rows bars/\Q (.int (plN rows:Nat)) H
def spWord (c:C5) (CF:Addr) (kk:Nat):Sp:=fun vs H Q _=>∃ (f:Addr) (rows:List Rw) (bars:List Str),vs = [.ref f]/\FormAt c CF H f rows bars/\Q (numV (firstK kk 0 rows)) H
def spNum (c:C5) (CF:Addr):Sp:=fun vs H Q _=>∃ (f:Addr) (z:Str) (rows:List Rw) (bars:List Str),vs = [.ref f,.str z]/\FormAt c CF H f rows bars/\Q ((valV (doorsF 0 [] rows) (.inr z)).getD .non) H
def TAt (H:Hp) (u:Addr) (r:Rw):Prop:=H u = some (.tup (rv r))
def spFTold (c:C5) (CF:Addr):Sp:=fun vs H Q _=>∃ (f:Addr) (rows:List Rw) (bars:List Str),vs = [.ref f]/\(∀ r ∈ rows,r.ok)/\rows.length<=500/\FormAt c CF H f rows bars/\∀ (t l1 l2:Addr) (us:List Addr) (H':Hp),Same H H'->H l1 = none->H l2 = none->l1 ≠ l2->H' t = some (.tup [.ref l1,.ref l2])->
 H' l1 = some (.lst (us.map V.ref))->Paired (TAt H') us rows->H' l2 = some (.lst (bars.map V.str))->Q (.ref t) H'
theorem tats_same {H H':Hp} {us:List Addr} {rows:List Rw} (s:Same H H') (h:Paired (TAt H) us rows):Paired (TAt H') us rows:=Paired.imp' (fun _ _ z=>s _ _ z) h
section
variable {P:Program} {w:World} {K:PySem.W.Frag} {mg:Str->Option Value} {base:Heap} {f G sg CF:Addr} {fd:FuncData} {c:C5} {m:MA}
theorem scFInit:FnScope ["self","parameters","bars","names"] ["self","parameters","bars"] (defScope sFInit):=⟨rfl,rfl,rfl,by decide +kernel,rfl,by decide +kernel,by decide +kernel⟩
theorem ok_finit {ds:List Value} {g1 g2 g3 g4 g5:Addr} {e1 e2 e3 e4 e5:FuncData} (F:FunD K "__init__" "Form.__init__" sFInit f fd ds) (FK:FC K CF) (mK:Meth K CF "keep" g5)
  (cM:Callee P w K mg base 1 "refuse_too_many" g1 e1 ["parameters","bars"] (spMany K)) (cO:Callee P w K mg base 1 "refuse_bad_order" g2 e2 ["parameters"] (spOrd c)) (cB':Callee P w K mg base 2 "refuse_bars_without_name" g3 e3 ["bars"] spRB) (cT:Callee P w K mg base 2 "refuse_twice" g4 e4 ["parameters","bars"] (spTw c))
  (GK:FnOk P w K mg base CX0 2 g5 e5 ["self","parameters","bars"] (spKeep c CF)) (bK:Binds K e5 ["self","parameters","bars"] []):FnOk P w K mg base CX0 3 f fd ["self","parameters","bars"] (spFI c CF):=by
 refine F.ok scFInit (fun vs H Q E h=>?_) (fun cdv A outer s H vs Q E hr h=>?_)
 ·obtain ⟨f,a,dx,bv,ps,rows,bars,rfl,_⟩:=h
  rfl
 obtain ⟨f,a,dx,bv,ps,rows,bars,rfl,hf,ha,hp,hb,V',q⟩:=h
 have hr1:Room 1 _:=hr.mono (by decide)
 refine ⟨_,pss_cons (ps_set (i:=3) scFInit.nd rfl (Or.inl rfl) (pe_ifExp (pt_cmp (pc_isN (pv 2))) (pe_lst pa_nil) (pv 2)))
  (pss_cons (ps_expr (cF cM hr1 (ac (pv 1) (ac (pv 3) pa_nil))))
  (pss_cons (ps_expr (cF cO hr1 (ac (pv 1) pa_nil)))
  (pss_cons (ps_expr (cF cB' hr (ac (pv 3) pa_nil)))
  (pss_cons (ps_expr (cF cT hr (ac (pv 1) (ac (pv 3) pa_nil))))
  (pss_one (ps_expr (pe_meth (pv 0) FK.cl mK GK hr bK .nil pass0 (ac (pv 1) (ac (pv 3) pa_nil))))))))),?_⟩
 try dsimp only
 refine seq_via (fun σ' H'=>∃ b,σ' = [some (.ref f),some (.ref a),some bv,some (.ref b)]/\Same H H'/\H' b = some (.lst (bars.map V.str))) ?_ (fun key=>?_)
 rotate_left
 ·rcases hb with ⟨rfl,rfl⟩ | ⟨b,rfl,hb⟩
  ·refine ⟨_,rfl,_,rfl,?_⟩
   refine dT rfl ?_
   refine ⟨(by show 0<=sizeLine; decide),fun l hl=>?_⟩
   exact key _ _ ⟨l,rfl,same_new hl _,upd_same⟩
  ·refine ⟨_,rfl,_,rfl,?_⟩
   refine dF (by intro z; cases z) ?_
   exact ⟨_,rfl,key _ _ ⟨b,rfl,Same.refl _,hb⟩⟩
 rintro σ1 H1 ⟨b,rfl,s1,hb1⟩
 have ha1:=s1 _ _ ha
 refine ⟨_,rfl,_,rfl,a,b,_,_,rfl,SqL.of ha1,SqL.of hb1,(by rw [List.length_map,hp.length]; exact V'.l24),(by rw [List.length_map]; exact V'.l60),?_⟩
 refine ⟨_,rfl,a,ps,rows,rfl,ha1,pats_same s1 hp,V'.ok,V'.ord,fun H2 s2=>?_⟩
 refine ⟨_,rfl,b,bars,rfl,s2 _ _ hb1,V'.bn,fun H3 s3=>?_⟩
 have s13:=s1.trans (s2.trans s3)
 refine ⟨_,rfl,_,rfl,a,b,ps,rows,bars,rfl,s13 _ _ ha,pats_same s13 hp,V'.ok,Nat.le_trans V'.l24 (by decide),s3 _ _ (s2 _ _ hb1),Nat.le_trans V'.l60 (by decide),V'.nd,fun H4 s4=>?_⟩
 have s14:=s13.trans s4
 refine ⟨_,rfl,f,dx,_,rfl,s14 _ _ hf,rfl,_,rfl,_,rfl,f,a,b,dx,[],ps,rows,bars,rfl,s14 _ _ hf,⟨by decide,fun _ _=>rfl⟩,s14 _ _ ha,pats_same s14 hp,V'.ok,Nat.le_trans V'.l24 (by decide),s4 _ _ (s3 _ _ (s2 _ _ hb1)),fun H5 x5 F5 L5=>?_⟩
 exact q _ (fun b' u e n=>x5 b' u (s14 _ _ e) n) (F5.of s14) L5
theorem scFPars:FnScope ["self"] ["self"] (defScope sFPars):=⟨rfl,rfl,rfl,by decide +kernel,rfl,by decide +kernel,by decide +kernel⟩
theorem ok_fpars (F:Fun K "parameters" "Form.parameters" sFPars f fd) (T:TxtF w K mg G sg) (FK:FC K CF):FnOk P w K mg base CX0 1 f fd ["self"] (spPars c CF):=by
 refine F.ok scFPars (fun vs H Q E h=>?_) (fun cdv A outer s H vs Q E hr h=>?_)
 ·obtain ⟨f,rows,bars,rfl,_⟩:=h
  rfl
 obtain ⟨f,rows,bars,rfl,⟨dx,fs,lr,lb,ld,ps,h1,h2,h3,h4,h5,h6⟩,q⟩:=h
 refine ⟨_,pss_one (ps_ret (cTy call_list_of T.lst PyProof.Rows.boot_list (ac (pe_fld (pv 0) rfl) pa_nil))),?_⟩
 refine ⟨_,rfl,f,CF,dx,_,_,rfl,h1,FK.cl,FK.n1,h2.row,lr,_,rfl,.inl (SqL.of h3),fun l hl=>?_⟩
 have s1:=same_new hl (.lst (ps.map V.ref))
 exact q l ps _ s1 hl upd_same (pats_same s1 h4)
theorem scFBars:FnScope ["self"] ["self"] (defScope sFBars):=⟨rfl,rfl,rfl,by decide +kernel,rfl,by decide +kernel,by decide +kernel⟩
theorem ok_fbars (F:Fun K "bars" "Form.bars" sFBars f fd) (T:TxtF w K mg G sg) (FK:FC K CF):FnOk P w K mg base CX0 1 f fd ["self"] (spBars c CF):=by
 refine F.ok scFBars (fun vs H Q E h=>?_) (fun cdv A outer s H vs Q E hr h=>?_)
 ·obtain ⟨f,rows,bars,rfl,_⟩:=h
  rfl
 obtain ⟨f,rows,bars,rfl,⟨dx,fs,lr,lb,ld,ps,h1,h2,h3,h4,h5,h6⟩,q⟩:=h
 refine ⟨_,pss_one (ps_ret (cTy call_list_of T.lst PyProof.Rows.boot_list (ac (pe_fld (pv 0) rfl) pa_nil))),?_⟩
 refine ⟨_,rfl,f,CF,dx,_,_,rfl,h1,FK.cl,FK.n2,h2.bn,lb,_,rfl,.inl (SqL.of h5),fun l hl=>?_⟩
 exact q l _ (same_new hl _) hl upd_same
theorem scFPlaces:FnScope ["self"] ["self"] (defScope sFPlaces):=⟨rfl,rfl,rfl,by decide +kernel,rfl,by decide +kernel,by decide +kernel⟩
theorem ok_fplaces (F:Fun K "places" "Form.places" sFPlaces f fd) (FK:FC K CF):FnOk P w K mg base CX0 1 f fd ["self"] (spPlaces c CF):=by
 refine F.ok scFPlaces (fun vs H Q E h=>?_) (fun cdv A outer s H vs Q E hr h=>?_)
 ·obtain ⟨f,rows,bars,rfl,_⟩:=h
  rfl
 obtain ⟨f,rows,bars,rfl,⟨dx,fs,lr,lb,ld,ps,h1,h2,h3,h4,h5,h6⟩,q⟩:=h
 exact ⟨_,pss_one (ps_ret (pe_fld (pv 0) rfl)),_,rfl,f,CF,dx,_,_,rfl,h1,FK.cl,FK.n3,h2.pc,q⟩
theorem scFTail:FnScope ["self"] ["self"] (defScope sFTail):=⟨rfl,rfl,rfl,by decide +kernel,rfl,by decide +kernel,by decide +kernel⟩
theorem ok_ftail (F:Fun K "tail" "Form.tail" sFTail f fd) (FK:FC K CF):FnOk P w K mg base CX0 1 f fd ["self"] (spWord c CF 2):=by
 refine F.ok scFTail (fun vs H Q E h=>?_) (fun cdv A outer s H vs Q E hr h=>?_)
 ·obtain ⟨f,rows,bars,rfl,_⟩:=h
  rfl
 obtain ⟨f,rows,bars,rfl,⟨dx,fs,lr,lb,ld,ps,h1,h2,h3,h4,h5,h6⟩,q⟩:=h
 exact ⟨_,pss_one (ps_ret (pe_fld (pv 0) rfl)),_,rfl,f,CF,dx,_,_,rfl,h1,FK.cl,FK.n4,h2.tn,q⟩
theorem scFBag:FnScope ["self"] ["self"] (defScope sFBag):=⟨rfl,rfl,rfl,by decide +kernel,rfl,by decide +kernel,by decide +kernel⟩
theorem ok_fbag (F:Fun K "bag" "Form.bag" sFBag f fd) (FK:FC K CF):FnOk P w K mg base CX0 1 f fd ["self"] (spWord c CF 4):=by
 refine F.ok scFBag (fun vs H Q E h=>?_) (fun cdv A outer s H vs Q E hr h=>?_)
 ·obtain ⟨f,rows,bars,rfl,_⟩:=h
  rfl
 obtain ⟨f,rows,bars,rfl,⟨dx,fs,lr,lb,ld,ps,h1,h2,h3,h4,h5,h6⟩,q⟩:=h
 exact ⟨_,pss_one (ps_ret (pe_fld (pv 0) rfl)),_,rfl,f,CF,dx,_,_,rfl,h1,FK.cl,FK.n5,h2.bg,q⟩
theorem scFNum:FnScope ["self","name"] ["self","name"] (defScope sFNum):=⟨rfl,rfl,rfl,by decide +kernel,rfl,by decide +kernel,by decide +kernel⟩
theorem ok_fnum (F:Fun K "number_of" "Form.number_of" sFNum f fd) (FK:FC K CF):FnOk P w K mg base CX0 1 f fd ["self","name"] (spNum c CF):=by
 refine F.ok scFNum (fun vs H Q E h=>?_) (fun cdv A outer s H vs Q E hr h=>?_)
 ·obtain ⟨f,z,rows,bars,rfl,_⟩:=h
  rfl
 obtain ⟨f,z,rows,bars,rfl,⟨dx,fs,lr,lb,ld,ps,h1,h2,h3,h4,h5,h6⟩,q⟩:=h
 refine ⟨_,pss_one (ps_ret (pe_dget1 (hu_of hr) (pe_fld (pv 0) rfl) (pv 1) ⟨rfl,rfl,rfl,rfl⟩)),?_⟩
 refine ⟨_,rfl,f,CF,dx,_,_,rfl,h1,FK.cl,FK.n6,h2.dr,ld,rfl,?_,_,rfl,_,.inl ⟨_,.inr z,.inl h6,rfl,rfl⟩,q⟩
 exact .inl ⟨_,.inl h6⟩
theorem scFTold:FnScope ["self"] ["self"] (defScope sFTold):=⟨rfl,rfl,rfl,by decide +kernel,rfl,by decide +kernel,by decide +kernel⟩
theorem ok_ftold {gd:FuncData} (F:Fun K "told" "Form.told" sFTold f fd) (T:TxtF w K mg G sg) (FK:FC K CF) (PP:Pcs K m c) (GO:FnOk P w K mg base CX0 2 m.fO gd ["self"] (spTold K m)) (bO:Binds K gd ["self"] []):FnOk P w K mg base CX0 3 f fd ["self"] (spFTold c CF):=by
 refine F.ok scFTold (fun vs H Q E h=>?_) (fun cdv A outer s H vs Q E hr h=>?_)
 ·obtain ⟨f,rows,bars,rfl,_⟩:=h
  rfl
 obtain ⟨f,rows,bars,rfl,hok,l5,⟨dx,fs,lr,lb,ld,ps,h1,h2,h3,h4,h5,h6⟩,q⟩:=h
 have hO:∀ C,Cs5 c C->Cls K C/\Meth K C "told" m.fO:=fun C ⟨k,hk,e⟩=>by rw [e]; exact ⟨(PP k hk).cl,(PP k hk).mO⟩
 refine ⟨_,pss_one (ps_ret (pe_tup (ac (pe_lc [] ["parameter"] [none] rfl ⟨rfl,rfl,rfl,rfl⟩ (pi_list (pe_fld (pv 0) rfl)) (gown_name 0) rfl rfl rfl
   (fun pins fp s H C=>⟨pg_name (i:=0) ndPm rfl (Or.inl rfl) (.inr rfl),pif_nil,pe_methP (pv 0) hO GO hr bO pass0⟩)) (ac (cTy call_list_of T.lst PyProof.Rows.boot_list (ac (pe_fld (pv 0) rfl) pa_nil)) pa_nil)))),?_⟩
 refine ⟨_,rfl,f,CF,dx,_,_,rfl,h1,FK.cl,FK.n1,h2.row,lr,rfl,⟨_,SqL.of h3⟩,fun D hD=>?_⟩
 refine lc_list (K:=K) (xs:=ps.map V.ref) (fun i ys H'=>Same H H'/\H' D = some (.lst ys)/\∃ us,ys = us.map V.ref/\Paired (TAt H') us (rows.take i)) ⟨same_new hD _,upd_same,[],rfl,.nil⟩ (fun i ys H' h=>SqL.of (h.1 _ _ h3)) ?_ ?_
 ·rintro i x ys H' hlt hx ⟨sH,hDy,us,ey,pu⟩
  obtain ⟨pa,hpa,rfl⟩:=refs_at hx
  obtain ⟨r,hr',dx',hdx⟩:=paired_at h4 hpa
  have rok:=hok r (List.mem_of_getElem? hr')
  have C:=PP r.k rok.1
  have hd2:=sH _ _ hdx
  have hi:i < rows.length:=(List.getElem?_eq_some_iff.mp hr').1
  have er:rows[i] = r:=by rw [List.getElem?_eq_getElem hi] at hr'; exact Option.some.inj hr'
  refine ⟨fun _=>?_,fun e=>Bool.noConfusion e⟩
  refine ⟨_,rfl,pa,_,dx',_,rfl,⟨r.k,rok.1,rfl⟩,hd2,pf_no (by decide +kernel) (by decide +kernel) (by decide +kernel),pa,dx',_,r.k,.str r.z,r.b,rfl,rok.1,C,hd2,fun u H2 s2 hu2=>?_⟩
  have nl:ys.length<=i:=by
   rw [ey,List.length_map,pu.length,List.length_take]
   omega
  have nDu:u ≠ D:=fun z=>by
   rw [z,s2 _ _ hDy] at hu2
   cases hu2
  refine lcN.mk hlt (le1000 (by rw [List.length_map,h4.length]; omega)) (s2 _ _ hDy) nl ⟨fun b u' e=>?_,upd_same,us ++ [u],by rw [ey,List.map_append]; rfl,?_⟩
  ·rw [upd_ne (ne_of_none e hD)]
   exact s2 _ _ (sH b u' e)
  ·rw [List.take_succ_eq_append_getElem hi,er]
   refine Paired.snoc (Paired.imp' (fun v r' z=>?_) pu) ?_
   ·have z2:H2 v = some (.tup (rv r')):=s2 _ _ z
    show upd H2 D _ v = some (.tup (rv r'))
    rw [upd_ne (fun e=>by rw [e,s2 _ _ hDy] at z2; cases z2)]
    exact z2
   ·show upd H2 D _ u = some (.tup (rv r))
    rw [upd_ne nDu]
    exact hu2
 rintro ys H2 ⟨s2,hDy,us,rfl,pu⟩
 rw [List.length_map,h4.length,List.take_length] at pu
 refine ⟨_,rfl,f,CF,dx,_,_,rfl,s2 _ _ h1,FK.cl,FK.n2,h2.bn,lb,_,rfl,.inl (SqL.of (s2 _ _ h5)),fun l2 hl2=>?_⟩
 have s3:=same_new hl2 (.lst (bars.map V.str))
 refine ⟨(by show 2<=sizeLine; decide),fun t ht=>?_⟩
 have s4:=same_new ht (.tup [.ref D,.ref l2])
 exact q t D l2 us _ (s2.trans (s3.trans s4)) hD (s2.free hl2) (ne_of_none hDy hl2) upd_same (s4 _ _ (s3 _ _ hDy)) (tats_same (s3.trans s4) pu) (s4 _ _ upd_same)
end
end K81
namespace L2
open PySem PySem.Spec PyProof.Rows
section
variable {X:Cx} {pins:List (Addr × Obj)} {σ : St} {H:Hp} {s:Shared}
theorem Inv.freeze (I:Inv X pins σ H s) {l:Addr} {kvs:List (Key × V)} (hl:H l = some (.dK kvs)):∃ o,s.heap.get? l = some o/\Inv X pins σ (upd H l (.frz o (.dK kvs))) s:=by
 obtain ⟨hz,hy,vs,r,o,es,ep,ho,c⟩:=id (I.hok l _ hl)
 refine ⟨o,ho,⟨I.ok,I.os,I.bare,⟨I.base.keep,I.base.slot,fun b u e n x=>?_,I.base.there,fun b xs e=>?_,fun b u v e=>?_,fun b ps e=>?_⟩,I.loc,I.cell,?_,fun x c e=>?_,fun p hp'=>?_,fun b u e=>?_,I.len⟩⟩
 ·have e1:=I.base.free b u e n x
  rw [upd_ne (ne_of_none hl e1).symm]; exact e1
 ·have e1:=I.base.tups b xs e
  rw [upd_ne (ne_of e1 hl (by intro z; cases z))]; exact e1
 ·have e1:=I.base.frzs b u v e
  rw [upd_ne (ne_of e1 hl (by intro z; cases z))]; exact e1
 ·obtain ⟨more,e1⟩:=I.base.tbls b ps e
  exact ⟨more,by rw [upd_ne (ne_of e1 hl (by intro z; cases z))]; exact e1⟩
 ·rw [upd_ne (ne_of_none hl I.free).symm]; exact I.free
 ·rw [upd_ne (ne_of_none hl (I.freeC x c e)).symm]; exact I.freeC x c e
 ·obtain ⟨q1,q2,q3⟩:=I.pin p hp'
  exact ⟨q1,by rw [upd_ne (ne_of_none hl q2).symm]; exact q2,q3⟩
 ·have ho':∀ c,∀ b,H b = some (.own c)->upd H l (.frz o (.dK kvs)) b = some (.own c):=fun c b q=>by rw [upd_ne (ne_of q hl (by intro z; cases z))]; exact q
  have ht':∀ b xs,H b = some (.tup xs)->upd H l (.frz o (.dK kvs)) b = some (.tup xs):=fun b xs q=>by rw [upd_ne (ne_of q hl (by intro z; cases z))]; exact q
  by_cases hb:b = l
  ·subst hb; rw [upd_same] at e; cases e
   exact ⟨ho,(I.hok b _ hl).stay (fun _ _ _ q=>q) (ho' b) ht'⟩
  ·rw [upd_ne hb] at e
   exact (I.hok b u e).stay (fun _ _ _ q=>q) (ho' b) ht'
def tFrz (te:TE):TE:=fun σ H Q=>te σ H fun x H1=>∃ l kvs,x = .ref l/\H1 l = some (.dK kvs)/\∀ o,Q x (upd H1 l (.frz o (.dK kvs)))
theorem pe_frz {e:Expr} {te:TE} (h:PE X e te):PE X e (tFrz te):=by
 refine ⟨?_⟩
 intro pins s σ H Q I hw
 refine thn (h pins s σ H _ I hw) fun v s1 ⟨x,H1,I1,r1,l,kvs,ex,hl,q⟩=>?_
 obtain ⟨o,_,I2⟩:=I1.freeze hl
 exact ⟨x,_,I2,r1,q o⟩
end
theorem rel_key {k:Key} {u:Value} (h:keyIs k u = true):RelV (kV k) u:=by
 rcases keyIs_shape h with ⟨i,t,rfl,rfl⟩ | ⟨x,t,rfl,rfl⟩
 ·exact ⟨t,rfl⟩
 ·exact ⟨t,rfl⟩
def Itd (d:Addr) (o:Obj) (kvs:List (Key × V)):It:=
 ⟨fun i H=>H d = some (.frz o (.dK kvs))/\i < kvs.length,fun i H x H'=>∃ (p:Addr) (k:Key) (v:V),x = .ref p/\H p = none/\kvs[i]? = some (k,v)/\H' = upd H p (.tup [kV k,v]),fun i H=>H d = some (.frz o (.dK kvs))/\kvs.length<=i⟩
theorem frz_at {X:Cx} {pins:List (Addr × Obj)} {σ : St} {H:Hp} {s:Shared} {d:Addr} {o:Obj} {kvs:List (Key × V)} {es:Array DictEntry} {ep:Nat} (I:Inv X pins σ H s) (hd:H d = some (.frz o (.dK kvs))) (ho:o.data = .dict es ep) :
  (d == sysModules) = false/\∃ vs,KV kvs vs/\s.heap.DictAt (mixKind X.prog X.w) d vs ep:=by
 obtain ⟨e,hz,hy,vs,r,o',es',ep',ho',c1,c2,c3⟩:=id (I.hok d _ hd)
 rw [e] at ho'
 cases ho'
 rw [ho] at c2
 cases c2
 exact ⟨hy,vs,r,o,es,e,c1,ho,c3⟩
theorem entry_itemiter_iter:entryFor table "dict_itemiterator.__iter__" = some Builtin.«dict_keyiterator.__iter__»:=entryFor_alias (id':="dict_keyiterator.__iter__") (by kernel_rfl) (by first | rfl | decide +kernel | (unfold String.splitOn; simp +decide [String.splitOnAux])) (by decide +kernel) (by kernel_rfl)
theorem wpAny_pyIter_itemiter {P:Program} {w:World} {A:Around} {E:Value->Shared->Prop} {s:Shared} {it d:Addr} {i n ep:Nat} {ok ov:Value} {Q:Value->Shared->Prop} (he:IsItemIter s.heap it d i n ep ok ov) (h:Q (.ref it) s):wpAny (model P w) A (pyIter (.ref it)) Q E s:=by
 have hT:s.TypeIs (.ref it) "dict_itemiterator":=⟨_,he,rfl⟩
 refine wpAny_pyIter_slot hT F.slot_dict_itemiterator_iter (wpAny_call_entry F.slot_dict_itemiterator_iter hT entry_itemiter_iter ?_ (F.args_dict_itemiterator_iter_1 _))
 show wpAny _ _ (ret (.ref it)) _ _ s
 exact wpAny_pure ⟨_,rfl,"dict_itemiterator",_,hT,F.slot_dict_itemiterator_next.lookup,h⟩
theorem turn_items {P:Program} {w:World} {K:PySem.W.Frag} {elts:List Expr} {x1:Nat} {tpos:Pos} (d it:Addr) (o:Obj) (kvs:List (Key × V)) (es:Array DictEntry) (ep:Nat) (ho:o.data = .dict es ep) :
  Turn P w K (.Tuple elts x1 tpos) (Itd d o kvs) [it] it (fun i h=>∃ ok ov,IsItemIter h it d i kvs.length ep ok ov) where
 mem:=by simp
 obj:=fun i h st b hb=>by
  have e':b = it:=by simpa using hb
  subst e'
  obtain ⟨ok,ov,hi⟩:=st
  exact ⟨_,hi,fun v q=>by cases q⟩
 keep:=fun i h h' st k=>by
  obtain ⟨ok,ov,hi⟩:=st
  exact ⟨ok,ov,k it (by simp) _ hi⟩
 item:=by
  intro X hP hw hK hc i pins s σ H E I hf st hg
  subst hP hw hK
  obtain ⟨f0,f1,f2,f3,f4,f5⟩:=hf it (by simp)
  obtain ⟨ok,ov,hit⟩:=st
  obtain ⟨hd,hlt⟩:=hg
  obtain ⟨hy,vs,r,hm⟩:=frz_at I hd ho
  have hl:kvs.length = vs.length:=r.length
  obtain ⟨⟨k2,u⟩,hu,ek,ru⟩:=Paired.get r (List.getElem?_eq_getElem hlt)
  rw [hl] at hit
  obtain ⟨k,v,hkv⟩:∃ k v,kvs[i] = (k,v):=⟨_,_,rfl⟩
  have ek:k = k2:=by rw [hkv] at ek; exact ek
  have ru2:RelV v u:=by rw [hkv] at ru; exact ru
  subst ek
  refine wpAny_pyNext_items_item hit hm hu fun key h' hk2 he' htup hsz hkp=>?_
  have rk:RelV (kV k) key:=rel_key hk2
  have I0:Inv X pins σ H { s with heap:=h' }:=I.turned (t':=s.toks) (it:=it) hkp f0 f1 f3 f4 f5
  have hfr:H s.heap.objs.size = none:=I.hok.fresh (Nat.le_refl _)
  have I1:Inv X pins σ (upd H s.heap.objs.size (.tup [kV k,v])) { s with heap:=h' }:=by
   have hok:HOk X.prog X.w (upd H s.heap.objs.size (.tup [kV k,v])) h':=fun b o q=>by
    by_cases hb:b = s.heap.objs.size
    ·subst hb
     rw [upd_same] at q; cases q
     exact ⟨by show 2<=sizeLine; decide,[key,u],.cons rk (.cons ru2 .nil),⟨_,htup,rfl,_,rfl⟩⟩
    ·rw [upd_ne hb] at q
     exact (I0.hok b o q).stay (fun _ _ _ z=>z) (fun c z=>by rw [upd_ne (ne_of_none z hfr)]; exact z) fun c xs' z=>by rw [upd_ne (ne_of_none z hfr)]; exact z
   refine I0.step (s:={ s with heap:=h' }) (g':=s.gens) (d':=s.drawn) (h':=h') (t':=s.toks) (ch:=[s.heap.objs.size]) (fun b hb=>?_) (fun b o _ _ _ e1 _=>e1) (fun b o _ _ _ e1 _=>⟨o.slots,e1⟩) (fun b o hb e1 n=>by rw [upd_ne (fun z=>hb (by simp [z]))]; exact n)
    (fun b o _ e1=>⟨o,e1⟩) (fun b xs' e1=>by rw [upd_ne (ne_of_none e1 hfr)]; exact e1) (fun b o' u' e1=>by rw [upd_ne (ne_of_none e1 hfr)]; exact e1) (fun b ps e1=>⟨#[],by rw [upd_ne (ne_of_none e1 hfr),e1]; simp⟩) (fun m hm=>hm) hok I0.bare
   have e':b = s.heap.objs.size:=by simpa using hb
   subst e'
   refine ⟨.inr I.sz,fun z=>?_,fun y c h z=>?_,fun p hp' z=>?_⟩
   ·have:=I.lt; rw [<- z] at this; exact absurd this (Nat.lt_irrefl _)
   ·obtain ⟨v',hv⟩:=I.cell y c h
    have:=hv.lt; rw [z] at this; exact absurd this (Nat.lt_irrefl _)
   ·have:=I.pin_lt hp'; rw [z] at this; exact absurd this (Nat.lt_irrefl _)
  refine ⟨_,rfl,wpAny_letOwnedTupleGo_items he' fun h2 he2 hs2=>?_⟩
  have nis:s.heap.objs.size ≠ it:=fun z=>by
   have:=Heap.lt_size (show s.heap.get? it = some _ from hit)
   rw [<- z] at this; exact absurd this (Nat.lt_irrefl _)
  have I2:Inv X pins σ (upd H s.heap.objs.size (.tup [kV k,v])) { s with heap:=h2 }:=
   I1.turned (s:={ s with heap:=h' }) (t':=s.toks) (it:=it) (fun b o hb q=>(hs2.2 b hb).trans q) (by rw [upd_ne nis.symm]; exact f0) f1 f3 f4 f5
  refine ⟨.ref s.heap.objs.size,_,I2,rfl,⟨_,k,v,rfl,hfr,by rw [List.getElem?_eq_getElem hlt,hkv],rfl⟩,⟨_,_,by rw [hl]; exact he2⟩,fun b hb=>?_⟩
  have e':b = it:=by simpa using hb
  subst e'
  rw [upd_ne nis.symm]; exact f0
 done:=by
  intro X hP hw hK hc i pins s σ H E I hf st hg
  subst hP hw hK
  obtain ⟨ok,ov,hit⟩:=st
  obtain ⟨f0,f1,f2,f3,f4,f5⟩:=hf it (by simp)
  obtain ⟨hd,hle⟩:=hg
  obtain ⟨hy,vs,r,hm⟩:=frz_at I hd ho
  have hl:kvs.length = vs.length:=r.length
  rw [hl] at hit
  exact wpAny_pyNext_items_end (I.ok.hd hc) hit hm (List.getElem?_eq_none (by omega)) fun h' eb=>⟨rfl,I.turned (t':=s.toks) (fun b o hb e1=>eb b o hb e1) f0 f1 f3 f4 f5⟩
 self:=fun A i s Q E st h=>by
  obtain ⟨ok,ov,hit⟩:=st
  exact wpAny_pyIter_itemiter hit h
section
variable {X:Cx} {elts:List Expr} {x1:Nat} {tpos:Pos}
def iItems (te:TE):TI:=fun σ H R=>te σ H fun x H1=>∃ d o kvs,x = .ref d/\H1 d = some (.frz o (.dK kvs))/\R (Itd d o kvs) H1
theorem pi_items {l:Expr} {te:TE} {apos cpos:Pos} (hl:PE X l te) (hbase:attributeBase l "items" X.env (eval l X.env) = eval l X.env:=by rfl) (hline:(apos.endLine == cpos.line) = true:=by rfl) :
  PI X (.Tuple elts x1 tpos) (.Call (.Attribute l "items" apos) [] [] cpos) (iItems te):=by
 refine ⟨?_⟩
 intro pins s σ H R I h
 refine wpAny_Call_method0_late hbase hline (thn (hl pins s σ H _ I h) fun v s1 ⟨x,H1,I1,r1,d,o,kvs,ex,hd,q⟩=>?_)
 subst ex
 cases r1
 obtain ⟨e,hz,hy,vs,r,o',es,ep,ho',c1,c2,c3⟩:=id (I1.hok d _ hd)
 rw [e] at ho'
 cases ho'
 have hm:s1.heap.DictAt (mixKind X.prog X.w) d vs ep:=⟨o,es,e,c1,c2,c3⟩
 refine ⟨"dict","dict.items",F.plainAttrs_dict,F.slot_dict_items,F.type_dict_items,⟨o,e,c1.1⟩,fun a ea=>by cases ea; exact ⟨o,e,c1.2.1⟩,Calls.callWith_builtin rfl (PySem.evalArgs_none ?_)⟩
 refine call_meetsIn F.slot_dict_items ⟨o,e,c1.1⟩ F.entry_dict_items (F.args_dict_items_1 _) (meets_dict_items (mixKind X.prog X.w) d hy) ⟨⟨vs,hm.dictOf⟩,?_⟩
 show wpAny _ _ (pyIter (.ref s1.heap.objs.size)) _ _ _
 have hl:kvs.length = vs.length:=r.length
 refine wpAny_pyIter_items (knd:=mixKind X.prog X.w) (d:=d) (kvs:=vs) (ep:=ep) ⟨_,Heap.get?_push_size _ rfl,rfl,rfl⟩ (hm.push _) ?_
 have hk:∀ b ob,s1.heap.get? b = some ob->((s1.heap.push { cls:=.type "dict_items",data:=.fields #[.ref d] }).push { cls:=.type "dict_itemiterator",data:=.fields #[.none,.bool false,.ref d,.int 0 0,.int vs.length 0,.int ep 0,.none,.none] }).get? b = some ob:=fun b ob q=>Heap.get?_push_of_some _ (Heap.get?_push_of_some _ q)
 have I2:=I1.kept (t':=s1.toks) hk
 have hsz:(s1.heap.push { cls:=.type "dict_items",data:=.fields #[.ref d] }).objs.size = s1.heap.objs.size + 1:=Heap.size_push ..
 refine ⟨(s1.heap.push { cls:=.type "dict_items",data:=.fields #[.ref d] }).objs.size,[(s1.heap.push { cls:=.type "dict_items",data:=.fields #[.ref d] }).objs.size],_,Itd d o kvs,H1,rfl,I2,turn_items d _ o kvs es ep c2,⟨.none,.none,?_⟩,fun b hb=>?_,q⟩
 ·rw [hl]
  exact Heap.get?_push_size (s1.heap.push { cls:=.type "dict_items",data:=.fields #[.ref d] }) (o:={ cls:=.type "dict_itemiterator",data:=.fields #[.none,.bool false,.ref d,.int 0 0,.int vs.length 0,.int ep 0,.none,.none] }) rfl
 ·have e':b = (s1.heap.push { cls:=.type "dict_items",data:=.fields #[.ref d] }).objs.size:=by simpa using hb
  subst e'
  rw [hsz]
  exact I1.fpOk (Nat.le_succ _) (I1.hok.fresh (Nat.le_succ _))
theorem for_items {d:Addr} {o:Obj} {kvs:List (Key × V)} {g:TG} {tb:TS} {D:Ends} {σ : St} {H:Hp} (Pv:Nat->St->Hp->Prop) (h0:Pv 0 σ H) (hl:∀ i σ H,i<=kvs.length->Pv i σ H->H d = some (.frz o (.dK kvs)))
  (hs:∀ i k v p σ H,kvs[i]? = some (k,v)->Pv i σ H->H p = none->g (.ref p) σ (upd H p (.tup [kV k,v])) fun σ2 H2=>tb { D with nx:=Pv (i + 1),ct:=Pv (i + 1),bk:=D.nx } σ2 H2) (hd:∀ σ H,Pv kvs.length σ H->D.nx σ H) :
  ∃ W:Nat->Nat->St->Hp->Prop,(∃ m,W 0 m σ H)/\∀ i m σ H,W i m σ H->
   ((Itd d o kvs).stop i H/\D.nx σ H)\/((Itd d o kvs).go i H/\∃ N:St->Hp->Prop,(∀ σ' H',N σ' H'->∃ m',m' < m/\W (i + 1) m' σ' H')/\∀ x H',(Itd d o kvs).yld i H x H'->g x σ H' fun σ2 H2=>tb { D with nx:=N,ct:=N,bk:=D.nx } σ2 H2):=by
 refine ⟨fun i m σ H=>m = kvs.length - i/\i<=kvs.length/\Pv i σ H,⟨kvs.length,by simp,Nat.zero_le _,h0⟩,?_⟩
 rintro i m σ H ⟨rfl,hi,p⟩
 have q:=hl i σ H hi p
 by_cases hlt:i < kvs.length
 ·refine .inr ⟨⟨q,hlt⟩,Pv (i + 1),fun σ' H' p'=>⟨kvs.length - (i + 1),by omega,rfl,hlt,p'⟩,fun x H' y=>?_⟩
  obtain ⟨pp,k,v,rfl,hp,y2,rfl⟩:=y
  exact hs i k v pp σ H y2 p hp
 ·have e:i = kvs.length:=by omega
  subst e
  exact .inl ⟨⟨q,Nat.le_refl _⟩,hd σ H p⟩
end
theorem rc_T {X:Cx} {pins:List (Addr × Obj)} {σ : St} {H:Hp} {s:Shared} {A:Around} {a b:Addr} {xs ys:List V} (I:Inv X pins σ H s) (ha:SqT X.K H a xs) (hb:SqT X.K H b ys) (fx:xs.all flatV = true) (fy:ys.all flatV = true) (hu:A.units + 8 < cLine) :
  SeqAt.RcAt A s (.ref a) (.ref b) (eqT xs ys):=by
 obtain ⟨ia,va,pa,_⟩:=I.tuple ha
 obtain ⟨ib,vb,pb,_⟩:=I.tuple hb
 have la:ia.toArray.size = xs.length:=by rw [List.size_toArray]; exact va.length.symm
 have lb:ib.toArray.size = ys.length:=by rw [List.size_toArray]; exact vb.length.symm
 have:=SeqAt.RcAt.tuples (A:=A) (s:=s) (e:=fun j=>eqV (xs[j]?.getD .non) (ys[j]?.getD .non)) (show s.heap.IsTuple a ia.toArray from pa) (show s.heap.IsTuple b ib.toArray from pb) (by omega) (fun j h1 h2=>by
  have j1:j < ia.length:=by simpa using h1
  have j2:j < ib.length:=by simpa using h2
  have hxl:j < xs.length:=by rw [va.length]; exact j1
  have hyl:j < ys.length:=by rw [vb.length]; exact j2
  obtain ⟨u',e1,e2⟩:=va.get (i:=j) (List.getElem?_eq_getElem hxl)
  obtain ⟨v',e3,e4⟩:=vb.get (i:=j) (List.getElem?_eq_getElem hyl)
  rw [List.getElem?_eq_getElem j1] at e1
  rw [List.getElem?_eq_getElem j2] at e3
  cases e1; cases e3
  have q:=eqAt_V (A:=A.in1) (s:=s) e2 e4 (List.all_eq_true.mp fx _ (List.getElem_mem hxl)) (List.all_eq_true.mp fy _ (List.getElem_mem hyl))
  simpa [hxl,hyl] using q)
 rw [la,lb] at this
 exact this
def rEqTup (K:PySem.W.Frag):R2:=fun x y H Q=>∃ (a c:Addr) (xs ys:List V),x = .ref a/\y = .ref c/\SqT K H a xs/\SqT K H c ys/\xs.all flatV = true/\ys.all flatV = true/\Q (.bl (eqT xs ys)) H
theorem op_eqTup {X:Cx} (hu:X.A.units + 64 < cLine):OpR X (compareOp .Eq) (rEqTup X.K):=by
 intro pins s σ H x y v u Q I rx ry h
 obtain ⟨a,c,xs,ys,rfl,rfl,ha,hc,fx,fy,q⟩:=h
 cases rx; cases ry
 exact rc_T (A:=X.A) I ha hc fx fy (by omega) X.prog X.w X.xe _ ⟨.bl _,H,I,rfl,q⟩
end L2
namespace K81
open PySem L2 PyProof.Rows
inductive Item where
 | one (t:Int) | row (ts:List Int) | named (n:Str) (t:Int) | book (ps:List (Str × Int))
def pairD (p:Str × Int):Dt:=.tup [.str p.1,.int p.2]
def itemD:Item->Dt
 | .one t=>.tup [.str "one",.int t]
 | .row ts=>.tup [.str "row",.lst (ts.map .int)]
 | .named n t=>.tup [.str "named",.str n,.int t]
 | .book ps=>.tup [.str "book",.lst (ps.map pairD)]
def itT:Item->List Int
 | .one t=>[t]
 | .row ts=>ts
 | _=>[]
def itP:Item->List (Str × Int)
 | .named n t=>[(n,t)]
 | .book ps=>ps
 | _=>[]
def laidT (c:List Item):List Int:=(c.map itT).flatten
def laidP (c:List Item):List (Str × Int):=(c.map itP).flatten
abbrev T':Addr->Prop:=fun _=>True
def Two (K:PySem.W.Frag) (H H':Hp) (p:Addr) (ts:List Int) (ps:List (Str × Int)):Prop:=
 ∃ l1 l2 xs,H l1 = none/\H l2 = none/\l1 ≠ l2/\H p = none/\H' p = some (.tup [.ref l1,.ref l2])/\H' l1 = some (.lst (ts.map V.int))/\H' l2 = some (.lst xs)/\Paired (Says K T' H' 1) xs (ps.map pairD)
def spLaid (K:PySem.W.Frag):Sp:=fun vs H Q _=>∃ (a:Addr) (c:List Item) (xs:List V),vs = [.ref a]/\SqL K H a xs/\Paired (Says K T' H 3) xs (c.map itemD)/\(laidT c).length<=900/\(laidP c).length<=900/\
 ∀ (p:Addr) (H':Hp),Same H H'->Two K H H' p (laidT c) (laidP c)->Q (.ref p) H'
section
variable {P:Program} {w:World} {K:PySem.W.Frag} {mg:Str->Option Value} {base:Heap} {f:Addr} {fd:FuncData}
end
section
variable {K:PySem.W.Frag} {ok:Addr->Prop} {H H':Hp} {n:Nat} {x:V}
theorem says_int {i:Int} (h:Says K ok H n x (.int i)):x = .int i:=by
 have fl:FlatD x (.int i)->x = .int i:=fun h=>by
  cases x <;> first | exact h.elim | (have e:=(show _ = _ from h); rw [e])
 cases n with
 | zero=>exact fl h
 | succ n=>
  rcases h with h | ⟨_,_,_,_,e,_⟩ | ⟨_,_,_,_,e,_⟩
  ·exact fl h
  ·cases e
  ·cases e
theorem says_str {z:Str} (h:Says K ok H n x (.str z)):x = .str z:=by
 have fl:FlatD x (.str z)->x = .str z:=fun h=>by
  cases x <;> first | exact h.elim | (have e:=(show _ = _ from h); rw [e])
 cases n with
 | zero=>exact fl h
 | succ n=>
  rcases h with h | ⟨_,_,_,_,e,_⟩ | ⟨_,_,_,_,e,_⟩
  ·exact fl h
  ·cases e
  ·cases e
theorem says_tup {ds:List Dt} (h:Says K ok H (n + 1) x (.tup ds)):∃ a xs,x = .ref a/\SqT K H a xs/\Paired (Says K ok H n) xs ds:=by
 rcases h with h | ⟨a,xs,ds',e1,e2,e3,r⟩ | ⟨_,_,_,_,e,_⟩
 ·cases x <;> exact h.elim
 ·cases e2; exact ⟨a,xs,e1,e3,r⟩
 ·cases e
theorem says_lst {ds:List Dt} (h:Says K ok H (n + 1) x (.lst ds)):∃ a xs,x = .ref a/\ok a/\H a = some (.lst xs)/\Paired (Says K ok H n) xs ds:=by
 rcases h with h | ⟨_,_,_,_,e,_⟩ | ⟨a,xs,ds',e1,e2,o,e3,r⟩
 ·cases x <;> exact h.elim
 ·cases e
 ·cases e2; exact ⟨a,xs,e1,o,e3,r⟩
theorem says_ints:∀ {ts:List Int} {xs:List V},Paired (Says K ok H n) xs (ts.map .int)->xs = ts.map V.int
 | [],_,r=>by cases r; rfl
 | t :: ts,_,r=>by
  cases r with
  | cons h r=>rw [says_int h,says_ints r]; rfl
theorem paired_app {α β : Type} {F : α->β->Prop}:∀ {a c:List α} {b d:List β},Paired F a b->Paired F c d->Paired F (a ++ c) (b ++ d)
 | _,_,_,_,.nil,s=>s
 | _,_,_,_,.cons r t,s=>.cons r (paired_app t s)
theorem item_one {t:Int} (h:Says K ok H 3 x (itemD (.one t))):∃ a,x = .ref a/\SqT K H a [.str "one",.int t]:=by
 obtain ⟨a,xs,rfl,hS,r⟩:=says_tup h
 cases r with
 | cons h1 r=>cases r with
  | cons h2 r=>cases r; rw [says_str h1,says_int h2] at hS; exact ⟨a,rfl,hS⟩
theorem item_row {ts:List Int} (h:Says K ok H 3 x (itemD (.row ts))):∃ a b,x = .ref a/\SqT K H a [.str "row",.ref b]/\ok b/\H b = some (.lst (ts.map V.int)):=by
 obtain ⟨a,xs,rfl,hS,r⟩:=says_tup h
 cases r with
 | cons h1 r=>cases r with
  | cons h2 r=>
   cases r
   obtain ⟨b,ys,rfl,o,hb,q⟩:=says_lst h2
   rw [says_str h1] at hS
   rw [says_ints q] at hb
   exact ⟨a,b,rfl,hS,o,hb⟩
theorem item_named {z:Str} {t:Int} (h:Says K ok H 3 x (itemD (.named z t))):∃ a,x = .ref a/\SqT K H a [.str "named",.str z,.int t]:=by
 obtain ⟨a,xs,rfl,hS,r⟩:=says_tup h
 cases r with
 | cons h1 r=>cases r with
  | cons h2 r=>cases r with
   | cons h3 r=>cases r; rw [says_str h1,says_str h2,says_int h3] at hS; exact ⟨a,rfl,hS⟩
theorem item_book {ps:List (Str × Int)} (h:Says K ok H 3 x (itemD (.book ps))):∃ a b ys,x = .ref a/\SqT K H a [.str "book",.ref b]/\ok b/\H b = some (.lst ys)/\Paired (Says K ok H 1) ys (ps.map pairD):=by
 obtain ⟨a,xs,rfl,hS,r⟩:=says_tup h
 cases r with
 | cons h1 r=>cases r with
  | cons h2 r=>
   cases r
   obtain ⟨b,ys,rfl,o,hb,q⟩:=says_lst h2
   rw [says_str h1] at hS
   exact ⟨a,b,ys,rfl,hS,o,hb,q⟩
end
theorem laidT_snoc (c:List Item) (i:Nat) (it:Item) (h:c[i]? = some it):laidT (c.take (i + 1)) = laidT (c.take i) ++ itT it:=by
 unfold laidT
 rw [List.take_add_one,h,List.map_append,List.flatten_append]
 simp
theorem laidP_snoc (c:List Item) (i:Nat) (it:Item) (h:c[i]? = some it):laidP (c.take (i + 1)) = laidP (c.take i) ++ itP it:=by
 unfold laidP
 rw [List.take_add_one,h,List.map_append,List.flatten_append]
 simp
theorem laidT_le (c:List Item) (i:Nat):(laidT (c.take i)).length<=(laidT c).length:=by
 unfold laidT
 conv=>rhs; rw [<- List.take_append_drop i c]
 rw [List.map_append,List.flatten_append,List.length_append]
 omega
theorem laidP_le (c:List Item) (i:Nat):(laidP (c.take i)).length<=(laidP c).length:=by
 unfold laidP
 conv=>rhs; rw [<- List.take_append_drop i c]
 rw [List.map_append,List.flatten_append,List.length_append]
 omega
theorem ne1:¬ (V.str "row" = V.str "one"):=by decide +kernel
theorem ne2:¬ (V.str "named" = V.str "one"):=by decide +kernel
theorem ne3:¬ (V.str "book" = V.str "one"):=by decide +kernel
theorem ne4:¬ (V.str "named" = V.str "row"):=by decide +kernel
theorem ne5:¬ (V.str "book" = V.str "row"):=by decide +kernel
theorem ne6:¬ (V.str "book" = V.str "named"):=by decide +kernel
section
variable {P:Program} {w:World} {K:PySem.W.Frag} {mg:Str->Option Value} {base:Heap} {f:Addr} {fd:FuncData}
theorem scLaid:FnScope ["call","things","pairs","item","word"] ["call"] (defScope sLaid):=⟨rfl,rfl,rfl,by decide +kernel,rfl,by decide +kernel,by decide +kernel⟩
theorem same_upd {H H2:Hp} {l:Addr} (s:Same H H2) (h:H l = none) (o:HO):Same H (upd H2 l o):=fun b u q=>by rw [upd_ne (ne_of_none q h)]; exact s b u q
theorem ok_laid (F:Fun K "laid" "laid" sLaid f fd):FnOk P w K mg base CX0 1 f fd ["call"] (spLaid K):=by
 refine F.ok scLaid (fun vs H Q E h=>?_) (fun cdv A outer s H vs Q E hr h=>?_)
 ·obtain ⟨a,c,xs,rfl,_⟩:=h
  rfl
 obtain ⟨a,c,xs,rfl,hS,hc,hT,hP,q⟩:=h
 refine ⟨_,pss_cons (ps_set (i:=1) scLaid.nd rfl (Or.inl rfl) (pe_lst pa_nil)) (pss_cons (ps_set (i:=2) scLaid.nd rfl (Or.inl rfl) (pe_lst pa_nil))
  (pss_cons (ps_for PassesOwn.never rfl (pi_list (pv 0)) (pg_name (i:=3) scLaid.nd rfl (Or.inl rfl))
   (pss_cons (ps_set (i:=4) scLaid.nd rfl (Or.inl rfl) (pe_ix ix_tup (pv 3) pe_int (fun _ _=>rfl)))
   (pss_one (ps_if (pt_cmpR op_eq (pv 4) pe_str (nomark _)) (pss_one (ps_expr (pe_bm PySem.F.plainAttrs_list PySem.F.slot_list_append PySem.F.type_list_append mt_append (pv 1) (ac (pe_ix ix_tup (pv 3) pe_int (fun _ _=>rfl)) pa_nil))))
    (pss_one (ps_if (pt_cmpR op_eq (pv 4) pe_str (nomark _)) (pss_one (ps_expr (pe_bm PySem.F.plainAttrs_list PySem.F.slot_list_extend PySem.F.type_list_extend mt_extend (pv 1) (ac (pe_ix ix_tup (pv 3) pe_int (fun _ _=>rfl)) pa_nil))))
     (pss_one (ps_if (pt_cmpR op_eq (pv 4) pe_str (nomark _)) (pss_one (ps_expr (pe_bm PySem.F.plainAttrs_list PySem.F.slot_list_append PySem.F.type_list_append mt_append (pv 2) (ac (pe_tup (ac (pe_ix ix_tup (pv 3) pe_int (fun _ _=>rfl)) (ac (pe_ix ix_tup (pv 3) pe_int (fun _ _=>rfl)) pa_nil))) pa_nil))))
      (pss_one (ps_expr (pe_bm PySem.F.plainAttrs_list PySem.F.slot_list_extend PySem.F.type_list_extend mt_extend (pv 2) (ac (pe_ix ix_tup (pv 3) pe_int (fun _ _=>rfl)) pa_nil))))))))))))
  (pss_one (ps_ret (pe_tup (ac (pv 1) (ac (pv 2) pa_nil))))))),?_⟩
 refine ⟨(by show 0<=sizeLine; decide),fun l1 h1=>?_⟩
 refine ⟨(by show 0<=sizeLine; decide),fun l2 h2=>?_⟩
 have n12:l1 ≠ l2:=ne_of_none upd_same h2
 have f2:H l2 = none:=(same_new h1 _).free h2
 have s0:Same H (upd (upd H l1 (.lst [])) l2 (.lst [])):=(same_new h1 _).trans (same_new h2 _)
 refine ⟨_,rfl,a,rfl,⟨_,s0.seq hS⟩,for_list (K:=K) (a:=a) (xs:=xs) (fun i σ H2=>∃ v3 v4 ys,σ = [some (.ref a),some (.ref l1),some (.ref l2),v3,v4]/\Same H H2/\H2 l1 = some (.lst ((laidT (c.take i)).map V.int))/\H2 l2 = some (.lst ys)/\Paired (Says K T' H2 1) ys ((laidP (c.take i)).map pairD))
  ⟨_,_,[],rfl,s0,by rw [upd_ne n12,upd_same]; rfl,upd_same,.nil⟩ (fun i σ H2 _ ⟨_,_,_,_,s2,_⟩=>s2.seq hS) ?_ ?_⟩
 ·rintro i y σ H2 hi ⟨v3,v4,ys,rfl,s2,g1,g2,gp⟩
  obtain ⟨d,hd,hy⟩:=Paired.get hc hi
  obtain ⟨it,hit,rfl⟩:∃ it,c[i]? = some it/\itemD it = d:=by
   rw [List.getElem?_map] at hd
   cases e:c[i]? with
   | none=>rw [e] at hd; cases hd
   | some it=>rw [e] at hd; exact ⟨it,rfl,Option.some.inj hd⟩
  have hy2:=hy.same s2
  have eT:=laidT_snoc c i it hit
  have eP:=laidP_snoc c i it hit
  have lT:=laidT_le c i
  have lP:=laidP_le c i
  have lT1:=laidT_le c (i + 1)
  have lP1:=laidP_le c (i + 1)
  have lys:ys.length = (laidP (c.take i)).length:=by rw [gp.length,List.length_map]
  have sT:∀ {H3:Hp} {o:HO} {l:Addr},H3 l = none\/(∃ zs,H3 l = some (.lst zs))->∀ {b zs},SqT K H3 b zs->SqT K (upd H3 l o) b zs:=fun {H3 o l} hl {b zs} hz=>by
   rcases hz with (z | ⟨u,z⟩) | z
   ·refine .inl (.inl ?_)
    have:b ≠ l:=fun e=>by
     subst e
     rcases hl with e | ⟨_,e⟩
     ·rw [e] at z; cases z
     ·rw [e] at z; cases z
    rw [upd_ne this]; exact z
   ·refine .inl (.inr ⟨u,?_⟩)
    have:b ≠ l:=fun e=>by
     subst e
     rcases hl with e | ⟨_,e⟩
     ·rw [e] at z; cases z
     ·rw [e] at z; cases z
    rw [upd_ne this]; exact z
   ·exact .inr z
  have keepP:∀ {H3:Hp} {o:HO} {l:Addr} {zs:List V} {ps:List (Str × Int)},H3 l = none\/(∃ zs,H3 l = some (.lst zs))->Paired (Says K T' H3 1) zs (ps.map pairD)->Paired (Says K T' (upd H3 l o) 1) zs (ps.map pairD):=by
   intro H3 o l zs ps hl r
   induction ps generalizing zs with
   | nil=>cases r; exact .nil
   | cons p ps ih=>
    cases r with
    | cons h r=>
     refine .cons ?_ (ih r)
     obtain ⟨b,ws,rfl,hS',r'⟩:=says_tup h
     exact .tup (sT hl hS') (Paired.imp' (fun _ _ z=>z) r')
  cases it with
  | one t=>
   obtain ⟨b,rfl,hb⟩:=item_one hy2
   refine ⟨_,rfl,b,_,_,.str "one",rfl,rfl,hb,rfl,?_⟩
   refine ⟨_,rfl,rfl,_,rfl,?_⟩
   refine dT rfl ?_
   refine ⟨_,rfl,.inl ⟨rfl,_,SqL.of g1⟩,_,rfl,b,_,_,.int t,rfl,rfl,hb,rfl,l1,_,_,rfl,rfl,g1,?_,?_⟩
   ·rw [List.length_map]; exact small1000 (by omega)
   ·refine ⟨_,_,ys,rfl,same_upd s2 h1 _,?_,?_,?_⟩
    ·rw [upd_same,eT,List.map_append]; rfl
    ·rw [upd_ne n12.symm]; exact g2
    ·rw [eP]; show Paired _ _ ((laidP (c.take i) ++ []).map pairD); rw [List.append_nil]; exact keepP (.inr ⟨_,g1⟩) gp
  | row ts=>
   obtain ⟨b,bl,rfl,hb,_,hbl⟩:=item_row hy2
   refine ⟨_,rfl,b,_,_,.str "row",rfl,rfl,hb,rfl,?_⟩
   refine ⟨_,rfl,rfl,_,rfl,?_⟩
   refine dF ne1 ?_
   refine ⟨_,rfl,rfl,_,rfl,?_⟩
   refine dT rfl ?_
   refine ⟨_,rfl,.inl ⟨rfl,_,SqL.of g1⟩,_,rfl,b,_,_,.ref bl,rfl,rfl,hb,rfl,l1,bl,_,_,rfl,rfl,g1,hbl,?_,?_⟩
   ·have e1:(laidT (c.take (i + 1))).length = (laidT (c.take i)).length + ts.length:=by rw [eT,List.length_append]; rfl
    rw [List.length_map,List.length_map]; exact le1000 (by omega)
   ·refine ⟨_,_,ys,rfl,same_upd s2 h1 _,?_,?_,?_⟩
    ·rw [upd_same,eT,List.map_append]; rfl
    ·rw [upd_ne n12.symm]; exact g2
    ·rw [eP]; show Paired _ _ ((laidP (c.take i) ++ []).map pairD); rw [List.append_nil]; exact keepP (.inr ⟨_,g1⟩) gp
  | named z t=>
   obtain ⟨b,rfl,hb⟩:=item_named hy2
   refine ⟨_,rfl,b,_,_,.str "named",rfl,rfl,hb,rfl,?_⟩
   refine ⟨_,rfl,rfl,_,rfl,?_⟩
   refine dF ne2 ?_
   refine ⟨_,rfl,rfl,_,rfl,?_⟩
   refine dF ne4 ?_
   refine ⟨_,rfl,rfl,_,rfl,?_⟩
   refine dT rfl ?_
   refine ⟨_,rfl,.inl ⟨rfl,_,SqL.of g2⟩,_,rfl,b,_,_,.str z,rfl,rfl,hb,rfl,_,rfl,b,_,_,.int t,rfl,rfl,hb,rfl,(by show 2<=sizeLine; decide),fun p hp=>?_⟩
   have np2:l2 ≠ p:=ne_of_none g2 hp
   have np1:l1 ≠ p:=ne_of_none g1 hp
   have fp:H p = none:=s2.free hp
   refine ⟨l2,_,_,rfl,rfl,(by rw [upd_ne np2]; exact g2),?_,?_⟩
   ·rw [lys]; exact small1000 (by omega)
   ·refine ⟨_,_,ys ++ [.ref p],rfl,same_upd (same_upd s2 fp _) f2 _,?_,upd_same,?_⟩
    ·rw [upd_ne n12,upd_ne np1,g1,eT]; show _ = some (HO.lst ((laidT (c.take i) ++ []).map V.int)); rw [List.append_nil]
    ·rw [eP,List.map_append]
     refine paired_app (keepP (.inr ⟨_,by rw [upd_ne np2]; exact g2⟩) (keepP (.inl hp) gp)) (.cons (.tup (xs:=[.str z,.int t]) (SqT.of ?_) (.cons .str (.cons .int .nil))) .nil)
     rw [upd_ne np2.symm,upd_same]
  | book ps=>
   obtain ⟨b,bl,zs,rfl,hb,_,hbl,hz⟩:=item_book hy2
   refine ⟨_,rfl,b,_,_,.str "book",rfl,rfl,hb,rfl,?_⟩
   refine ⟨_,rfl,rfl,_,rfl,?_⟩
   refine dF ne3 ?_
   refine ⟨_,rfl,rfl,_,rfl,?_⟩
   refine dF ne5 ?_
   refine ⟨_,rfl,rfl,_,rfl,?_⟩
   refine dF ne6 ?_
   have lz:zs.length = ps.length:=by rw [hz.length,List.length_map]
   refine ⟨_,rfl,.inl ⟨rfl,_,SqL.of g2⟩,_,rfl,b,_,_,.ref bl,rfl,rfl,hb,rfl,l2,bl,_,_,rfl,rfl,g2,hbl,?_,?_⟩
   ·have e1:(laidP (c.take (i + 1))).length = (laidP (c.take i)).length + ps.length:=by rw [eP,List.length_append]; rfl
    rw [lys,lz]; exact le1000 (by omega)
   ·refine ⟨_,_,ys ++ zs,rfl,same_upd s2 f2 _,?_,upd_same,?_⟩
    ·rw [upd_ne n12,g1,eT]; show _ = some (HO.lst ((laidT (c.take i) ++ []).map V.int)); rw [List.append_nil]
    ·rw [eP,List.map_append]
     exact paired_app (keepP (.inr ⟨_,g2⟩) gp) (keepP (.inr ⟨_,g2⟩) hz)
 ·rintro σ H2 ⟨v3,v4,ys,rfl,s2,g1,g2,gp⟩
  refine ⟨_,rfl,_,rfl,(by show 2<=sizeLine; decide),fun p hp=>?_⟩
  have hl:xs.length = c.length:=by rw [hc.length,List.length_map]
  rw [hl,List.take_length] at g1 gp
  refine q p _ (s2.trans (same_new hp _)) ⟨l1,l2,ys,h1,f2,n12,s2.free hp,upd_same,?_,?_,Paired.imp' (fun _ _ z=>z.same (same_new hp _)) gp⟩
  ·rw [upd_ne (ne_of_none g1 hp)]; exact g1
  ·rw [upd_ne (ne_of_none g2 hp)]; exact g2
end
theorem pair_get {ps:List (Str × Int)} {i:Nat} {d:Dt} (h:(ps.map pairD)[i]? = some d):∃ p,ps[i]? = some p/\pairD p = d:=by
 rw [List.getElem?_map] at h
 cases e:ps[i]? with
 | none=>rw [e] at h; cases h
 | some it=>rw [e] at h; exact ⟨it,rfl,Option.some.inj h⟩
theorem pair_says {K:PySem.W.Frag} {ok:Addr->Prop} {H:Hp} {n:Nat} {x:V} {p:Str × Int} (h:Says K ok H (n + 1) x (pairD p)):∃ b,x = .ref b/\SqT K H b [.str p.1,.int p.2]:=by
 obtain ⟨a,xs,rfl,hS,r⟩:=says_tup h
 cases r with
 | cons h1 r=>cases r with
  | cons h2 r=>cases r; rw [says_str h1,says_int h2] at hS; exact ⟨a,rfl,hS⟩
section
variable {P:Program} {w:World} {K:PySem.W.Frag} {mg:Str->Option Value} {base:Heap} {f:Addr} {fd:FuncData}
end
theorem iteB {A B:Prop} {b:Bool} (h:b = true) (a:A):if b = true then A else B:=by rw [h]; exact iteT a
theorem iteC {A B:Prop} {b:Bool} (h:b = false) (a:B):if b = true then A else B:=by rw [h]; exact iteF a
section
variable {P:Program} {w:World} {K:PySem.W.Frag} {mg:Str->Option Value} {base:Heap} {f:Addr} {fd:FuncData}
section
variable {H H':Hp} {p l1 l2 l:Addr} {ys:List V} {ts:List Int} {ps:List (Str × Int)} {o:HO}
end
end
def namesOf (c:List Item):List Str:=(laidP c).map (·.1)
def spShape (K:PySem.W.Frag):Sp:=fun vs H Q _=>∃ (a:Addr) (c:List Item) (xs:List V),vs = [.ref a]/\SqL K H a xs/\Paired (Says K T' H 3) xs (c.map itemD)/\(laidT c).length<=900/\(laidP c).length<=900/\
 ∀ (p l:Addr) (H':Hp),Same H H'->H l = none->H' p = some (.tup [.int ((laidT c).length:Nat),.ref l])->H' l = some (.lst ((namesOf c).map V.str))->Q (.ref p) H'
def fstF:Nat->List (Key × V)->List Str->List (Key × V)
 | _,acc,[]=>acc
 | i,acc,z :: zs=>fstF (i + 1) (if (valV acc (.inr z)).isSome = true then acc else putK acc (.inr z) (.int i)) zs
theorem fstF_snoc {z:Str}:∀ (zs:List Str) (j i:Nat) (acc:List (Key × V)),zs[i]? = some z->fstF j acc (zs.take (i + 1)) = (if (valV (fstF j acc (zs.take i)) (.inr z)).isSome = true then fstF j acc (zs.take i) else putK (fstF j acc (zs.take i)) (.inr z) (.int (j + i:Nat)))
 | [],_,_,_,h=>by simp at h
 | y :: ys,j,0,acc,h=>by
  have e:y = z:=by simpa using h
  subst e
  rfl
 | y :: ys,j,i + 1,acc,h=>by
  have:=fstF_snoc ys (j + 1) i (if (valV acc (.inr y)).isSome = true then acc else putK acc (.inr y) (.int j)) (by simpa using h)
  show fstF (j + 1) _ (ys.take (i + 1)) = _
  rw [this,show j + 1 + i = j + (i + 1) by omega]
  rfl
theorem fstF_len:∀ (zs:List Str) (i:Nat) (acc:List (Key × V)),(fstF i acc zs).length<=acc.length + zs.length
 | [],_,_=>Nat.le_refl _
 | z :: zs,i,acc=>by
  have h:=fstF_len zs (i + 1) (if (valV acc (.inr z)).isSome = true then acc else putK acc (.inr z) (.int i))
  have h2:(if (valV acc (.inr z)).isSome = true then acc else putK acc (.inr z) (.int i)).length<=acc.length + 1:=by
   split
   ·omega
   ·exact length_putK acc _ _
  show (fstF (i + 1) _ zs).length<=acc.length + (zs.length + 1)
  omega
def spFirsts:Sp:=fun vs H Q _=>∃ (a:Addr) (zs:List Str),vs = [.ref a]/\H a = some (.lst (zs.map V.str))/\zs.length<=900/\∀ (l:Addr) (o:Obj) (H':Hp),Same H H'->H l = none->H' l = some (.frz o (.dK (fstF 0 [] zs)))->Q (.ref l) H'
section
variable {P:Program} {w:World} {K:PySem.W.Frag} {mg:Str->Option Value} {base:Heap} {f CF:Addr} {fd:FuncData} {c:C5} {m:MA}
theorem ndNT:([Str.ofString "name",Str.ofString "thing"]:List Str).Nodup:=by decide +kernel
theorem scShape:FnScope ["call","things","pairs"] ["call"] (defScope sShape):=⟨rfl,rfl,rfl,by decide +kernel,rfl,by decide +kernel,by decide +kernel⟩
theorem ok_shape {g:Addr} {gd:FuncData} (F:Fun K "shape" "shape" sShape f fd) (hlen:mg "len" = none) (cL:Callee P w K mg base 1 "laid" g gd ["call"] (spLaid K)):FnOk P w K mg base CX0 2 f fd ["call"] (spShape K):=by
 refine F.ok scShape (fun vs H Q E h=>?_) (fun cdv A outer s H vs Q E hr h=>?_)
 ·obtain ⟨a,c,xs,rfl,_⟩:=h
  rfl
 obtain ⟨a,c,xs,rfl,hS,hc,lT,lP,q⟩:=h
 refine ⟨_,pss_cons (ps_asg (cF cL hr (ac (pv 0) pa_nil)) (pg_tup rfl (pgs_cons (pg_name (i:=1) scShape.nd rfl (Or.inl rfl)) (pgs_cons (pg_name (i:=2) scShape.nd rfl (Or.inl rfl)) pgs_nil))))
  (pss_one (ps_ret (pe_tup (ac (cB call_len_seq hlen PySem.boot_len (ac (pv 1) pa_nil)) (ac (pe_lc [] ["name","thing"] [none,none] rfl ⟨rfl,rfl,rfl,rfl⟩ (pi_list (pv 2)) (gown_tup2 (K:=K) (n:=2) 0 1) rfl rfl rfl
   (fun pins fp s H C=>⟨pg_tup rfl (pgs_cons (pg_name (i:=0) ndNT rfl (Or.inl rfl) (.inr rfl)) (pgs_cons (pg_name (i:=1) ndNT rfl (Or.inl rfl) (.inr rfl)) pgs_nil)),pif_nil,pv 0⟩)) pa_nil))))),?_⟩
 refine ⟨_,rfl,a,c,xs,rfl,hS,hc,lT,lP,fun p H1 s1 two=>?_⟩
 obtain ⟨l1,l2,ys,n1,n2,n12,np,ep,e1,e2,gp⟩:=two
 refine ⟨p,_,rfl,SqT.of ep,rfl,_,_,rfl,_,_,rfl,rfl,?_⟩
 refine ⟨_,rfl,l1,_,rfl,.inl (SqL.of e1),_,rfl,l2,rfl,⟨_,SqL.of e2⟩,fun D hD=>?_⟩
 have lys:ys.length = (laidP c).length:=by rw [gp.length,List.length_map]
 refine lc_list (K:=K) (xs:=ys) (fun i zs H'=>Same H1 H'/\H' D = some (.lst zs)/\zs = ((namesOf c).take i).map V.str) ⟨same_new hD _,upd_same,rfl⟩ (fun i zs H' h=>SqL.of (h.1 _ _ e2)) ?_ ?_
 ·rintro i x zs H' hlt hx ⟨sH,hDy,ez⟩
  obtain ⟨d,hd,hy⟩:=Paired.get gp hx
  obtain ⟨pr',hpr,rfl⟩:=pair_get hd
  obtain ⟨b,rfl,hb⟩:=pair_says (hy.same sH)
  refine ⟨b,_,rfl,hb,rfl,_,_,rfl,_,_,rfl,rfl,fun _=>⟨_,rfl,?_⟩,fun e=>Bool.noConfusion e⟩
  have hi:i < (namesOf c).length:=by unfold namesOf; rw [List.length_map]; omega
  have en:(namesOf c)[i] = pr'.1:=by
   have:(namesOf c)[i]? = some pr'.1:=by unfold namesOf; rw [List.getElem?_map,hpr]; rfl
   rw [List.getElem?_eq_getElem hi] at this
   exact Option.some.inj this
  refine lcN.mk hlt (le1000 (by omega)) hDy (by rw [ez,List.length_map,List.length_take]; omega) ⟨fun b' u e=>?_,upd_same,?_⟩
  ·rw [upd_ne (ne_of_none e hD)]
   exact sH b' u e
  ·rw [ez,List.take_succ_eq_append_getElem hi,en,List.map_append]
   rfl
 rintro zs H2 ⟨s2,hDy,ez⟩
 have hz:zs = (namesOf c).map V.str:=by
  rw [ez,List.take_of_length_le (by unfold namesOf; rw [List.length_map]; omega)]
 subst hz
 refine ⟨(by show 2<=sizeLine; decide),fun t ht=>?_⟩
 have s3:=same_new ht (.tup [.int ((laidT c).map V.int).length,.ref D])
 refine q t D _ (s1.trans (s2.trans s3)) (s1.free hD) (by rw [upd_same,List.length_map]) (s3 _ _ hDy)
theorem scFirsts:FnScope ["names","firsts","number","name"] ["names"] (defScope sFirsts):=⟨rfl,rfl,rfl,by decide +kernel,rfl,by decide +kernel,by decide +kernel⟩
theorem ok_firsts (F:Fun K "first_numbers" "first_numbers" sFirsts f fd) (hen:mg "enumerate" = none):FnOk P w K mg base CX0 1 f fd ["names"] spFirsts:=by
 refine F.ok scFirsts (fun vs H Q E h=>?_) (fun cdv A outer s H vs Q E hr h=>?_)
 ·obtain ⟨a,zs,rfl,_⟩:=h
  rfl
 obtain ⟨a,zs,rfl,ha,lz,q⟩:=h
 have hu1:=hu_of hr
 refine ⟨_,pss_cons (ps_set (i:=1) scFirsts.nd rfl (Or.inl rfl) pe_dnewK)
  (pss_cons (ps_for PassesOwn.never rfl (pi_enum rfl hen (ac (pv 0) pa_nil)) (pg_tup rfl (pgs_cons (pg_name (i:=2) scFirsts.nd rfl (Or.inl rfl)) (pgs_cons (pg_name (i:=3) scFirsts.nd rfl (Or.inl rfl)) pgs_nil)))
   (pss_one (ps_if (pt_cmp (pc_dnotin hu1 (pv 3) (pv 1))) (pss_one (ps_dput hu1 (pv 1) (pv 3) (pv 2) rfl)) pss_nil)))
  (pss_one (ps_ret (pe_frz (pv 1))))),?_⟩
 intro sd hsd
 have s1:=same_new hsd (.dK [])
 have e1:upd H sd (.dK []) sd = some (.dK []):=upd_same
 show tSeq _ _ _ _ (upd H sd (.dK []))
 generalize upd H sd (.dK []) = H1 at s1 e1 |-
 refine ⟨_,rfl,a,rfl,⟨_,SqL.of (s1 _ _ ha)⟩,for_enum (K:=K) (a:=a) (xs:=zs.map V.str) (fun i σ H'=>∃ (v2 v3:Option V),σ = [some (.ref a),some (.ref sd),v2,v3]/\Same H H'/\H' sd = some (.dK (fstF 0 [] (zs.take i))))
  ⟨_,_,rfl,s1,e1⟩ (fun i σ H' _ ⟨_,_,_,sH,_⟩=>SqL.of (sH _ _ ha)) ?_ ?_⟩
 ·rintro i x p σ H' hx ⟨v2,v3,rfl,sH,hd⟩ hpn
  obtain ⟨z,hz,rfl⟩:=strs_at hx
  have sp:=same_new hpn (.tup [.int (i:Nat),.str z])
  have hd2:=sp _ _ hd
  have tk:=fstF_snoc zs 0 i [] hz
  rw [Nat.zero_add] at tk
  have hi:i < zs.length:=(List.getElem?_eq_some_iff.mp hz).1
  refine ⟨p,_,rfl,SqT.of upd_same,rfl,_,_,rfl,_,_,rfl,rfl,?_⟩
  refine ⟨_,rfl,_,rfl,sd,_,rfl,.inl ⟨_,.inr z,.inl hd2,rfl,rfl⟩,_,rfl,?_⟩
  refine ite2 (fun ne=>?_) (fun ne=>?_)
  ·have ns:¬ (valV (fstF 0 [] (zs.take i)) (.inr z)).isSome = true:=by
    intro e
    rw [e] at ne
    cases ne
   rw [if_neg ns] at tk
   have ln:=fstF_len (zs.take i) 0 []
   refine ⟨_,rfl,_,rfl,_,rfl,sd,_,rfl,.inl ⟨_,.inr z,hd2,rfl,small1000 (by rw [List.length_take] at ln; simp at ln; omega),rfl⟩,?_⟩
   refine ⟨_,_,rfl,fun b' u e=>?_,by rw [upd_same,tk]⟩
   rw [upd_ne (ne_of_none e hsd)]
   exact sp _ _ (sH _ _ e)
  ·have ns:(valV (fstF 0 [] (zs.take i)) (.inr z)).isSome = true:=by
    cases e:(valV (fstF 0 [] (zs.take i)) (.inr z)).isSome with
    | true=>rfl
    | false=>exact absurd (by rw [e]; rfl) ne
   rw [if_pos ns] at tk
   exact ⟨_,_,rfl,sH.trans sp,by rw [tk]; exact hd2⟩
 ·rintro σ H' ⟨v2,v3,rfl,sH,hd⟩
  rw [List.length_map,List.take_length] at hd
  refine ⟨_,rfl,sd,_,rfl,hd,fun o=>?_⟩
  refine q sd o _ (fun b' u e=>?_) hsd upd_same
  rw [upd_ne (ne_of_none e hsd)]
  exact sH _ _ e
end
def MA1 (H:Hp) (u:Addr) (m:Str × Nat):Prop:=H u = some (.tup [.str m.1,.int (m.2:Nat)])
def MsAt (H:Hp) (us:List Addr) (ms:List (Str × Nat)):Prop:=Paired (MA1 H) us ms
theorem MsAt.same {H H':Hp} {us:List Addr} {ms:List (Str × Nat)} (h:MsAt H us ms) (s:Same H H'):MsAt H' us ms:=Paired.imp' (fun _ _ z=>s _ _ z) h
theorem MsAt.upd {H:Hp} {us:List Addr} {ms:List (Str × Nat)} {D:Addr} {ys:List V} {o:HO} (h:MsAt H us ms) (hD:H D = some (.lst ys)):MsAt (upd H D o) us ms:=Paired.imp' (fun u m z=>by
 show L2.upd H D o u = _
 rw [upd_ne (fun e=>by rw [e] at z; rw [MA1,hD] at z; cases z)]
 exact z) h
theorem MsAt.snoc {H:Hp} {us:List Addr} {ms:List (Str × Nat)} {u:Addr} {m:Str × Nat} (h:MsAt H us ms) (hu:MA1 H u m):MsAt H (us ++ [u]) (ms ++ [m]):=Paired.snoc h hu
def NewMs (H H':Hp) (l:Addr) (ms:List (Str × Nat)):Prop:=∃ us:List Addr,H l = none/\H' l = some (.lst (us.map V.ref))/\MsAt H' us ms
def overF (rows:List Rw) (many:Nat):List (Str × Nat):=if (firstK 2 0 rows).isSome = true then [] else (List.range (many - plN rows)).map fun i=>((("over" : Str),plN rows + i):Str × Nat)
def spOvers (c:C5) (CF:Addr):Sp:=fun vs H Q _=>∃ (f:Addr) (many:Nat) (rows:List Rw) (bars:List Str),vs = [.ref f,.int (many:Nat)]/\many<=900/\rows.length<=500/\FormAt c CF H f rows bars/\∀ (l:Addr) (H':Hp),Same H H'->NewMs H H' l (overF rows many)->Q (.ref l) H'
def oneE (r:Rw) (i many:Nat) (fk:List (Key × V)):List V:=
 if byPl r.k = true/\i < many then [.str "place",.int (i:Nat)] else if byNm r.k = true/\(valV fk (.inr r.z)).isSome = true then [.str "name",(valV fk (.inr r.z)).getD .non] else [.str "free"]
def FlatD1 (fk:List (Key × V)):Prop:=∀ k v,valV fk k = some v->flatV v = true
def spOneE (c:C5):Sp:=fun vs H Q _=>∃ (p d:Addr) (i many:Nat) (r:Rw) (fk:List (Key × V)),vs = [.ref p,.int (i:Nat),.int (many:Nat),.ref d]/\PAt c H p r/\r.ok/\Rd H d (.dK fk)/\∀ (u:Addr) (H':Hp),Same H H'->H' u = some (.tup (oneE r i many fk))->Q (.ref u) H'
def isLack (r:Rw) (i many:Nat) (fk:List (Key × V)):Bool:=!fr r.k r.b && L2.eqT (oneE r i many fk) [.str "free"]
def lackF (many:Nat) (fk:List (Key × V)):Nat->List Rw->List (Str × Nat)
 | _,[]=>[]
 | i,r :: rs=>(if isLack r i many fk = true then [(("lacking" : Str),i)] else []) ++ lackF many fk (i + 1) rs
theorem lackF_snoc {many:Nat} {fk:List (Key × V)} {r:Rw}:∀ (rows:List Rw) (j i:Nat),rows[i]? = some r->lackF many fk j (rows.take (i + 1)) = lackF many fk j (rows.take i) ++ (if isLack r (j + i) many fk = true then [(("lacking" : Str),j + i)] else [])
 | [],_,_,h=>by simp at h
 | y :: ys,j,0,h=>by
  have e:y = r:=by simpa using h
  subst e
  show (_ ++ []) = [] ++ _
  rw [List.append_nil,List.nil_append]
  rfl
 | y :: ys,j,i + 1,h=>by
  have:=lackF_snoc (many:=many) (fk:=fk) ys (j + 1) i (by simpa using h)
  show _ ++ lackF many fk (j + 1) (ys.take (i + 1)) = _
  rw [this,show j + 1 + i = j + (i + 1) by omega,<- List.append_assoc]
  rfl
theorem lackF_len (many:Nat) (fk:List (Key × V)):∀ (rows:List Rw) (i:Nat),(lackF many fk i rows).length<=rows.length
 | [],_=>Nat.le_refl _
 | r :: rs,i=>by
  have:=lackF_len many fk rs (i + 1)
  show (_ ++ lackF many fk (i + 1) rs).length<=rs.length + 1
  rw [List.length_append]
  split
  ·rw [List.length_singleton]; omega
  ·rw [List.length_nil]; omega
theorem oneE_flat {r:Rw} {i many:Nat} {fk:List (Key × V)} (h:FlatD1 fk):(oneE r i many fk).all flatV = true:=by
 unfold oneE
 split
 ·rfl
 ·split
  next h2=>
   obtain ⟨v,hv⟩:=Option.isSome_iff_exists.mp h2.2
   rw [hv]
   show (true && (flatV v && true)) = true
   rw [h _ _ hv]
   rfl
  ·rfl
def spLacks (c:C5) (CF:Addr):Sp:=fun vs H Q _=>∃ (f d:Addr) (many:Nat) (rows:List Rw) (bars:List Str) (fk:List (Key × V)),vs = [.ref f,.int (many:Nat),.ref d]/\rows.length<=500/\(∀ r ∈ rows,r.ok)/\FormAt c CF H f rows bars/\Rd H d (.dK fk)/\FlatD1 fk/\∀ (l:Addr) (H':Hp),Same H H'->NewMs H H' l (lackF many fk 0 rows)->Q (.ref l) H'
theorem Same.rd {H H':Hp} {a:Addr} {u:HO} (s:Same H H') (h:Rd H a u):Rd H' a u:=h.elim (fun e=>.inl (s _ _ e)) fun ⟨o,e⟩=>.inr ⟨o,s _ _ e⟩
section
variable {P:Program} {w:World} {K:PySem.W.Frag} {mg:Str->Option Value} {base:Heap} {f CF:Addr} {fd:FuncData} {c:C5} {m:MA}
theorem ndNum:([Str.ofString "number"]:List Str).Nodup:=by decide +kernel
theorem scOvers:FnScope ["form","many"] ["form","many"] (defScope sOvers):=⟨rfl,rfl,rfl,by decide +kernel,rfl,by decide +kernel,by decide +kernel⟩
theorem ok_overs {gT gP:Addr} {eT eP:FuncData} (F:Fun K "overs" "overs" sOvers f fd) (hran:mg "range" = none) (FK:FC K CF) (mT:Meth K CF "tail" gT) (GT:FnOk P w K mg base CX0 1 gT eT ["self"] (spWord c CF 2)) (bT:Binds K eT ["self"] []) (mP:Meth K CF "places" gP) (GP:FnOk P w K mg base CX0 1 gP eP ["self"] (spPlaces c CF)) (bP:Binds K eP ["self"] []) :
  FnOk P w K mg base CX0 2 f fd ["form","many"] (spOvers c CF):=by
 refine F.ok scOvers (fun vs H Q E h=>?_) (fun cdv A outer s H vs Q E hr h=>?_)
 ·obtain ⟨f,many,rows,bars,rfl,_⟩:=h
  rfl
 obtain ⟨f,many,rows,bars,rfl,lm,l5,hF,q⟩:=h
 refine ⟨_,pss_cons (ps_if (pt_cmp (pc_notN (pe_meth0 (pv 0) FK.cl mT GT hr bT .nil pass0))) (pss_one (ps_ret (pe_lst pa_nil))) pss_nil)
  (pss_one (ps_ret (pe_lc [] ["number"] [none] rfl ⟨rfl,rfl,rfl,rfl⟩ (pi_range2 rfl hran (ac (pe_meth0 (pv 0) FK.cl mP GP hr bP .nil pass0) (ac (pv 1) pa_nil))) (gown_name 0) rfl rfl rfl
   (fun pins fp s H C=>⟨pg_name (i:=0) ndNum rfl (Or.inl rfl) (.inr rfl),pif_nil,pe_tup (ac pe_str (ac (pv 0) pa_nil))⟩)))),?_⟩
 obtain ⟨dx,fs,lr,lb,ld,ps,h1,h2,h3,h4,h5,h6⟩:=id hF
 have nmT:fs.lookup ("tail" : Str) = none:=h2.no _ (by decide +kernel)
 have nmP:fs.lookup ("places" : Str) = none:=h2.no _ (by decide +kernel)
 refine ⟨_,rfl,f,dx,fs,rfl,h1,nmT,f,rows,bars,rfl,hF,?_⟩
 refine ⟨_,rfl,?_⟩
 cases e:firstK 2 0 rows with
 | some i=>
  have ef:overF rows many = []:=by unfold overF; rw [e]; rfl
  have ne:(!decide (numV (some i) = V.non)) = true:=rfl
  rw [if_pos ne]
  refine ⟨(by show 0<=sizeLine; decide),fun l hl=>?_⟩
  exact q l _ (same_new hl _) ⟨[],hl,upd_same,by rw [ef]; exact .nil⟩
 | none=>
  have ef:overF rows many = (List.range (many - plN rows)).map fun i=>((("over" : Str),plN rows + i):Str × Nat):=by unfold overF; rw [e]; rfl
  refine iteF ?_
  have lp:plN rows<=500:=Nat.le_trans (List.length_filter_le _ _) l5
  refine ⟨_,rfl,f,dx,fs,rfl,h1,nmP,f,rows,bars,rfl,hF,_,rfl,(plN rows:Nat),(many:Nat),rfl,⟨by omega,by omega,by omega,by omega⟩,fun D hD=>?_⟩
  have en:((many:Int) - (plN rows:Int)).toNat = many - plN rows:=by omega
  refine lc_range (n:=((many:Int) - (plN rows:Int)).toNat) (fun i ys H'=>∃ us,ys = us.map V.ref/\Same H H'/\H' D = some (.lst ys)/\MsAt H' us ((List.range i).map fun i=>((("over" : Str),plN rows + i):Str × Nat))) ⟨[],rfl,same_new hD _,upd_same,.nil⟩ ?_ ?_
  ·rintro i ys H' hi ⟨us,rfl,sH,hDy,hm⟩
   have lu:us.length = i:=by rw [hm.length,List.length_map,List.length_range]
   refine ⟨fun _=>?_,fun e=>Bool.noConfusion e⟩
   refine ⟨_,rfl,(by show 2<=sizeLine; decide),fun t ht=>?_⟩
   have s2:=same_new ht (.tup [.str "over",.int ((plN rows:Int) + (i:Int))])
   have hDy2:=s2 _ _ hDy
   refine lcN.mk hi (le1000 (by omega)) hDy2 (by rw [List.length_map,lu]; exact Nat.le_refl _) ⟨us ++ [t],by rw [List.map_append]; rfl,fun b' u' e'=>?_,upd_same,?_⟩
   ·rw [upd_ne (ne_of_none e' hD)]
    exact s2 _ _ (sH _ _ e')
   ·rw [List.range_succ,List.map_append]
    have hu:MA1 (upd H' t (.tup [.str "over",.int ((plN rows:Int) + (i:Int))])) t ("over",plN rows + i):=by
     show upd H' t _ t = _
     rw [upd_same]
     rfl
    exact ((hm.same s2).snoc hu).upd hDy2
  ·rintro ys H' ⟨us,rfl,sH,hDy,hm⟩
   rw [en,<- ef] at hm
   exact q D H' sH ⟨us,hD,hDy,hm⟩
theorem scOneE:FnScope ["parameter","number","many","firsts"] ["parameter","number","many","firsts"] (defScope sOneE):=⟨rfl,rfl,rfl,by decide +kernel,rfl,by decide +kernel,by decide +kernel⟩
theorem ok_oneE {gp gb:FuncData} (F:Fun K "one_entry" "one_entry" sOneE f fd) (PP:Pcs K m c) (GP:FnOk P w K mg base CX0 1 m.fP gp ["self"] (spIn K m bpL)) (bP:Binds K gp ["self"] []) (GB:FnOk P w K mg base CX0 1 m.fB gb ["self"] (spIn K m bnL)) (bB:Binds K gb ["self"] []) :
  FnOk P w K mg base CX0 2 f fd ["parameter","number","many","firsts"] (spOneE c):=by
 refine F.ok scOneE (fun vs H Q E h=>?_) (fun cdv A outer s H vs Q E hr h=>?_)
 ·obtain ⟨p,d,i,many,r,fk,rfl,_⟩:=h
  rfl
 obtain ⟨p,d,i,many,r,fk,rfl,⟨dx,hp⟩,rok,hd,q⟩:=h
 have hu1:=hu_of hr
 have C:=PP r.k rok.1
 refine ⟨_,pss_cons (ps_if (PW.pt (pw_and (pt_val (pe_meth0 (pv 0) C.cl C.mP GP hr bP .nil pass0)) (pw_and1 (pt_cmpR op_lt (pv 1) (pv 2) (nomark _))))) (pss_one (ps_ret (pe_tup (ac pe_str (ac (pv 1) pa_nil))))) pss_nil)
  (pss_cons (ps_if (PW.pt (pw_and (pt_val (pe_meth0 (pv 0) C.cl C.mB GB hr bB .nil pass0)) (pw_and1 (pt_cmp (pc_din hu1 (pe_fld (pv 0) rfl) (pv 3)))))) (pss_one (ps_ret (pe_tup (ac pe_str (ac (pe_dget hu1 (pv 3) (pe_fld (pv 0) rfl) (fun _ _=>rfl)) pa_nil))))) pss_nil)
  (pss_one (ps_ret (pe_tup (ac pe_str pa_nil))))),?_⟩
 have nP:(pr r).lookup ("by_place" : Str) = none:=pf_no (by decide +kernel) (by decide +kernel) (by decide +kernel)
 have nB:(pr r).lookup ("by_name" : Str) = none:=pf_no (by decide +kernel) (by decide +kernel) (by decide +kernel)
 try dsimp only
 refine seq_via (fun σ' H'=>σ' = [some (.ref p),some (.int (i:Nat)),some (.int (many:Nat)),some (.ref d)]/\H' = H/\¬ (byPl r.k = true/\i < many)) ?_ (fun key=>?_)
 rotate_left
 ·refine ⟨_,rfl,p,dx,_,rfl,hp,nP,p,dx,_,_,_,_,rfl,C,hp,_,rfl,?_⟩
  rw [in_pl r.k rok.1]
  cases eb:byPl r.k with
  | false=>
   refine iteF ?_
   refine iteF ?_
   exact key _ _ ⟨rfl,rfl,by rw [eb]; exact fun z=>Bool.noConfusion z.1⟩
  | true=>
   refine iteT ?_
   refine ⟨_,rfl,_,rfl,_,_,rfl,rfl,_,rfl,?_⟩
   refine ite2 (fun c1=>?_) (fun c1=>?_)
   ·have hlt:i < many:=by
     have:=of_decide_eq_true c1
     omega
    refine ⟨_,rfl,(by show 2<=sizeLine; decide),fun t ht=>?_⟩
    exact q t _ (same_new ht _) (by rw [upd_same]; unfold oneE; rw [if_pos ⟨eb,hlt⟩])
   ·have hlt:¬ i < many:=fun h=>c1 (decide_eq_true (by show (i:Int) < (many:Int); omega))
    exact key _ _ ⟨rfl,rfl,fun z=>hlt z.2⟩
 rintro σ1 H1 ⟨rfl,rfl,nn⟩
 have e1:oneE r i many fk = (if byNm r.k = true/\(valV fk (.inr r.z)).isSome = true then [.str "name",(valV fk (.inr r.z)).getD .non] else [.str "free"]):=by unfold oneE; rw [if_neg nn]
 try dsimp only
 refine seq_via (fun σ' H'=>σ' = [some (.ref p),some (.int (i:Nat)),some (.int (many:Nat)),some (.ref d)]/\H' = H1/\¬ (byNm r.k = true/\(valV fk (.inr r.z)).isSome = true)) ?_ (fun key=>?_)
 rotate_left
 ·refine ⟨_,rfl,p,dx,_,rfl,hp,nB,p,dx,_,_,_,_,rfl,C,hp,_,rfl,?_⟩
  rw [in_nm r.k rok.1]
  cases eb:byNm r.k with
  | false=>
   refine iteF ?_
   refine iteF ?_
   exact key _ _ ⟨rfl,rfl,by rw [eb]; exact fun z=>Bool.noConfusion z.1⟩
  | true=>
   refine iteT ?_
   refine ⟨_,rfl,p,_,dx,_,_,rfl,hp,C.cl,C.nN,pf_name,_,rfl,d,_,rfl,.inl ⟨fk,.inr r.z,hd,rfl,rfl⟩,_,rfl,?_⟩
   refine ite2 (fun c1=>?_) (fun c1=>?_)
   ·obtain ⟨v,hv⟩:=Option.isSome_iff_exists.mp c1
    refine ⟨_,rfl,_,rfl,p,_,dx,_,_,rfl,hp,C.cl,C.nN,pf_name,d,v,rfl,.inl ⟨fk,.inr r.z,hd,rfl,hv.symm⟩,(by show 2<=sizeLine; decide),fun t ht=>?_⟩
    exact q t _ (same_new ht _) (by rw [upd_same,e1,if_pos ⟨eb,c1⟩,hv]; rfl)
   ·exact key _ _ ⟨rfl,rfl,fun z=>c1 z.2⟩
 rintro σ2 H2 ⟨rfl,rfl,nn2⟩
 refine ⟨(by show 1<=sizeLine; decide),fun t ht=>?_⟩
 exact q t _ (same_new ht _) (by rw [upd_same,e1,if_neg nn2])
theorem scLacks:FnScope ["form","many","firsts","found","number","parameter"] ["form","many","firsts"] (defScope sLack):=⟨rfl,rfl,rfl,by decide +kernel,rfl,by decide +kernel,by decide +kernel⟩
theorem ok_lacks {g gP:Addr} {gd gf eP:FuncData} (F:Fun K "lackings" "lackings" sLack f fd) (hen:mg "enumerate" = none) (PP:Pcs K m c) (FK:FC K CF) (mP:Meth K CF "parameters" gP) (GP:FnOk P w K mg base CX0 1 gP eP ["self"] (spPars c CF)) (bP:Binds K eP ["self"] [])
  (GF:FnOk P w K mg base CX0 1 m.fF gf ["self"] (spFree K m)) (bF:Binds K gf ["self"] []) (cE1:Callee P w K mg base 2 "one_entry" g gd ["parameter","number","many","firsts"] (spOneE c)):FnOk P w K mg base CX0 3 f fd ["form","many","firsts"] (spLacks c CF):=by
 refine F.ok scLacks (fun vs H Q E h=>?_) (fun cdv A outer s H vs Q E hr h=>?_)
 ·obtain ⟨f,d,many,rows,bars,fk,rfl,_⟩:=h
  rfl
 obtain ⟨f,d,many,rows,bars,fk,rfl,l5,hok,hF,hd,hfl,q⟩:=h
 have hr1:Room 1 _:=hr.mono (by decide)
 have hU:=hr.units
 have hO:∀ C,Cs5 c C->Cls K C/\Meth K C "free" m.fF:=fun C ⟨k,hk,e⟩=>by rw [e]; exact ⟨(PP k hk).cl,(PP k hk).mF⟩
 refine ⟨_,pss_cons (ps_set (i:=3) scLacks.nd rfl (Or.inl rfl) (pe_lst pa_nil))
  (pss_cons (ps_for PassesOwn.never rfl (pi_enum rfl hen (ac (pe_meth0 (pv 0) FK.cl mP GP hr1 bP .nil pass0) pa_nil)) (pg_tup rfl (pgs_cons (pg_name (i:=4) scLacks.nd rfl (Or.inl rfl)) (pgs_cons (pg_name (i:=5) scLacks.nd rfl (Or.inl rfl)) pgs_nil)))
   (pss_one (ps_if (PW.pt (pw_and (pt_not (pt_val (pe_methP (pv 5) hO GF hr1 bF pass0))) (pw_and1 (pt_cmpR (op_eqTup hU) (cF cE1 hr (ac (pv 5) (ac (pv 4) (ac (pv 1) (ac (pv 2) pa_nil))))) (pe_tup (ac pe_str pa_nil)) (nomark _)))))
    (pss_one (ps_expr (pe_bm PySem.F.plainAttrs_list PySem.F.slot_list_append PySem.F.type_list_append mt_append (pv 3) (ac (pe_tup (ac pe_str (ac (pv 4) pa_nil))) pa_nil)))) pss_nil)))
  (pss_one (ps_ret (pv 3)))),?_⟩
 refine ⟨(by show 0<=sizeLine; decide),fun l hl=>?_⟩
 have s1:=same_new hl (.lst [])
 have e1:upd H l (.lst []) l = some (.lst []):=upd_same
 show tSeq _ _ _ _ (upd H l (.lst []))
 generalize upd H l (.lst []) = H1 at s1 e1 |-
 obtain ⟨dx,fs,lr,lb,ld,ps0,h1,h2,h3,h4,h5,h6⟩:=id hF
 have nmP:fs.lookup ("parameters" : Str) = none:=h2.no _ (by decide +kernel)
 refine ⟨_,rfl,f,dx,fs,rfl,s1 _ _ h1,nmP,f,rows,bars,rfl,hF.same s1,fun lp ps H2 s2 np ep hps=>?_⟩
 have e2:=s2 _ _ e1
 have nlp:lp ≠ l:=Ne.symm (ne_of_none e1 np)
 have nd:∀ {b:Addr} {u:HO},H b = some u->b ≠ l:=fun e=>ne_of_none e hl
 have s12:=s1.trans s2
 have sHl:∀ {H':Hp},(∀ b u,H2 b = some u->b ≠ l->H' b = some u)->Same H H':=fun k b u e=>k b u (s12 _ _ e) (nd e)
 refine ⟨lp,rfl,⟨_,SqL.of ep⟩,for_enum (K:=K) (a:=lp) (xs:=ps.map V.ref) (fun i σ H'=>∃ (us:List Addr) (v4 v5:Option V),σ = [some (.ref f),some (.int (many:Nat)),some (.ref d),some (.ref l),v4,v5]/\(∀ b u,H2 b = some u->b ≠ l->H' b = some u)/\H' l = some (.lst (us.map V.ref))/\MsAt H' us (lackF many fk 0 (rows.take i)))
  ⟨[],_,_,rfl,fun _ _ e _=>e,e2,.nil⟩ (fun i σ H' _ ⟨_,_,_,_,sH,_⟩=>SqL.of (sH _ _ ep nlp)) ?_ ?_⟩
 ·rintro i x p σ H' hx ⟨us,v4,v5,rfl,sH,hl',hm⟩ hpn
  obtain ⟨pa,hpa,rfl⟩:=refs_at hx
  obtain ⟨r,hr',dx',hdx⟩:=paired_at hps hpa
  have rok:=hok r (List.mem_of_getElem? hr')
  have C:=PP r.k rok.1
  have hi:i < rows.length:=(List.getElem?_eq_some_iff.mp hr').1
  have npa:pa ≠ l:=ne_of hdx e2 (by intro z; cases z)
  have tk:=lackF_snoc (many:=many) (fk:=fk) rows 0 i hr'
  rw [Nat.zero_add] at tk
  have sp:=same_new hpn (.tup [.int (i:Nat),.ref pa])
  have lu:us.length<=i:=by
   rw [hm.length]
   refine Nat.le_trans (lackF_len _ _ _ _) ?_
   rw [List.length_take]
   omega
  have sH1:∀ b u,H2 b = some u->b ≠ l->upd H' p (.tup [.int (i:Nat),.ref pa]) b = some u:=fun b u e n=>sp _ _ (sH b u e n)
  have hl1:=sp _ _ hl'
  have hm1:=hm.same sp
  refine ⟨p,_,rfl,SqT.of upd_same,rfl,_,_,rfl,_,_,rfl,rfl,?_⟩
  generalize upd H' p (.tup [.int (i:Nat),.ref pa]) = H3 at sH1 hl1 hm1 |-
  have hd3:=sH1 _ _ hdx npa
  refine ⟨_,rfl,pa,_,dx',_,rfl,⟨r.k,rok.1,rfl⟩,hd3,pf_no (by decide +kernel) (by decide +kernel) (by decide +kernel),pa,dx',_,_,_,_,rfl,C,hd3,_,rfl,?_⟩
  cases ef:fr r.k r.b with
  | true=>
   have il:isLack r i many fk = false:=by unfold isLack; rw [ef]; rfl
   rw [il,if_neg Bool.false_ne_true,List.append_nil] at tk
   refine iteF ?_
   refine iteF ?_
   exact ⟨us,_,_,rfl,sH1,hl1,by rw [tk]; exact hm1⟩
  | false=>
   refine iteT ?_
   refine ⟨_,rfl,_,rfl,_,rfl,_,rfl,pa,d,i,many,r,fk,rfl,⟨dx',hd3⟩,rok,Same.rd (sHl sH1) hd,fun u H4 s4 e4=>?_⟩
   refine ⟨(by show 1<=sizeLine; decide),fun t ht=>?_⟩
   have s5:=same_new ht (.tup [.str "free"])
   refine ⟨u,t,_,_,rfl,rfl,SqT.of (s5 _ _ e4),SqT.of upd_same,oneE_flat hfl,rfl,_,rfl,?_⟩
   have s45:=s4.trans s5
   have il:isLack r i many fk = L2.eqT (oneE r i many fk) [.str "free"]:=by unfold isLack; rw [ef]; rfl
   rw [<- il]
   generalize upd H4 t (.tup [.str "free"]) = H5 at s5 s45 |-
   have hl5:=s45 _ _ hl1
   have sH5:∀ b u,H2 b = some u->b ≠ l->H5 b = some u:=fun b u e n=>s45 _ _ (sH1 b u e n)
   refine ite2 (fun c1=>?_) (fun c1=>?_)
   ·rw [c1,if_pos rfl] at tk
    refine ⟨_,rfl,.inl ⟨rfl,_,SqL.of hl5⟩,_,rfl,(by show 2<=sizeLine; decide),fun t2 ht2=>?_⟩
    have s6:=same_new ht2 (.tup [.str "lacking",.int (i:Nat)])
    have hl6:=s6 _ _ hl5
    have hu2:MA1 (upd H5 t2 (.tup [.str "lacking",.int (i:Nat)])) t2 ("lacking",i):=by
     show upd H5 t2 _ t2 = _
     rw [upd_same]
    refine ⟨l,_,.ref t2,rfl,rfl,hl6,small1000 (by rw [List.length_map]; omega),?_⟩
    refine ⟨us ++ [t2],_,_,rfl,fun b u e n=>?_,by rw [upd_same,List.map_append]; rfl,?_⟩
    ·rw [upd_ne n]
     exact s6 _ _ (sH5 b u e n)
    ·rw [tk]
     exact (((hm1.same s45).same s6).snoc hu2).upd hl6
   ·have c2:isLack r i many fk = false:=by
     cases e:isLack r i many fk with
     | false=>rfl
     | true=>exact absurd e c1
    rw [c2,if_neg Bool.false_ne_true,List.append_nil] at tk
    exact ⟨us,_,_,rfl,sH5,hl5,by rw [tk]; exact hm1.same s45⟩
 ·rintro σ H' ⟨us,v4,v5,rfl,sH,hl',hm⟩
  rw [List.length_map,hps.length,List.take_length] at hm
  exact ⟨_,rfl,q l H' (sHl sH) ⟨us,hl,hl',hm⟩⟩
end
def fpF:Nat->List (Str × Nat)->List Str->List (Str × Nat)
 | _,acc,[]=>acc
 | i,acc,z :: zs=>fpF (i + 1) (if (acc.any fun p=>decide (p.1 = z)) = true then acc else acc ++ [(z,i)]) zs
def kvP (fp:List (Str × Nat)):List (Key × V):=fp.map fun p=>(.inr p.1,.int (p.2:Nat))
theorem kvP_any (fp:List (Str × Nat)) (z:Str):(valV (kvP fp) (.inr z)).isSome = fp.any fun p=>decide (p.1 = z):=by
 rw [<- valV_any]
 unfold kvP
 rw [List.any_map]
 congr 1
 funext p
 show decide ((Sum.inr p.1:Key) = Sum.inr z) = decide (p.1 = z)
 exact key_rr _ _
theorem fst_fp:∀ (zs:List Str) (i:Nat) (acc:List (Str × Nat)),fstF i (kvP acc) zs = kvP (fpF i acc zs)
 | [],_,_=>rfl
 | z :: zs,i,acc=>by
  show fstF (i + 1) (if (valV (kvP acc) (.inr z)).isSome = true then kvP acc else putK (kvP acc) (.inr z) (.int i)) zs = kvP (fpF (i + 1) (if (acc.any fun p=>decide (p.1 = z)) = true then acc else acc ++ [(z,i)]) zs)
  rw [kvP_any]
  cases e:acc.any fun p=>decide (p.1 = z) with
  | true=>exact fst_fp zs (i + 1) acc
  | false=>
   have e2:putK (kvP acc) (.inr z) (.int (i:Nat)) = kvP (acc ++ [(z,i)]):=by
    unfold putK
    rw [valV_any,kvP_any,e,if_neg Bool.false_ne_true]
    unfold kvP
    rw [List.map_append]
    rfl
   rw [if_neg Bool.false_ne_true,if_neg Bool.false_ne_true,e2]
   exact fst_fp zs (i + 1) _
theorem kvP_val {fp:List (Str × Nat)} {k:Key} {v:V} (h:valV (kvP fp) k = some v):∃ (z:Str) (j:Nat),k = .inr z/\v = .int (j:Nat)/\(z,j) ∈ fp:=by
 unfold valV at h
 cases e:(kvP fp).find? fun kv=>decide (kv.1 = k) with
 | none=>rw [e] at h; cases h
 | some kv=>
  rw [e] at h
  have hm:=List.mem_of_find?_eq_some e
  have hk:=List.find?_some e
  unfold kvP at hm
  obtain ⟨p,hp,rfl⟩:=List.mem_map.mp hm
  exact ⟨p.1,p.2,(of_decide_eq_true hk).symm,(Option.some.inj h).symm,hp⟩
theorem fp_flat (fp:List (Str × Nat)):FlatD1 (kvP fp):=fun k v h=>by
 obtain ⟨z,j,_,rfl,_⟩:=kvP_val h
 rfl
theorem fp_keep {z:Str}:∀ (zs:List Str) (i:Nat) (acc:List (Str × Nat)),(acc.any fun p=>decide (p.1 = z)) = true->((fpF i acc zs).any fun p=>decide (p.1 = z)) = true
 | [],_,_,h=>h
 | y :: ys,i,acc,h=>by
  show ((fpF (i + 1) _ ys).any _) = true
  refine fp_keep ys (i + 1) _ ?_
  split
  ·exact h
  ·rw [List.any_append,h]; rfl
theorem fp_mem {z:Str}:∀ (zs:List Str) (i:Nat) (acc:List (Str × Nat)),z ∈ zs->((fpF i acc zs).any fun p=>decide (p.1 = z)) = true
 | [],_,_,h=>by cases h
 | y :: ys,i,acc,h=>by
  show ((fpF (i + 1) _ ys).any _) = true
  rcases List.mem_cons.mp h with rfl | h
  ·refine fp_keep ys (i + 1) _ ?_
   split
   next e=>exact e
   ·rw [List.any_append]
    simp
  ·exact fp_mem ys (i + 1) _ h
def fpZ (zs:List Str):List (Str × Nat):=fpF 0 [] zs
theorem fst_Z (zs:List Str):fstF 0 [] zs = kvP (fpZ zs):=fst_fp zs 0 []
def dblF (fk:List (Key × V)):Nat->List Str->List (Str × Nat)
 | _,[]=>[]
 | i,z :: zs=>(if valV fk (.inr z) = some (.int (i:Nat)) then [] else [(("doubled" : Str),i)]) ++ dblF fk (i + 1) zs
theorem dblF_snoc {fk:List (Key × V)} {z:Str}:∀ (zs:List Str) (j i:Nat),zs[i]? = some z->dblF fk j (zs.take (i + 1)) = dblF fk j (zs.take i) ++ (if valV fk (.inr z) = some (.int (j + i:Nat)) then [] else [(("doubled" : Str),j + i)])
 | [],_,_,h=>by simp at h
 | y :: ys,j,0,h=>by
  have e:y = z:=by simpa using h
  subst e
  show (_ ++ []) = [] ++ _
  rw [List.append_nil,List.nil_append]
  rfl
 | y :: ys,j,i + 1,h=>by
  have:=dblF_snoc (fk:=fk) ys (j + 1) i (by simpa using h)
  show _ ++ dblF fk (j + 1) (ys.take (i + 1)) = _
  rw [this,show j + 1 + i = j + (i + 1) by omega,<- List.append_assoc]
  rfl
theorem dblF_len (fk:List (Key × V)):∀ (zs:List Str) (i:Nat),(dblF fk i zs).length<=zs.length
 | [],_=>Nat.le_refl _
 | r :: rs,i=>by
  have:=dblF_len fk rs (i + 1)
  show (_ ++ dblF fk (i + 1) rs).length<=rs.length + 1
  rw [List.length_append]
  split
  ·rw [List.length_nil]; omega
  ·rw [List.length_singleton]; omega
def unwW (rows:List Rw) (bars:List Str) (many:Nat) (z:Str):Option Str:=
 if z ∈ bars then some "barred" else match lastD' z rows with
  | none=>if (firstK 4 0 rows).isSome = true then none else some "strange"
  | some l=>if l < plN rows/\l < many then some "again" else none
where lastD' (z:Str) (rows:List Rw):Option Nat:=match valV (doorsF 0 [] rows) (.inr z) with
 | some (.int i)=>some i.toNat
 | _=>none
def unwF (rows:List Rw) (bars:List Str) (many:Nat) (fp:List (Str × Nat)):List (Str × Nat):=fp.filterMap fun p=>(unwW rows bars many p.1).map fun wd=>(wd,p.2)
def missF (rows:List Rw) (bars:List Str) (many:Nat) (zs:List Str):List (Str × Nat):=dblF (kvP (fpZ zs)) 0 zs ++ overF rows many ++ unwF rows bars many (fpZ zs) ++ lackF many (kvP (fpZ zs)) 0 rows
def spUnw (c:C5) (CF:Addr):Sp:=fun vs H Q _=>∃ (f d:Addr) (o:Obj) (many:Nat) (rows:List Rw) (bars:List Str) (fp:List (Str × Nat)),vs = [.ref f,.int (many:Nat),.ref d]/\rows.length<=500/\bars.length<=500/\fp.length<=900/\FormAt c CF H f rows bars/\H d = some (.frz o (.dK (kvP fp)))/\∀ (l:Addr) (H':Hp),Same H H'->NewMs H H' l (unwF rows bars many fp)->Q (.ref l) H'
def spMOf (c:C5) (CF:Addr):Sp:=fun vs H Q _=>∃ (f a:Addr) (many:Nat) (rows:List Rw) (bars zs:List Str),vs = [.ref f,.int (many:Nat),.ref a]/\rows.length<=500/\bars.length<=500/\many<=900/\zs.length<=900/\(∀ r ∈ rows,r.ok)/\FormAt c CF H f rows bars/\H a = some (.lst (zs.map V.str))/\∀ (l:Addr) (H':Hp),Same H H'->NewMs H H' l (missF rows bars many zs)->Q (.ref l) H'
theorem fpF_len:∀ (zs:List Str) (i:Nat) (acc:List (Str × Nat)),(fpF i acc zs).length<=acc.length + zs.length
 | [],_,_=>Nat.le_refl _
 | z :: zs,i,acc=>by
  have h:=fpF_len zs (i + 1) (if (acc.any fun p=>decide (p.1 = z)) = true then acc else acc ++ [(z,i)])
  have h2:(if (acc.any fun p=>decide (p.1 = z)) = true then acc else acc ++ [(z,i)]).length<=acc.length + 1:=by
   split
   ·omega
   ·rw [List.length_append]; exact Nat.le_refl _
  show (fpF (i + 1) _ zs).length<=acc.length + (zs.length + 1)
  omega
theorem MsAt.app {H:Hp} {us vs:List Addr} {ms ns:List (Str × Nat)} (h:MsAt H us ms) (h':MsAt H vs ns):MsAt H (us ++ vs) (ms ++ ns):=paired_app h h'
section
variable {P:Program} {w:World} {K:PySem.W.Frag} {mg:Str->Option Value} {base:Heap} {f CF:Addr} {fd:FuncData} {c:C5} {m:MA}
theorem ndDb:([Str.ofString "number",Str.ofString "name",Str.ofString "firsts"]:List Str).Nodup:=by decide +kernel
theorem scMOf:FnScope ["form","many","names","firsts","doubled"] ["form","many","names"] (defScope sMOf):=⟨rfl,rfl,rfl,by decide +kernel,rfl,by decide +kernel,by decide +kernel⟩
theorem ok_mof {g1 g2 g3 g4:Addr} {d1 d2 d3 d4:FuncData} (F:Fun K "misfits_of" "misfits_of" sMOf f fd) (hen:mg "enumerate" = none) (c1:Callee P w K mg base 1 "first_numbers" g1 d1 ["names"] spFirsts) (c2:Callee P w K mg base 2 "overs" g2 d2 ["form","many"] (spOvers c CF)) (c3:Callee P w K mg base 2 "unwelcomes" g3 d3 ["form","many","firsts"] (spUnw c CF)) (c4:Callee P w K mg base 3 "lackings" g4 d4 ["form","many","firsts"] (spLacks c CF)) :
  FnOk P w K mg base CX0 4 f fd ["form","many","names"] (spMOf c CF):=by
 refine F.ok scMOf (fun vs H Q E h=>?_) (fun cdv A outer s H vs Q E hr h=>?_)
 ·obtain ⟨f,a,many,rows,bars,zs,rfl,_⟩:=h
  rfl
 obtain ⟨f,a,many,rows,bars,zs,rfl,l5,lb5,lm,lz,hok,hF,ha,q⟩:=h
 have hr1:Room 1 _:=hr.mono (by decide)
 have hr2:Room 2 _:=hr.mono (by decide)
 have hu1:=hu_of hr
 refine ⟨_,pss_cons (ps_set (i:=3) scMOf.nd rfl (Or.inr rfl) (cF c1 hr1 (ac (pv 2) pa_nil)))
  (pss_cons (ps_lc (i:=4) ["firsts"] ["number","name","firsts"] [none,none,some 3] scMOf.nd rfl (Or.inl rfl) rfl ⟨rfl,rfl,rfl,rfl⟩ (pi_enum rfl hen (ac (pv 2) pa_nil)) (gown_tup2 (K:=K) (n:=2) 0 1) rfl rfl rfl
   (fun pins fp s H C=>⟨pg_tup rfl (pgs_cons (pg_name (i:=0) ndDb rfl (Or.inl rfl) (.inr rfl)) (pgs_cons (pg_name (i:=1) ndDb rfl (Or.inl rfl) (.inr rfl)) pgs_nil)),pif_one (pt_cmpR op_ne (pe_dget hu1 (pv 2) (pv 1) (fun _ _=>rfl)) (pv 0) (nomark _)),pe_tup (ac pe_str (ac (pv 0) pa_nil))⟩))
  (pss_one (ps_ret (pe_op op_cat (pe_op op_cat (pe_op op_cat (pv 4) (cF c2 hr2 (ac (pv 0) (ac (pv 1) pa_nil)))) (cF c3 hr2 (ac (pv 0) (ac (pv 1) (ac (pv 3) pa_nil))))) (cF c4 hr (ac (pv 0) (ac (pv 1) (ac (pv 3) pa_nil)))))))),?_⟩
 refine ⟨_,rfl,a,zs,rfl,ha,lz,fun d o H1 s1 hd0 hd1=>?_⟩
 rw [fst_Z] at hd1
 have lfp:(fpZ zs).length<=900:=by
  have:=fpF_len zs 0 []
  show (fpF 0 [] zs).length<=900
  simp at this
  omega
 generalize hfp:fpZ zs = fp at hd1 lfp
 refine ⟨_,rfl,a,rfl,⟨_,SqL.of (s1 _ _ ha)⟩,fun D hD=>?_⟩
 refine lc_enum (K:=K) (xs:=zs.map V.str) (fun i ys H'=>∃ us,ys = us.map V.ref/\Same H1 H'/\H' D = some (.lst ys)/\MsAt H' us (dblF (kvP fp) 0 (zs.take i))) ⟨[],rfl,same_new hD _,upd_same,.nil⟩ (fun i ys H' ⟨_,_,h,_⟩=>SqL.of (h _ _ (s1 _ _ ha))) ?_ ?_
 ·rintro i x p ys H' hlt hx ⟨us,rfl,sH,hDy,hm⟩ hpn
  obtain ⟨z,hz,rfl⟩:=strs_at hx
  have hi:i < zs.length:=(List.getElem?_eq_some_iff.mp hz).1
  have tk:=dblF_snoc (fk:=kvP fp) zs 0 i hz
  rw [Nat.zero_add] at tk
  have sp:=same_new hpn (.tup [.int (i:Nat),.str z])
  have lu:us.length<=i:=by
   rw [hm.length]
   refine Nat.le_trans (dblF_len _ _ _) ?_
   rw [List.length_take]
   omega
  have hsome:(valV (kvP fp) (.inr z)).isSome = true:=by
   rw [kvP_any,<- hfp]
   exact fp_mem zs 0 [] (List.mem_of_getElem? hz)
  obtain ⟨v,hv⟩:=Option.isSome_iff_exists.mp hsome
  obtain ⟨_,j,_,rfl,_⟩:=kvP_val hv
  have hd2:=sp _ _ (sH _ _ hd1)
  have hDy2:=sp _ _ hDy
  have hm2:=hm.same sp
  refine ⟨p,_,rfl,SqT.of upd_same,rfl,_,_,rfl,_,_,rfl,rfl,?_⟩
  have sA:=sH.trans sp
  generalize upd H' p (.tup [.int (i:Nat),.str z]) = H3 at sp hd2 hDy2 hm2 sA |-
  refine ⟨_,rfl,_,rfl,d,_,rfl,.inl ⟨_,.inr z,.inr ⟨o,hd2⟩,rfl,hv.symm⟩,_,rfl,rfl,_,rfl,?_⟩
  by_cases ej:j = i
  ·subst ej
   rw [if_pos hv,List.append_nil] at tk
   have ed:(!decide (V.int (j:Nat) = V.int (j:Nat))) = false:=by rw [decide_eq_true rfl]; rfl
   rw [ed]
   exact ⟨fun e=>Bool.noConfusion e,fun _=>lcS.mk hlt ⟨us,rfl,sA,hDy2,by rw [tk]; exact hm2⟩⟩
  ·have nv:¬ valV (kvP fp) (.inr z) = some (.int (i:Nat)):=fun e=>by
    rw [hv] at e
    have:=V.int.inj (Option.some.inj e)
    omega
   rw [if_neg nv] at tk
   have ed:(!decide (V.int (j:Nat) = V.int (i:Nat))) = true:=by
    rw [decide_eq_false (fun e=>by have:=V.int.inj e; omega)]
    rfl
   rw [ed]
   refine ⟨fun _=>?_,fun e=>Bool.noConfusion e⟩
   refine ⟨_,rfl,(by show 2<=sizeLine; decide),fun t ht=>?_⟩
   have s4:=same_new ht (.tup [.str "doubled",.int (i:Nat)])
   have hDy4:=s4 _ _ hDy2
   have hu:MA1 (upd H3 t (.tup [.str "doubled",.int (i:Nat)])) t ("doubled",i):=by
    show upd H3 t _ t = _
    rw [upd_same]
   refine lcN.mk hlt (le1000 (by rw [List.length_map]; omega)) hDy4 (by rw [List.length_map]; exact lu) ⟨us ++ [t],by rw [List.map_append]; rfl,fun b' u' e'=>?_,upd_same,?_⟩
   ·rw [upd_ne (ne_of_none e' hD)]
    exact s4 _ _ (sA _ _ e')
   ·rw [tk]
    exact ((hm2.same s4).snoc hu).upd hDy4
 rintro ys H2 ⟨us,rfl,s2,hDy,hm⟩
 rw [List.length_map,List.take_length] at hm
 have s12:=s1.trans s2
 have lov:(overF rows many).length<=900:=by
  unfold overF
  split
  ·exact Nat.zero_le _
  ·rw [List.length_map,List.length_range]; omega
 have lun:(unwF rows bars many fp).length<=900:=by
  unfold unwF
  exact Nat.le_trans (List.length_filterMap_le _ _) lfp
 have lla:=lackF_len many (kvP fp) rows 0
 have ldb:=dblF_len (kvP fp) zs 0
 have big : 4000<=sizeLine:=by decide
 refine ⟨_,rfl,_,rfl,_,rfl,f,many,rows,bars,rfl,lm,l5,hF.same s12,fun l3 H3 s3 ⟨us3,n3,e3,m3⟩=>?_⟩
 have lu0:=hm.length
 have lu3:=m3.length
 refine ⟨D,l3,_,_,rfl,rfl,s3 _ _ hDy,e3,(by simp only [List.length_map]; omega),fun p4 hp4=>?_⟩
 rw [<- List.map_append]
 have u4:=same_new hp4 (.lst ((us ++ us3).map V.ref))
 have e4:upd H3 p4 (.lst ((us ++ us3).map V.ref)) p4 = some (.lst ((us ++ us3).map V.ref)):=upd_same
 have m4:MsAt (upd H3 p4 (.lst ((us ++ us3).map V.ref))) (us ++ us3) _:=((hm.same s3).app m3).same u4
 generalize upd H3 p4 (.lst ((us ++ us3).map V.ref)) = H4 at u4 e4 m4 |-
 have s24:=s2.trans (s3.trans u4)
 have s14:=s1.trans s24
 refine ⟨_,rfl,_,rfl,_,rfl,f,d,o,many,rows,bars,fp,rfl,l5,lb5,lfp,hF.same s14,s24 _ _ hd1,fun l5' H5 s5 ⟨us5,n5,e5,m5⟩=>?_⟩
 have lu5:=m5.length
 refine ⟨p4,l5',_,_,rfl,rfl,s5 _ _ e4,e5,(by simp only [List.length_map,List.length_append]; omega),fun p6 hp6=>?_⟩
 rw [<- List.map_append]
 have u6:=same_new hp6 (.lst ((us ++ us3 ++ us5).map V.ref))
 have e6:upd H5 p6 (.lst ((us ++ us3 ++ us5).map V.ref)) p6 = some (.lst ((us ++ us3 ++ us5).map V.ref)):=upd_same
 have m6:MsAt (upd H5 p6 (.lst ((us ++ us3 ++ us5).map V.ref))) (us ++ us3 ++ us5) _:=((m4.same s5).app m5).same u6
 generalize upd H5 p6 (.lst ((us ++ us3 ++ us5).map V.ref)) = H6 at u6 e6 m6 |-
 have s26:=s24.trans (s5.trans u6)
 have s16:=s1.trans s26
 refine ⟨_,rfl,_,rfl,_,rfl,f,d,many,rows,bars,kvP fp,rfl,l5,hok,hF.same s16,.inr ⟨o,s26 _ _ hd1⟩,fp_flat fp,fun l7 H7 s7 ⟨us7,n7,e7,m7⟩=>?_⟩
 have lu7:=m7.length
 refine ⟨p6,l7,_,_,rfl,rfl,s7 _ _ e6,e7,(by simp only [List.length_map,List.length_append]; omega),fun p8 hp8=>?_⟩
 rw [<- List.map_append]
 have u8:=same_new hp8 (.lst ((us ++ us3 ++ us5 ++ us7).map V.ref))
 refine q p8 _ (s16.trans (s7.trans u8)) ⟨us ++ us3 ++ us5 ++ us7,(s16.trans s7).free hp8,upd_same,?_⟩
 unfold missF
 rw [hfp]
 exact ((m6.same s7).app m7).same u8
end
end K81
namespace L2
open PySem PySem.Spec PyProof.Rows
def seen (val:Nat->Str) (T:Str->Bool):Nat->Nat->Str->Bool
 | _,0,z=>T z
 | i,k + 1,z=>seen val (fun y=>T y || decide (y = val i)) (i + 1) k z
section
variable {P:Program} {w:World} {A:Around} {R:Result->Shared->Prop} {I:Addr} {fp wr:List Addr} {G:Array GenState->Array GenState->Prop} {n:Nat} {Pr:Nat->Value->Prop} {Sg:Nat->Shared->Prop}
theorem texts_loop (W:WalksS P w A.in1 I fp wr G n Pr Sg) (a:Addr) (ha:a ∉ fp) (val:Nat->Str) (hv:∀ i v,Pr i v->∃ t,v = .str (val i) t) (hb:n + 1 < scanBound) :
  ∀ (k i:Nat) (s:Shared) (T:Str->Bool) (c:Nat),n - i = k->i<=n->Sg i s->c<=i->s.heap.SetOf (strKind P w) a T c->
   (∀ s' c',Moved (a :: wr) G s s'->c'<=n->s'.heap.SetOf (strKind P w) a (seen val T i k) c'->R (.ok (.ret .none)) s')->
   codeAny (model P w) A (.builtin "set.update.loop" ⟨[.ref a,.ref I],[]⟩) R s
 | 0,i,s,T,c,hk,hi,hg,hc,hT,hR=>by
  have hw:a ∉ wr:=fun z=>ha (W.sub _ z)
  have ei:i = n:=by omega
  subst ei
  refine codeAny_builtin PyProof.Rows.F.entry_set_update_loop ?_; rw [Around.under_plainId PyProof.Rows.F.plain_set_update_loop _]
  show wpAny _ A.in1 (pyNext (.ref I) >>= _) _ _ _; refine wpAny_bind (W.done s _ _ hg fun s' hm=>?_)
  show wpAny _ A.in1 (ret Value.none) _ _ _; refine wpAny_pure (hR s' c (hm.mono fun b z=>List.mem_cons_of_mem _ z) hc ?_)
  obtain ⟨ob,es,ep,t,h1,h2⟩:=hT
  exact ⟨ob,es,ep,t,hm.heap a _ hw h1,h2⟩
 | k + 1,i,s,T,c,hk,hi,hg,hc,hT,hR=>by
  have hw:a ∉ wr:=fun z=>ha (W.sub _ z)
  have hlt:i < n:=by omega
  refine codeAny_builtin PyProof.Rows.F.entry_set_update_loop ?_; rw [Around.under_plainId PyProof.Rows.F.plain_set_update_loop _]
  show wpAny _ A.in1 (pyNext (.ref I) >>= _) _ _ _; refine wpAny_bind (W.item i s _ _ hlt hg fun v s' hP hg' hm=>?_)
  obtain ⟨t,rfl⟩:=hv i v hP
  have hT':s'.heap.SetOf (strKind P w) a T c:=by
   obtain ⟨ob,es,ep,tb,h1,h2⟩:=hT
   exact ⟨ob,es,ep,tb,hm.heap a _ hw h1,h2⟩
  show wpAny _ A.in1 (holding [Value.str (val i) t] (setAdd a (.str (val i) t)) >>= _) _ _ s'
  refine wpAny_bind (wpAny_holding ?_); unfold setAdd; refine wpAny_holding ?_
  refine wpAny_bind ((strKind P w).pyHash (k:=val i) (strKind_is _ _ _ _) ?_)
  refine wpAny_setAddHashed_of (knd:=strKind P w) (s:={ s' with toks:=s'.toks + 1 }) (strKind_is _ _ _ _) rfl hT' (by omega) fun h' hsb h3=>?_
  refine wpAny_pure ⟨plainId_quiet PyProof.Rows.F.plain_set_update_loop _,texts_loop W a ha val hv hb k (i + 1) _ _ _ (by omega) hlt (W.frame _ s' _ _ hg' (Nat.le_succ _) fun b hb' o e=>?_) (by split <;> omega) h3 fun s2 c2 hm2 hc2 h4=>?_⟩
  ·have:b ≠ a:=fun z=>ha (z ▸ hb')
   rw [hsb.2 b this]; exact e
  ·refine hR s2 c2 (Moved.trans W.gtrans ((hm.mono fun b z=>List.mem_cons_of_mem _ z).then_heap (Nat.le_succ _) fun b o hb' e=>?_) hm2) hc2 h4
   have:b ≠ a:=fun z=>hb' (z ▸ List.mem_cons_self)
   rw [hsb.2 b this]; exact e
end
abbrev setN (led:Bool):Obj:={ cls:=.type "set",dict:=none,data:=.set #[] 0 (.fresh 0 0 led) }
set_option maxHeartbeats 8000000 in
theorem call_texts {P:Program} {w:World} {A:Around} {E:Value->Shared->Prop} {s:Shared} {l:Addr} {items:Array Value} {zs:List Str} {Q:Value->Shared->Prop}
  (hh:A.handled = none) (hl:s.heap.IsList l items) (hv:∀ (i:Nat) (v:Value),items[i]? = some v->∃ t,v = .str (zs.getD i "") t) (hb:items.size + 1 < scanBound)
  (h:∀ (h':Heap) (tk c:Nat),h'.SetOf (strKind P w) s.heap.objs.size (seen (fun i=>zs.getD i "") (fun _=>false) 0 items.size) c->(∀ b o,b < s.heap.objs.size->s.heap.get? b = some o->h'.get? b = some o)->Q (.ref s.heap.objs.size) { s with heap:=h',toks:=tk }) :
  wpAny (model P w) A (call (.type "set") [.ref l]) Q E s:=by
 obtain ⟨mc,mt,mro⟩:=PySem.F.called_set.mro
 have q1:=PySem.F.called_set.made; have q2:=PySem.F.called_set.sub; have q3:=PySem.F.called_set.notType; have q4:=PySem.F.called_set.canCreate; have q5:=PySem.F.typeCall_set_1 (.ref l)
 refine wpAny_call (codeAny_of_tree ?_); show wpAny _ _ (callAny (.type "set") _) _ _ _
 refine wpAny_pure ⟨Code.quiet_builtin _ (by decide +kernel),codeAny_builtin PySem.F.entry_type_call ?_⟩; rw [Around.under_plain (weight_type_call_type "set" [.ref l] []) rfl]
 repeat (any_goals first | assumption | wp_step)
 refine codeAny_mono (code_set_new_1 (.ref l) (E:=E) (Q₁:=fun obj s₁=>∃ led:Bool,obj = .ref s.heap.objs.size/\s₁ = { s with heap:=s.heap.push (setN led) }) fun led=>⟨led,rfl,rfl⟩) fun r s₁ hr=>?_
 rcases r with e | (_ | _ | _ | obj)
 ·exact hr
 ·exact hr.elim
 ·exact hr.elim
 ·exact hr.elim
 ·obtain ⟨led,rfl,rfl⟩:=hr
  have hS:(s.heap.push (setN led)).get? s.heap.objs.size = some (setN led):=Heap.get?_push_size _ rfl
  have hT:Shared.TypeIs { s with heap:=s.heap.push (setN led) } (.ref s.heap.objs.size) "set":=⟨_,hS,rfl⟩
  have q6:=PySem.F.called_set.init.lookup; have q7:=PySem.F.called_set.init.bind (.ref s.heap.objs.size)
  repeat (any_goals first | assumption | wp_step)
  refine codeAny_mono (codeAny_call_builtin (R:=wants (fun r s₂=>r = .none/\∃ h' tk c,s₂ = { s with heap:=h',toks:=tk }/\h'.SetOf (strKind P w) s.heap.objs.size (seen (fun i=>zs.getD i "") (fun _=>false) 0 items.size) c/\∀ b o,b < s.heap.objs.size->s.heap.get? b = some o->h'.get? b = some o) E) PySem.F.called_set.init.plain PySem.F.entry_set_init (check_set_init_1 hT ?_)) fun r₂ s₂ hr₂=>?_
  ·obtain ⟨ol,hol,hcl,nl,hdl⟩:=id hl
   obtain ⟨ocls,odict,odata,oslots⟩:=ol
   simp only at hcl hdl
   subst hcl hdl
   have hol':(s.heap.push (setN led)).get? l = _:=Heap.get?_push_of_some (setN led) hol
   have t1:=PySem.F.sub_list_set; have t2:=PySem.F.sub_list_frozenset
   have t3:(Value.type "list" == Value.type "dict") = false:=by decide
   have hl1:(s.heap.push (setN led)).IsList l items:=⟨_,hol',rfl,nl,rfl⟩
   have hlS:l < s.heap.objs.size:=Heap.lt_size hol
   unfold Builtin.«set.__init__» noKeywords Builtin.Frozenset.updateFrom
   generalize hq:pyIter = pit
   wp_walk
   subst hq
   refine wpAny_pyIter_list hl1 (wpAny_bind (wpAny_runValue ?_))
   have hz:(s.heap.push (setN led)).objs.size = s.heap.objs.size + 1:=Heap.size_push ..
   have n1:l ≠ (s.heap.push (setN led)).objs.size:=by rw [hz]; exact Nat.ne_of_lt (Nat.lt_succ_of_lt hlS)
   have n2:∀ b:Addr,b < s.heap.objs.size->b ∉ [s.heap.objs.size,(s.heap.push (setN led)).objs.size]:=fun b hb' z=>by
    rw [hz] at z
    rcases List.mem_cons.mp z with e | e
    ·exact Nat.ne_of_lt hb' e
    ·exact Nat.ne_of_lt (Nat.lt_succ_of_lt hb') (List.mem_singleton.mp e)
   have n3:s.heap.objs.size ∉ [(s.heap.push (setN led)).objs.size,l]:=fun z=>by
    rw [hz] at z
    rcases List.mem_cons.mp z with e | e
    ·exact Nat.ne_of_lt (Nat.lt_succ_self _) e
    ·exact Nat.ne_of_gt hlS (List.mem_singleton.mp e)
   refine texts_loop ((Walks.list (by simp [hh]) _ l n1 items).toS) s.heap.objs.size n3 (fun i=>zs.getD i "") hv hb items.size 0 _ (fun _=>false) 0 (by omega) (Nat.zero_le _) ⟨⟨_,Heap.get?_push_size _ rfl,rfl,rfl⟩,hl1.push _⟩ (Nat.le_refl _) ?_ ?_
   ·exact (PyProof.Rows.setObjOf_fresh (knd:=strKind P w) led).setOf (Heap.get?_push_of_some _ hS) (by unfold scanBound; omega)
   ·rintro ⟨h',g',d',tk',os'⟩ c' hm hc' hS'
    have e1:g' = s.gens:=hm.gens
    have e2:d' = s.drawn:=hm.drawn
    have e3:os' = s.os:=hm.os
    subst e1 e2 e3
    show wpAny _ _ _ _ _ _
    refine wpAny_pure ?_; show wpAny _ _ (ret Value.none) _ _ _
    refine wpAny_pure ⟨rfl,h',tk',c',rfl,hS',fun b o hb' e=>hm.heap b o (n2 b hb') (Heap.get?_push_of_some _ (Heap.get?_push_of_some _ e))⟩
  ·rcases r₂ with e | (_ | _ | _ | ob2)
   ·exact hr₂
   ·exact hr₂.elim
   ·exact hr₂.elim
   ·exact hr₂.elim
   ·obtain ⟨rfl,h',tk,c',rfl,hS',hk'⟩:=hr₂
    repeat (any_goals first | assumption | wp_step)
    exact h _ _ _ hS' hk'
theorem seen_any (val:Nat->Str) (z:Str):∀ (k i:Nat) (T:Str->Bool),seen val T i k z = true ↔ (T z = true\/∃ j,j < k/\z = val (i + j))
 | 0,i,T=>⟨fun h=>.inl h,fun h=>h.elim id fun ⟨j,hj,_⟩=>absurd hj (Nat.not_lt_zero _)⟩
 | k + 1,i,T=>by
  show seen val (fun y=>T y || decide (y = val i)) (i + 1) k z = true ↔ _
  rw [seen_any val z k (i + 1)]
  simp only [Bool.or_eq_true,decide_eq_true_eq]
  constructor
  ·rintro ((h | h) | ⟨j,hj,e⟩)
   ·exact .inl h
   ·exact .inr ⟨0,by omega,h⟩
   ·exact .inr ⟨j + 1,by omega,by rw [show i + (j + 1) = i + 1 + j by omega]; exact e⟩
  ·rintro (h | ⟨j,hj,e⟩)
   ·exact .inl (.inl h)
   ·cases j with
    | zero=>exact .inl (.inr e)
    | succ j=>exact .inr ⟨j,by omega,by rw [show i + 1 + j = i + (j + 1) by omega]; exact e⟩
theorem seen_mem (zs:List Str) (z:Str):seen (fun i=>zs.getD i "") (fun _=>false) 0 zs.length z = decide (z ∈ zs):=by
 rw [Bool.eq_iff_iff,seen_any,decide_eq_true_eq]
 constructor
 ·rintro (h | ⟨j,hj,e⟩)
  ·cases h
  ·rw [e,Nat.zero_add]
   show zs.getD j "" ∈ zs
   rw [List.getD_eq_getElem?_getD,List.getElem?_eq_getElem hj]
   exact List.getElem_mem hj
 ·intro h
  obtain ⟨j,hj,e⟩:=List.mem_iff_getElem.mp h
  refine .inr ⟨j,hj,?_⟩
  rw [Nat.zero_add]
  show z = zs.getD j ""
  rw [List.getD_eq_getElem?_getD,List.getElem?_eq_getElem hj]
  exact e.symm
theorem Vals.strs_at:∀ {zs:List Str} {us:List Value},Vals (zs.map V.str) us->∀ (i:Nat) (v:Value),us[i]? = some v->∃ t,v = .str (zs.getD i "") t
 | [],_,.nil,i,v,h=>by simp at h
 | z :: zs,_,.cons r t,0,v,h=>by
  obtain ⟨tk,e⟩:=r
  have:v = .str z tk:=by rw [<- e]; simpa using h.symm
  exact ⟨tk,this⟩
 | z :: zs,_,.cons r t,i + 1,v,h=>Vals.strs_at t i v (by simpa using h)
theorem call_setT {X:Cx} (hc:X.calm = true):CallR X (.type "set") (fun xs H Q=>∃ (p:Addr) (zs:List Str),xs = [.ref p]/\SqL X.K H p (zs.map V.str)/\zs.length<=900/\∀ (l:Addr) (n:Nat),H l = none->Q (.ref l) (upd H l (setO X.prog X.w l (fun z=>decide (z ∈ zs)) n))):=by
 intro pins s σ H xs us Q I r h
 obtain ⟨p,zs,rfl,hS,lz,q⟩:=h
 obtain ⟨u,rfl,ru⟩:=vals1 r
 cases ru
 obtain ⟨its,rv,hp,hz⟩:=I.list hS
 have hl:its.length = zs.length:=by rw [<- rv.length,List.length_map]
 have hb:its.toArray.size + 1 < scanBound:=by
  rw [List.size_toArray,hl]
  have : 1000 < scanBound:=by unfold scanBound; decide
  omega
 refine call_texts (I.ok.hd hc) hp.isList (fun i v e=>rv.strs_at i v (by simpa using e)) hb fun h' tk c hS' hk=>?_
 have hsz:its.toArray.size = zs.length:=by rw [List.size_toArray,hl]
 rw [hsz] at hS'
 have eS:seen (fun i=>zs.getD i "") (fun _=>false) 0 zs.length = fun z=>decide (z ∈ zs):=funext (seen_mem zs)
 rw [eS] at hS'
 refine ⟨.ref s.heap.objs.size,_,I.laid (t':=tk) (fun b ob e=>hk b ob (Heap.lt_size e) e) (Nat.le_refl _) (setO_ok hS'),rfl,q _ c (I.hok.fresh (Nat.le_refl _))⟩
end L2
namespace K81
open PySem L2 PyProof.Rows
theorem dv_val:∀ (rows:List Rw) (i:Nat) (acc:List (Key × V)) (k:Key) (v:V),(∀ k v,valV acc k = some v->∃ j:Nat,v = .int (j:Nat))->valV (doorsF i acc rows) k = some v->∃ j:Nat,v = .int (j:Nat)
 | [],_,acc,k,v,h,e=>h k v e
 | r :: rs,i,acc,k,v,h,e=>by
  refine dv_val rs (i + 1) _ k v (fun k v e=>?_) e
  split at e
  ·rw [valV_put] at e
   split at e
   ·exact ⟨i,(Option.some.inj e).symm⟩
   ·exact h k v e
  ·exact h k v e
theorem unwF_snoc {rows:List Rw} {bars:List Str} {many:Nat} {fp:List (Str × Nat)} {i:Nat} {p:Str × Nat} (h:fp[i]? = some p):unwF rows bars many (fp.take (i + 1)) = unwF rows bars many (fp.take i) ++ (match unwW rows bars many p.1 with | some wd=>[(wd,p.2)] | none=>[]):=by
 unfold unwF
 rw [List.take_add_one,h,List.filterMap_append]
 congr 1
 show List.filterMap _ [p] = _
 rw [List.filterMap_cons,List.filterMap_nil]
 cases unwW rows bars many p.1 <;> rfl
theorem unwF_len (rows:List Rw) (bars:List Str) (many:Nat) (fp:List (Str × Nat)):(unwF rows bars many fp).length<=fp.length:=List.length_filterMap_le _ _
section
variable {P:Program} {w:World} {K:PySem.W.Frag} {mg:Str->Option Value} {base:Heap} {f CF:Addr} {fd:FuncData} {c:C5} {m:MA}
theorem scUnw:FnScope ["form","many","firsts","barred","found","name","number","leads_to"] ["form","many","firsts"] (defScope sUnw):=⟨rfl,rfl,rfl,by decide +kernel,rfl,by decide +kernel,by decide +kernel⟩
theorem ok_unw {gB gN gG gP:Addr} {eB eN eG eP:FuncData} (F:Fun K "unwelcomes" "unwelcomes" sUnw f fd) (hset:mg "set" = none) (FK:FC K CF) (mB:Meth K CF "bars" gB) (GB:FnOk P w K mg base CX0 1 gB eB ["self"] (spBars c CF)) (bB:Binds K eB ["self"] []) (mN:Meth K CF "number_of" gN) (GN:FnOk P w K mg base CX0 1 gN eN ["self","name"] (spNum c CF)) (bN:Binds K eN ["self","name"] [])
  (mG:Meth K CF "bag" gG) (GG:FnOk P w K mg base CX0 1 gG eG ["self"] (spWord c CF 4)) (bG:Binds K eG ["self"] []) (mP:Meth K CF "places" gP) (GP:FnOk P w K mg base CX0 1 gP eP ["self"] (spPlaces c CF)) (bP:Binds K eP ["self"] []) :
  FnOk P w K mg base CX0 2 f fd ["form","many","firsts"] (spUnw c CF):=by
 refine F.ok scUnw (fun vs H Q E h=>?_) (fun cdv A outer s H vs Q E hr h=>?_)
 ·obtain ⟨f,d,o,many,rows,bars,fp,rfl,_⟩:=h
  rfl
 obtain ⟨f,d,o,many,rows,bars,fp,rfl,l5,lb5,lfp,hF,hd,q⟩:=h
 refine ⟨_,pss_cons (ps_set (i:=3) scUnw.nd rfl (Or.inl rfl) (cTy (call_setT rfl) hset PyProof.Rows.boot_set (ac (pe_meth0 (pv 0) FK.cl mB GB hr bB .nil pass0) pa_nil)))
  (pss_cons (ps_set (i:=4) scUnw.nd rfl (Or.inl rfl) (pe_lst pa_nil))
  (pss_cons (ps_for PassesOwn.never rfl (pi_items (pv 2)) (pg_tup rfl (pgs_cons (pg_name (i:=5) scUnw.nd rfl (Or.inl rfl)) (pgs_cons (pg_name (i:=6) scUnw.nd rfl (Or.inl rfl)) pgs_nil)))
   (pss_cons (ps_set (i:=7) scUnw.nd rfl (Or.inl rfl) (pe_meth (pv 0) FK.cl mN GN hr bN .nil pass0 (ac (pv 5) pa_nil)))
   (pss_one (ps_if (pt_cmpR op_in_setT (pv 5) (pv 3) (by with_unfolding_all rfl)) (pss_one (ps_expr (pe_bm PySem.F.plainAttrs_list PySem.F.slot_list_append PySem.F.type_list_append mt_append (pv 4) (ac (pe_tup (ac pe_str (ac (pv 6) pa_nil))) pa_nil))))
    (pss_one (ps_if (pt_cmp (pc_isN (pv 7))) (pss_one (ps_if (pt_cmp (pc_isN (pe_meth0 (pv 0) FK.cl mG GG hr bG .nil pass0))) (pss_one (ps_expr (pe_bm PySem.F.plainAttrs_list PySem.F.slot_list_append PySem.F.type_list_append mt_append (pv 4) (ac (pe_tup (ac pe_str (ac (pv 6) pa_nil))) pa_nil)))) pss_nil))
     (pss_one (ps_if (PW.pt (pw_and (pt_cmpR op_lt (pv 7) (pe_meth0 (pv 0) FK.cl mP GP hr bP .nil pass0) (nomark _)) (pw_and1 (pt_cmpR op_lt (pv 7) (pv 1) (nomark _))))) (pss_one (ps_expr (pe_bm PySem.F.plainAttrs_list PySem.F.slot_list_append PySem.F.type_list_append mt_append (pv 4) (ac (pe_tup (ac pe_str (ac (pv 6) pa_nil))) pa_nil)))) pss_nil))))))))
  (pss_one (ps_ret (pv 4))))),?_⟩
 obtain ⟨dx,fs,lr,lb,ld,ps0,h1,h2,h3,h4,h5,h6⟩:=id hF
 have nmB:fs.lookup ("bars" : Str) = none:=h2.no _ (by decide +kernel)
 have nmN:fs.lookup ("number_of" : Str) = none:=h2.no _ (by decide +kernel)
 have nmG:fs.lookup ("bag" : Str) = none:=h2.no _ (by decide +kernel)
 have nmP:fs.lookup ("places" : Str) = none:=h2.no _ (by decide +kernel)
 refine ⟨_,rfl,f,dx,fs,rfl,h1,nmB,f,rows,bars,rfl,hF,fun lb1 H1 s1 nb eb=>?_⟩
 refine ⟨lb1,bars,rfl,SqL.of eb,by omega,fun sS nS hS=>?_⟩
 have u2:=same_new hS (setO P w sS (fun z=>decide (z ∈ bars)) nS)
 have e2:upd H1 sS (setO P w sS (fun z=>decide (z ∈ bars)) nS) sS = some (setO P w sS (fun z=>decide (z ∈ bars)) nS):=upd_same
 show tSeq _ _ _ _ (upd H1 sS (setO P w sS (fun z=>decide (z ∈ bars)) nS))
 generalize upd H1 sS (setO P w sS (fun z=>decide (z ∈ bars)) nS) = H2 at u2 e2 |-
 refine ⟨(by show 0<=sizeLine; decide),fun l hl=>?_⟩
 have u3:=same_new hl (.lst [])
 have e3:upd H2 l (.lst []) l = some (.lst []):=upd_same
 show tSeq _ _ _ _ (upd H2 l (.lst []))
 generalize upd H2 l (.lst []) = H3 at u3 e3 |-
 have s2:=s1.trans u2
 have s3:=s2.trans u3
 have hlH:H l = none:=s2.free hl
 have nl:∀ {b:Addr} {u:HO},H2 b = some u->b ≠ l:=fun e=>ne_of_none e hl
 have sHl:∀ {H':Hp},(∀ b u,H2 b = some u->H' b = some u)->Same H H':=fun k b u e=>k b u (s2 _ _ e)
 refine ⟨_,rfl,d,o,kvP fp,rfl,s3 _ _ hd,for_items (d:=d) (o:=o) (kvs:=kvP fp) (fun i σ H'=>∃ (us:List Addr) (v5 v6 v7:Option V),σ = [some (.ref f),some (.int (many:Nat)),some (.ref d),some (.ref sS),some (.ref l),v5,v6,v7]/\(∀ b u,H2 b = some u->H' b = some u)/\H' l = some (.lst (us.map V.ref))/\MsAt H' us (unwF rows bars many (fp.take i)))
  ⟨[],_,_,_,rfl,fun _ _ e=>u3 _ _ e,e3,.nil⟩ (fun i σ H' _ ⟨_,_,_,_,_,sH,_⟩=>sH _ _ (s2 _ _ hd)) ?_ ?_⟩
 ·rintro i k v p σ H' hk ⟨us,v5,v6,v7,rfl,sH,hl',hm⟩ hpn
  obtain ⟨z,n,hz,rfl,rfl⟩:∃ (z:Str) (n:Nat),fp[i]? = some (z,n)/\k = .inr z/\v = .int (n:Nat):=by
   unfold kvP at hk
   rw [List.getElem?_map] at hk
   cases e:fp[i]? with
   | none=>rw [e] at hk; cases hk
   | some q=>rw [e] at hk; cases hk; exact ⟨q.1,q.2,rfl,rfl,rfl⟩
  have tk:=unwF_snoc (rows:=rows) (bars:=bars) (many:=many) hz
  dsimp only at tk
  have sp:=same_new hpn (.tup [kV (.inr z),.int (n:Nat)])
  have lu:us.length<=i:=by
   rw [hm.length]
   refine Nat.le_trans (unwF_len _ _ _ _) ?_
   rw [List.length_take]
   omega
  have hi:i < fp.length:=(List.getElem?_eq_some_iff.mp hz).1
  have sH1:∀ b u,H2 b = some u->upd H' p (.tup [kV (.inr z),.int (n:Nat)]) b = some u:=fun b u e=>sp _ _ (sH b u e)
  have hl1:=sp _ _ hl'
  have hm1:=hm.same sp
  refine ⟨p,_,rfl,SqT.of upd_same,rfl,_,_,rfl,_,_,rfl,rfl,?_⟩
  generalize upd H' p (.tup [kV (.inr z),.int (n:Nat)]) = H4 at sH1 hl1 hm1 |-
  have s4:=sHl sH1
  refine ⟨_,rfl,f,dx,fs,rfl,s4 _ _ h1,nmN,_,rfl,f,z,rows,bars,rfl,hF.same s4,?_⟩
  refine ⟨_,rfl,_,rfl,sS,_,_,z,rfl,rfl,sH1 _ _ e2,_,rfl,?_⟩
  by_cases hz1:z ∈ bars
  ·refine dT hz1 ?_
   rw [show unwW rows bars many z = some "barred" from if_pos hz1] at tk
   refine ⟨_,rfl,.inl ⟨rfl,_,SqL.of hl1⟩,_,rfl,(by show 2<=sizeLine; decide),fun t ht=>?_⟩
   have s6:=same_new ht (.tup [.str "barred",.int (n:Nat)])
   have hl6:=s6 _ _ hl1
   have hu2:MA1 (upd H4 t (.tup [.str "barred",.int (n:Nat)])) t ("barred",n):=by
    show upd H4 t _ t = _
    rw [upd_same]
   refine ⟨l,_,.ref t,rfl,rfl,hl6,small1000 (by rw [List.length_map]; omega),?_⟩
   refine ⟨us ++ [t],_,_,_,rfl,fun b u e=>?_,by rw [upd_same,List.map_append]; rfl,?_⟩
   ·rw [upd_ne (nl e)]
    exact s6 _ _ (sH1 b u e)
   ·rw [tk]
    exact ((hm1.same s6).snoc hu2).upd hl6
  ·refine dF hz1 ?_
   have e0:unwW rows bars many z = (match unwW.lastD' z rows with | none=>if (firstK 4 0 rows).isSome = true then none else some "strange" | some l=>if l < plN rows/\l < many then some "again" else none):=if_neg hz1
   cases ev:valV (doorsF 0 [] rows) (.inr z) with
   | none=>
    have e1:unwW.lastD' z rows = none:=by unfold unwW.lastD'; rw [ev]
    rw [e1] at e0
    refine ⟨_,rfl,_,rfl,?_⟩
    refine dT rfl ?_
    refine ⟨_,rfl,f,dx,fs,rfl,s4 _ _ h1,nmG,f,rows,bars,rfl,hF.same s4,_,rfl,?_⟩
    cases eg:firstK 4 0 rows with
    | none=>
     have e2':unwW rows bars many z = some "strange":=by rw [e0,eg]; rfl
     refine dT rfl ?_
     rw [show unwW rows bars many z = some "strange" from e2'] at tk
     refine ⟨_,rfl,.inl ⟨rfl,_,SqL.of hl1⟩,_,rfl,(by show 2<=sizeLine; decide),fun t ht=>?_⟩
     have s6:=same_new ht (.tup [.str "strange",.int (n:Nat)])
     have hl6:=s6 _ _ hl1
     have hu2:MA1 (upd H4 t (.tup [.str "strange",.int (n:Nat)])) t ("strange",n):=by
      show upd H4 t _ t = _
      rw [upd_same]
     refine ⟨l,_,.ref t,rfl,rfl,hl6,small1000 (by rw [List.length_map]; omega),?_⟩
     refine ⟨us ++ [t],_,_,_,rfl,fun b u e=>?_,by rw [upd_same,List.map_append]; rfl,?_⟩
     ·rw [upd_ne (nl e)]
      exact s6 _ _ (sH1 b u e)
     ·rw [tk]
      exact ((hm1.same s6).snoc hu2).upd hl6
    | some j=>
     have e2':unwW rows bars many z = none:=by rw [e0,eg]; rfl
     refine dF (by intro z; cases z) ?_
     rw [show unwW rows bars many z = none from e2',List.append_nil] at tk
     exact ⟨us,_,_,_,rfl,sH1,hl1,by rw [tk]; exact hm1⟩
   | some v=>
    obtain ⟨j,rfl⟩:=dv_val rows 0 [] (.inr z) v (fun k v e=>by cases e) ev
    have e1:unwW.lastD' z rows = some j:=by unfold unwW.lastD'; rw [ev]; rfl
    rw [e1] at e0
    refine ⟨_,rfl,_,rfl,?_⟩
    refine dF (by intro z; cases z) ?_
    refine ⟨_,rfl,_,rfl,f,dx,fs,rfl,s4 _ _ h1,nmP,f,rows,bars,rfl,hF.same s4,_,_,rfl,rfl,_,rfl,?_⟩
    by_cases hj1:j < plN rows
    ·refine iteB (decide_eq_true (by show (j:Int) < (plN rows:Int); omega)) ?_
     refine ⟨_,rfl,_,rfl,_,_,rfl,rfl,_,rfl,?_⟩
     by_cases hj2:j < many
     ·have e2':unwW rows bars many z = some "again":=by rw [e0]; exact if_pos ⟨hj1,hj2⟩
      refine iteB (decide_eq_true (by show (j:Int) < (many:Int); omega)) ?_
      rw [show unwW rows bars many z = some "again" from e2'] at tk
      refine ⟨_,rfl,.inl ⟨rfl,_,SqL.of hl1⟩,_,rfl,(by show 2<=sizeLine; decide),fun t ht=>?_⟩
      have s6:=same_new ht (.tup [.str "again",.int (n:Nat)])
      have hl6:=s6 _ _ hl1
      have hu2:MA1 (upd H4 t (.tup [.str "again",.int (n:Nat)])) t ("again",n):=by
       show upd H4 t _ t = _
       rw [upd_same]
      refine ⟨l,_,.ref t,rfl,rfl,hl6,small1000 (by rw [List.length_map]; omega),?_⟩
      refine ⟨us ++ [t],_,_,_,rfl,fun b u e=>?_,by rw [upd_same,List.map_append]; rfl,?_⟩
      ·rw [upd_ne (nl e)]
       exact s6 _ _ (sH1 b u e)
      ·rw [tk]
       exact ((hm1.same s6).snoc hu2).upd hl6
     ·have e2':unwW rows bars many z = none:=by rw [e0]; exact if_neg fun h=>hj2 h.2
      refine iteC (decide_eq_false (by show ¬ (j:Int) < (many:Int); omega)) ?_
      rw [show unwW rows bars many z = none from e2',List.append_nil] at tk
      exact ⟨us,_,_,_,rfl,sH1,hl1,by rw [tk]; exact hm1⟩
    ·have e2':unwW rows bars many z = none:=by rw [e0]; exact if_neg fun h=>hj1 h.1
     refine iteC (decide_eq_false (by show ¬ (j:Int) < (plN rows:Int); omega)) ?_
     refine iteF ?_
     rw [show unwW rows bars many z = none from e2',List.append_nil] at tk
     exact ⟨us,_,_,_,rfl,sH1,hl1,by rw [tk]; exact hm1⟩
 ·rintro σ H' ⟨us,v5,v6,v7,rfl,sH,hl',hm⟩
  have lk:(kvP fp).length = fp.length:=by unfold kvP; rw [List.length_map]
  rw [lk,List.take_length] at hm
  exact ⟨_,rfl,q l H' (sHl sH) ⟨us,hlH,hl',hm⟩⟩
end
def missC (rows:List Rw) (bars:List Str) (c:List Item):List (Str × Nat):=missF rows bars (laidT c).length (namesOf c)
structure CallOk (K:PySem.W.Frag) (H:Hp) (a:Addr) (ct:List Item):Prop where
 at_:∃ xs,SqL K H a xs/\Paired (Says K T' H 3) xs (ct.map itemD)
 lt:(laidT ct).length<=900
 lp:(laidP ct).length<=900
structure FormOk (c:C5) (CF:Addr) (H:Hp) (f:Addr) (rows:List Rw) (bars:List Str):Prop where
 at_:FormAt c CF H f rows bars
 lr:rows.length<=500
 lb:bars.length<=500
 ok:∀ r ∈ rows,r.ok
theorem FormOk.same {c:C5} {CF:Addr} {H H':Hp} {f:Addr} {rows:List Rw} {bars:List Str} (h:FormOk c CF H f rows bars) (s:Same H H'):FormOk c CF H' f rows bars:=⟨h.at_.same s,h.lr,h.lb,h.ok⟩
def spMis (K:PySem.W.Frag) (c:C5) (CF:Addr):Sp:=fun vs H Q _=>∃ (f a:Addr) (rows:List Rw) (bars:List Str) (ct:List Item),vs = [.ref f,.ref a]/\FormOk c CF H f rows bars/\CallOk K H a ct/\∀ (l:Addr) (H':Hp),Same H H'->NewMs H H' l (missC rows bars ct)->Q (.ref l) H'
section
variable {P:Program} {w:World} {K:PySem.W.Frag} {mg:Str->Option Value} {base:Heap} {f CF:Addr} {fd:FuncData} {c:C5} {m:MA}
theorem scMis:FnScope ["form","call","many","names"] ["form","call"] (defScope sMisfits):=⟨rfl,rfl,rfl,by decide +kernel,rfl,by decide +kernel,by decide +kernel⟩
theorem ok_mis {g1 g2:Addr} {d1 d2:FuncData} (F:Fun K "misfits" "misfits" sMisfits f fd) (c1:Callee P w K mg base 2 "shape" g1 d1 ["call"] (spShape K)) (c2:Callee P w K mg base 4 "misfits_of" g2 d2 ["form","many","names"] (spMOf c CF)):FnOk P w K mg base CX0 5 f fd ["form","call"] (spMis K c CF):=by
 refine F.ok scMis (fun vs H Q E h=>?_) (fun cdv A outer s H vs Q E hr h=>?_)
 ·obtain ⟨f,a,rows,bars,ct,rfl,_⟩:=h
  rfl
 obtain ⟨f,a,rows,bars,ct,rfl,hF,⟨⟨xs,hx,hc⟩,lt,lp⟩,q⟩:=h
 have hr2:Room 2 _:=hr.mono (by decide)
 refine ⟨_,pss_cons (ps_asg (cF c1 hr2 (ac (pv 1) pa_nil)) (pg_tup rfl (pgs_cons (pg_name (i:=2) scMis.nd rfl (Or.inl rfl)) (pgs_cons (pg_name (i:=3) scMis.nd rfl (Or.inl rfl)) pgs_nil))))
  (pss_one (ps_ret (cF c2 hr (ac (pv 0) (ac (pv 2) (ac (pv 3) pa_nil)))))),?_⟩
 refine ⟨_,rfl,a,ct,xs,rfl,hx,hc,lt,lp,fun p l H1 s1 nl ep el=>?_⟩
 refine ⟨p,_,rfl,SqT.of ep,rfl,_,_,rfl,_,_,rfl,rfl,?_⟩
 have hF1:=hF.same s1
 have ln:(namesOf ct).length<=900:=by unfold namesOf; rw [List.length_map]; exact lp
 exact ⟨_,rfl,_,rfl,_,rfl,f,l,(laidT ct).length,rows,bars,namesOf ct,rfl,hF.lr,hF.lb,lt,ln,hF.ok,hF1.at_,el,fun l2 H2 s2 ⟨us,n2,e2,m2⟩=>q l2 H2 (s1.trans s2) ⟨us,s1.free n2,e2,m2⟩⟩
end
end K81
namespace L2
open PySem PySem.Spec PyProof.Rows
section
variable {X:Cx}
theorem call_anyB (hc:X.calm = true):CallR X (.builtin "any") (fun xs H Q=>∃ (p:Addr) (bs:List Bool),xs = [.ref p]/\SqL X.K H p (bs.map V.bl)/\Q (.bl (bs.any id)) H):=by
 intro pins s σ H xs us Q I r h
 obtain ⟨p,bs,rfl,hS,q⟩:=h
 obtain ⟨u,rfl,ru⟩:=vals1 r
 cases ru
 obtain ⟨its,rv,hp,hz⟩:=I.list hS
 have hlen:its.length = bs.length:=by rw [<- rv.length,List.length_map]
 have hne:p ≠ s.heap.objs.size:=Nat.ne_of_lt (by obtain ⟨_,e,_⟩:=hp.isList; exact Heap.lt_size e)
 refine call_any_walk (wpAny_pyIter_list hp.isList ?_)
 refine ⟨s.heap.objs.size,_,_,_,_,_,fun i=>bs.getD i false,rfl,Walks.list (A:=X.A.in1) (I.ok.hd hc) s.heap.objs.size p hne its.toArray,⟨⟨_,Heap.get?_push_size _ rfl,rfl,rfl⟩,hp.isList.push _⟩,?_,fun h' tk k=>?_⟩
 ·intro i v s' Q' E' hP hQ
  have hv:its[i]? = some v:=by simpa using hP
  have hi:i < bs.length:=by rw [<- hlen]; exact (List.getElem?_eq_some_iff.mp hv).1
  obtain ⟨u',e1,e2⟩:=rv.get (i:=i) (x:=V.bl bs[i]) (by rw [List.getElem?_map,List.getElem?_eq_getElem hi]; rfl)
  rw [hv] at e1
  cases e1
  cases e2
  refine wpAny_truthy_bool ?_
  have:bs.getD i false = bs[i]:=by rw [List.getD_eq_getElem?_getD,List.getElem?_eq_getElem hi]; rfl
  rw [<- this]
  exact hQ
 ·have e:((List.range its.toArray.size).any fun i=>bs.getD i false) = bs.any id:=by
   rw [List.size_toArray,hlen,Bool.eq_iff_iff,List.any_eq_true,List.any_eq_true]
   constructor
   ·rintro ⟨i,hi,hb⟩
    have hi':=List.mem_range.mp hi
    rw [List.getD_eq_getElem?_getD,List.getElem?_eq_getElem hi'] at hb
    exact ⟨_,List.getElem_mem hi',hb⟩
   ·rintro ⟨b,hb,h1⟩
    obtain ⟨i,hi,rfl⟩:=List.getElem_of_mem hb
    refine ⟨i,List.mem_range.mpr hi,?_⟩
    rw [List.getD_eq_getElem?_getD,List.getElem?_eq_getElem hi]
    exact h1
  rw [e]
  exact ⟨.bl (bs.any id),H,I.kept (h':=h') (t':=tk) (fun b o q=>k b o (fun hm=>by
   have e:b = s.heap.objs.size:=by simpa using hm
   exact absurd (Heap.lt_size q) (by rw [e]; exact Nat.lt_irrefl _)) (Heap.get?_push_of_some _ q)),rfl,q⟩
end
def intsTo (n:Nat):List Int:=(List.range n).map fun (i:Nat)=>(i:Int)
theorem Vals.of_at {ts:List Int}:∀ {us:List Value},us.length = ts.length->(∀ (i:Nat) (v:Value),us[i]? = some v->∃ t,v = Value.int (ts.getD i 0) t)->Vals (ts.map V.int) us:=by
 induction ts with
 | nil=>
  intro us hl _
  have:us = []:=List.length_eq_zero_iff.mp hl
  subst this
  exact .nil
 | cons t ts ih=>
  intro us hl h
  cases us with
  | nil=>cases hl
  | cons u us=>
   obtain ⟨k,e⟩:=h 0 u rfl
   exact .cons ⟨k,e⟩ (ih (by simpa using hl) fun i v e=>h (i + 1) v e)
section
variable {X:Cx}
theorem call_rng:CallR X (.type "range") (fun xs H Q=>∃ n:Nat,xs = [.int (n:Nat)]/\∀ p,H p = none->Q (.ref p) (upd H p (.rng 0 (n:Nat)))):=by
 intro pins s σ H xs us Q I r h
 obtain ⟨n,rfl,q⟩:=h
 obtain ⟨u,rfl,ru⟩:=vals1 r
 obtain ⟨t,rfl⟩:=ru
 refine call_range_1 ?_
 refine ⟨.ref s.heap.objs.size,_,I.laid (o:=.rng 0 (n:Nat)) (fun b u e=>Heap.get?_push_of_some _ e) (Nat.le_refl _) ?_,rfl,q _ (I.hok.fresh (Nat.le_refl _))⟩
 exact ⟨_,_,_,Heap.get?_push_size _ rfl⟩
theorem call_listR (hc:X.calm = true):CallR X (.type "list") (fun xs H Q=>∃ (p:Addr) (n:Nat),xs = [.ref p]/\H p = some (.rng 0 (n:Nat))/\n<=900/\∀ l,H l = none->Q (.ref l) (upd H l (.lst ((intsTo n).map V.int)))):=by
 intro pins s σ H xs us Q I r h
 obtain ⟨p,n,rfl,hp,hn,q⟩:=h
 obtain ⟨u,rfl,ru⟩:=vals1 r
 cases ru
 obtain ⟨t,u',v',e⟩:=I.hok p _ hp
 refine call_list_range (n:=n) (I.ok.hd hc) e ?_ ?_ (by omega) fun h' tk acc c' hk he hacc=>?_
 ·exact small_one (by omega) (by omega) (by omega) (by omega)
 ·unfold Builtin.Range.rangeSize
  rw [if_pos (by decide)]
  split <;> omega
 ·have hl:acc.toList.length = (intsTo n).length:=by
   unfold intsTo
   rw [List.length_map,List.length_range]
   simpa using hacc.1
  have hv:Vals ((intsTo n).map V.int) acc.toList:=Vals.of_at hl fun i v e=>by
   obtain ⟨t,rfl⟩:=hacc.2 i v (by simpa using e)
   refine ⟨t,?_⟩
   have hi:i < n:=by
    have:=(List.getElem?_eq_some_iff.mp e).1
    rw [hl] at this
    unfold intsTo at this
    simpa using this
   have eg:(intsTo n).getD i 0 = (i:Int):=by
    unfold intsTo
    rw [List.getD_eq_getElem?_getD,List.getElem?_map,List.getElem?_range hi]
    rfl
   rw [eg]
   simp
  refine ⟨.ref s.heap.objs.size,_,I.laid (t':=tk) (o:=.lst ((intsTo n).map V.int)) hk (Nat.le_refl _) ⟨?_,acc.toList,c',hv,by simpa using he⟩,rfl,q _ (I.hok.fresh (Nat.le_refl _))⟩
  unfold intsTo
  rw [List.length_map,List.length_map,List.length_range]
  have : 1000<=sizeLine:=by decide
  omega
end
end L2
namespace L2
open PySem PySem.W PySem.Builtin PySem.Builtin.ObjectAttr PySem.Spec PyProof.Rows
section
variable {prog:Program} {w:World} {A:Around} {E:Value->Shared->Prop} {s:Shared} {K:PySem.W.Frag} {C f:Addr} {us:List Value}
end
section
variable {prog:Program} {w:World} {A:Around} {E:Value->Shared->Prop} {s:Shared} {K:PySem.W.Frag} {C x:Addr} {us:List Value}
end
end L2
namespace L2
open PySem PySem.W PySem.Builtin PySem.Builtin.ObjectAttr PySem.Builtin.Getset_descriptor PySem.Spec PyProof.Rows
section
variable {prog:Program} {w:World} {A:Around} {E:Value->Shared->Prop} {s:Shared} {K:PySem.W.Frag} {C D x dx:Addr} {us:List Value}
end
end L2
namespace L2
open PySem PySem.Spec PyProof.Rows
section
variable {X:Cx} {pins:List (Addr × Obj)} {σ : St} {H:Hp} {s:Shared} {x C t:Addr} {f:Str} {y:V} {u:Value} {A:Around} {E:Value->Shared->Prop}
end
section
variable {X:Cx} {o e value:Expr} {f:Str} {pos pos' tpos:Pos} {ta tv:TE}
end
section
variable {X:Cx} {CX:CXT} {k:Nat} {f C:Addr} {fd:FuncData} {ps:List Str} {sp:Sp} {E:XK} {x:Str} {p pos:Pos} {e:Expr} {es:List Expr} {t:TA}
end
def drop (H:Hp) (a:Addr):Hp:=fun b=>if b = a then none else H b
section
variable {X:Cx} {pins:List (Addr × Obj)} {σ : St} {H:Hp} {s:Shared} {ea C t:Addr} {od:Option Addr} {M:Model} {E:Value->Shared->Prop}
end
section
variable {X:Cx} {E:XK} {pos:Pos} {e:Expr} {te:TE}
end
section
variable {P:Program} {w:World} {K:PySem.W.Frag} {mg:Str->Option Value} {base:Heap} {N:List Str} {qual:Str} {scope:Scope} {f:Addr} {cd:Value} {A:Around} {outer:List Env} {s:Shared} {H:Hp} {E E':XK}
end
section
variable {X:Cx} {x:Str} {C:Addr} {B Bn newId nid initId inN:String} {bm bmN:List Value} {np pos:Pos} {e:Expr} {es:List Expr} {t:TA}
end
section
variable {X:Cx} {pins:List (Addr × Obj)} {σ : St} {H:Hp} {s:Shared} {M:Model} {A:Around} {E:Value->Shared->Prop} {i:Nat} {n:Str} {pos:Pos}
end
section
variable {X:Cx} {pins:List (Addr × Obj)} {σ : St} {H:Hp} {s:Shared} {ea:Addr}
variable {st b₀:Stmt} {suite:List Stmt} {c n:Str} {np hpos pos:Pos} {C:Addr} {i:Nat} {tb:XK->TS} {ts:TS} {ok:Value->Prop}
end
section
variable {X:Cx} {pins:List (Addr × Obj)} {σ : St} {e:Expr} {es:List Expr} {t:TA} {E:XK} {x:Str} {p pos:Pos} {k:Nat} {f C:Addr} {fd:FuncData} {ps:List Str} {sp:Sp} {dvs:List V} {ds:List Value}
end
section
variable {M:Model} {A:Around} {E:Value->Shared->Prop} {s:Shared} {base:Heap} {env:Env} {outer:List Env} {L e C t:Addr} {od:Option Addr} {tb0 head:Value} {hn:Bool} {Q:Unit->Shared->Prop}
end
section
variable {X:Cx} {pins:List (Addr × Obj)} {σ : St} {H H':Hp} {s s':Shared} {ea C t:Addr} {od:Option Addr} {M:Model} {E:Value->Shared->Prop}
end
section
variable {X:Cx} {pins:List (Addr × Obj)} {σ : St} {H H':Hp} {s s':Shared} {ea C t:Addr} {od:Option Addr} {M:Model} {A:Around} {E:Value->Shared->Prop} {h5:Heap}
end
section
variable {X:Cx} {E:XK} {pos:Pos} {e:Expr} {te:TE}
end
section
variable {P:Program} {w:World} {K:PySem.W.Frag} {mg:Str->Option Value} {base:Heap} {N:List Str} {qual:Str} {scope:Scope} {f:Addr} {cd:Value} {A:Around} {outer:List Env} {s:Shared} {H:Hp} {E E':XK}
end
section
variable {X:Cx} {k:Nat} {f:Addr} {fd:FuncData} {ps:List Str} {sp:Sp} {E:XK} {x:Str} {p pos:Pos} {e:Expr} {es:List Expr} {t:TA}
end
section
variable {X:Cx} {hs:List ExceptHandler} {th:HK} {c n:Str} {C':Addr} {i:Nat} {ts:TS} {b₀:Stmt} {suite:List Stmt} {np hpos:Pos}
end
section
variable {X:Cx} {st:Stmt} {h₀:ExceptHandler} {hs:List ExceptHandler} {pos:Pos} {tb:XK->TS} {th:HK}
end
section
variable {X:Cx} {pins:List (Addr × Obj)} {σ : St} {e:Expr} {es:List Expr} {te:TE} {t:TA} {E:XK} {x m:Str} {p pos apos:Pos} {k:Nat} {f C:Addr} {fd:FuncData} {ps:List Str} {sp:Sp} {dvs:List V} {ds:List Value}
end
section
variable {X:Cx} {pins:List (Addr × Obj)} {σ : St} {H:Hp} {s:Shared} {x C t:Addr} {f:Str} {A:Around} {E:Value->Shared->Prop}
end
section
variable {X:Cx} {e:Expr} {f:Str} {pos:Pos} {ta:TE}
end
end L2
namespace L2
open PySem PySem.Spec PyProof.Rows PySem.Builtin
section
variable {prog:Program} {w:World} {A:Around} {E:Value->Shared->Prop} {s:Shared} {it ea C t:Addr} {od:Option Addr} {tb:Value} {x left step:Int} {Q:Option Value->Shared->Prop}
end
end L2
namespace L2
open PySem PySem.Spec PyProof.Rows
structure TurnH (ea:Addr) (P:Program) (w:World) (K:PySem.W.Frag) (tg:Expr) (J:It) (fp:List Addr) (it:Addr) (tn:Nat->Heap->Prop):Prop where
 mem:it ∈ fp
 obj:∀ i h,tn i h->∀ b ∈ fp,∃ o,h.get? b = some o/\∀ v,o.data ≠ .cell v
 keep:∀ i h h',tn i h->(∀ b ∈ fp,∀ o,h.get? b = some o->h'.get? b = some o)->tn i h'
 item:∀ (X:Cx),X.prog = P->X.w = w->X.K = K->X.A.handled = some (.ref ea)->∀ (i:Nat) (pins:List (Addr × Obj)) (s:Shared) (σ : St) (H:Hp) (E:Value->Shared->Prop),Inv X pins σ H s->(∀ b ∈ fp,FpOk X pins H b)->tn i s.heap->J.go i H->
  wpAny (model P w) X.A (pyNext (.ref it)) (fun r s1=>∃ u,r = some u/\
   wpAny (model P w) X.A (letOwnedTupleGo tg (.ref it) u) (fun _ s2=>∃ x H',Inv X pins σ H' s2/\RelV x u/\J.yld i H x H'/\tn (i + 1) s2.heap/\∀ b ∈ fp,H' b = none) E s1) E s
 done:∀ (X:Cx),X.prog = P->X.w = w->X.K = K->X.A.handled = some (.ref ea)->∀ (i:Nat) (pins:List (Addr × Obj)) (s:Shared) (σ : St) (H:Hp) (E:Value->Shared->Prop),Inv X pins σ H s->(∀ b ∈ fp,FpOk X pins H b)->tn i s.heap->J.stop i H->
  wpAny (model P w) X.A (pyNext (.ref it)) (fun r s1=>r = none/\Inv X pins σ H s1) E s
 self:∀ (A:Around) (i:Nat) (s:Shared) (Q:Value->Shared->Prop) (E:Value->Shared->Prop),tn i s.heap->Q (.ref it) s->wpAny (model P w) A (pyIter (.ref it)) Q E s
def PIEH (X:Cx) (ea:Addr) (pins:List (Addr × Obj)) (σ : St) (tg:Expr) (R:It->Hp->Prop) (itv:Value) (s2:Shared):Prop:=
 ∃ (it:Addr) (fp:List Addr) (tn:Nat->Heap->Prop) (J:It) (H':Hp),itv = .ref it/\Inv X pins σ H' s2/\TurnH ea X.prog X.w X.K tg J fp it tn/\tn 0 s2.heap/\(∀ b ∈ fp,FpOk X pins H' b)/\R J H'
section
variable {X:Cx} {tg:Expr}
end
section
variable {X:Cx} {pins:List (Addr × Obj)} {σ : St} {s:Shared} {sc:Scope} {fr Nc:List Str} {caps:List (Option Nat)} {elt tg iter:Expr} {ifs:List Expr} {g:TG} {tt:TT} {te:TE} {ow:List Nat} {pos pos2:Pos} {E:Value->Shared->Prop}
end
section
variable {X:Cx} {hs:List ExceptHandler} {th:HK} {c n:Str} {C':Addr} {i:Nat} {ts:TS} {b₀:Stmt} {suite:List Stmt} {np hpos:Pos}
end
section
variable {X:Cx}
end
end L2
namespace L2
open PySem PySem.Spec PyProof.Rows PySem.Builtin
section
variable {prog:Program} {w:World} {A:Around} {E:Value->Shared->Prop} {s:Shared} {it l ea C t:Addr} {od:Option Addr} {tb:Value} {i:Nat} {items:Array Value} {Q:Option Value->Shared->Prop}
end
section
variable {X:Cx} {tg:Expr}
end
section
variable {X:Cx} {sc:Scope} {elt tg iter:Expr} {ifs:List Expr} {g:TG} {tt:TT} {te:TE} {ow:List Nat} {pos:Pos}
end
section
variable {X:Cx}
end
end L2
namespace L2
open PySem PySem.Spec PyProof.Rows
section
variable {X:Cx}
end
section
variable {X:Cx} {hs:List ExceptHandler} {th:HK} {c n:Str} {C':Addr} {i:Nat} {ts:TS} {b₀:Stmt} {suite:List Stmt} {np hpos:Pos}
end
section
variable {P:Program} {w:World} {K:PySem.W.Frag} {mg:Str->Option Value} {base:Heap}
end
section
variable {X:Cx} {k:Nat} {f ea:Addr} {fd:FuncData} {ps:List Str} {sp:Addr->Sp} {x:Str} {p pos:Pos} {e:Expr} {es:List Expr} {t:TA}
end
theorem sqT_keep' {K:PySem.W.Frag} {H3:Hp} {o:HO} {l b:Addr} {zs:List V} (hl:∃ zs,H3 l = some (.lst zs)) (hz:SqT K H3 b zs):SqT K (upd H3 l o) b zs:=by
 obtain ⟨ws,hl⟩:=hl
 rcases hz with (z | ⟨u,z⟩) | z
 ·refine .inl (.inl ?_)
  rw [upd_ne (fun e=>by subst e; rw [hl] at z; cases z)]
  exact z
 ·refine .inl (.inr ⟨u,?_⟩)
  rw [upd_ne (fun e=>by subst e; rw [hl] at z; cases z)]
  exact z
 ·exact .inr z
theorem says_grow {K:PySem.W.Frag} {ok ok':Addr->Prop} {H:Hp} {o:HO} {l:Addr} {zs:List V} (hl:H l = some (.lst zs)) (hk:∀ b,ok b->ok' b/\b ≠ l) {n:Nat} {x:V} {d:Dt} (h:Says K ok H n x d):Says K ok' (upd H l o) n x d:=
 h.frame (fun a xs z=>sqT_keep' ⟨_,hl⟩ z) fun a xs oa z=>⟨(hk a oa).1,by rw [upd_ne (hk a oa).2]; exact z⟩
theorem lc_saysr {K:PySem.W.Frag} {lo:Int} {n m:Nat} {caps:List (Option Nat)} {g:TG} {tt:TT} {te:TE} {σ : St} {H1:Hp} {Q:VK} {D:Addr} (dt:Nat->Dt) (hD:H1 D = none) (hn:n<=1000)
  (hs:∀ (i:Nat) (H:Hp) (Qf:VK) (Qs:Hp->Prop),i < n->Same H1 H->(∀ v H',Same H H'->Says K (fun a=>H a = none) H' m v (dt i)->Qf v H')->
   g (.int (lo + i)) (capS caps σ) H fun σ2 H2=>tt σ2 H2 fun ok H3=>(ok = true->te σ2 H3 Qf)/\(ok = false->Qs H3))
  (hd:∀ vs H,Same H1 H->H D = some (.lst vs)->Paired (Says K (fun a=>a ≠ D/\H1 a = none) H m) vs ((List.range n).map dt)->Q (.ref D) H):LCr (Itr lo n) caps g tt te σ H1 Q D:=by
 have sz : 1000<=sizeLine:=by decide
 refine lc_range (fun i ys H'=>Same H1 H'/\H' D = some (.lst ys)/\Paired (Says K (fun a=>a ≠ D/\H1 a = none) H' m) ys ((List.range i).map dt)) ⟨fun b u e=>by rw [upd_ne (ne_of_none e hD)]; exact e,upd_same,.nil⟩ ?_ ?_
 ·rintro i ys H hi ⟨sH,hDy,hp⟩
  refine hs i H _ _ hi sH fun v H' s' hv=>?_
  have ly:ys.length = i:=by rw [hp.length,List.length_map,List.length_range]
  refine lcN.mk hi (by omega) (s' _ _ hDy) (by omega) ⟨fun b u e=>?_,upd_same,?_⟩
  ·rw [upd_ne (ne_of_none e hD)]
   exact s' _ _ (sH _ _ e)
  ·rw [List.range_succ,List.map_append]
   refine Paired.snoc (Paired.imp' (fun _ _ z=>says_grow (s' _ _ hDy) (fun b o=>⟨o,o.1⟩) (z.same s')) hp) (says_grow (s' _ _ hDy) (fun b o=>?_) hv)
   have nb:b ≠ D:=fun e=>by subst e; rw [o] at hDy; cases hDy
   exact ⟨⟨nb,sH.free o⟩,nb⟩
 ·rintro ys H ⟨sH,hDy,hp⟩
  exact hd ys H sH hDy hp
theorem lc_saysl {K:PySem.W.Frag} {a:Addr} {xs:List V} {m:Nat} {caps:List (Option Nat)} {g:TG} {tt:TT} {te:TE} {σ : St} {H1:Hp} {Q:VK} {D:Addr} (dt:Nat->Dt) (hD:H1 D = none) (ha:SqL K H1 a xs) (hn:xs.length<=1000)
  (hs:∀ (i:Nat) (x:V) (H:Hp) (Qf:VK) (Qs:Hp->Prop),xs[i]? = some x->Same H1 H->(∀ v H',Same H H'->Says K (fun a=>H a = none) H' m v (dt i)->Qf v H')->
   g x (capS caps σ) H fun σ2 H2=>tt σ2 H2 fun ok H3=>(ok = true->te σ2 H3 Qf)/\(ok = false->Qs H3))
  (hd:∀ vs H,Same H1 H->H D = some (.lst vs)->Paired (Says K (fun a=>a ≠ D/\H1 a = none) H m) vs ((List.range xs.length).map dt)->Q (.ref D) H):LCr (Itl K a) caps g tt te σ H1 Q D:=by
 have sz : 1000<=sizeLine:=by decide
 refine lc_list (K:=K) (xs:=xs) (fun i ys H'=>Same H1 H'/\H' D = some (.lst ys)/\Paired (Says K (fun a=>a ≠ D/\H1 a = none) H' m) ys ((List.range i).map dt)) ⟨fun b u e=>by rw [upd_ne (ne_of_none e hD)]; exact e,upd_same,.nil⟩ (fun i ys H h=>h.1.seq ha) ?_ ?_
 ·rintro i x ys H hi hx ⟨sH,hDy,hp⟩
  refine hs i x H _ _ hx sH fun v H' s' hv=>?_
  have ly:ys.length = i:=by rw [hp.length,List.length_map,List.length_range]
  refine lcN.mk hi (by omega) (s' _ _ hDy) (by omega) ⟨fun b u e=>?_,upd_same,?_⟩
  ·rw [upd_ne (ne_of_none e hD)]
   exact s' _ _ (sH _ _ e)
  ·rw [List.range_succ,List.map_append]
   refine Paired.snoc (Paired.imp' (fun _ _ z=>says_grow (s' _ _ hDy) (fun b o=>⟨o,o.1⟩) (z.same s')) hp) (says_grow (s' _ _ hDy) (fun b o=>?_) hv)
   have nb:b ≠ D:=fun e=>by subst e; rw [o] at hDy; cases hDy
   exact ⟨⟨nb,sH.free o⟩,nb⟩
 ·rintro ys H ⟨sH,hDy,hp⟩
  exact hd ys H sH hDy hp
theorem le1000' {n:Nat} (h:n<=1000):n<=sizeLine:=Nat.le_of_lt (small1000 h)
theorem filt_snoc {α : Type} {ys:List α} {i:Nat} {y : α} (keep : α->Bool) (hy:ys[i]? = some y):(ys.take (i + 1)).filter keep = (ys.take i).filter keep ++ (if keep y = true then [y] else []):=by
 have hi:i < ys.length:=(List.getElem?_eq_some_iff.mp hy).1
 have e:ys[i] = y:=(List.getElem?_eq_some_iff.mp hy).2
 rw [List.take_succ_eq_append_getElem hi,List.filter_append,e,List.filter_cons]
 rfl
theorem filt_le {α : Type} {ys:List α} {i:Nat} (keep : α->Bool):((ys.take i).filter keep).length<=i:=by
 have:=List.length_filter_le keep (ys.take i)
 rw [List.length_take] at this
 omega
theorem lc_sel {α : Type} {K:PySem.W.Frag} {a:Addr} {xs:List V} {caps:List (Option Nat)} {g:TG} {tt:TT} {te:TE} {σ : L2.St} {H1:Hp} {Q:VK} {D:Addr} (ys:List α) (keep : α->Bool) (out : α->V) (hD:H1 D = none) (ha:SqL K H1 a xs) (hl:xs.length = ys.length) (hn:xs.length<=1000)
  (hs:∀ (i:Nat) (x:V) (y : α) (H:Hp) (N:VK) (S:Hp->Prop),xs[i]? = some x->ys[i]? = some y->Same H1 H->(∀ H',Same H H'->keep y = true->N (out y) H')->(∀ H',Same H H'->keep y = false->S H')->g x (capS caps σ) H fun σ2 H2=>tt σ2 H2 fun ok H3=>(ok = true->te σ2 H3 N)/\(ok = false->S H3))
  (hd:∀ H,Same H1 H->H D = some (.lst ((ys.filter keep).map out))->Q (.ref D) H):LCr (Itl K a) caps g tt te σ H1 Q D:=by
 refine lc_list (K:=K) (xs:=xs) (fun i zs H'=>Same H1 H'/\H' D = some (.lst zs)/\zs = ((ys.take i).filter keep).map out) ⟨same_new hD _,upd_same,rfl⟩ (fun i zs H' h=>h.1.seq ha) ?_ ?_
 ·rintro i x zs H' hlt hx ⟨sH,hDy,ez⟩
  obtain ⟨y,hy⟩:∃ y,ys[i]? = some y:=⟨_,List.getElem?_eq_getElem (by omega)⟩
  refine hs i x y H' _ _ hx hy sH (fun H2 s2 hk=>?_) (fun H2 s2 hk=>?_)
  ·refine lcN.mk hlt (le1000' hn) (s2 _ _ hDy) (by rw [ez,List.length_map]; exact filt_le _) ⟨fun b' u e=>?_,upd_same,?_⟩
   ·rw [upd_ne (ne_of_none e hD)]
    exact s2 _ _ (sH b' u e)
   ·rw [ez,filt_snoc keep hy,if_pos hk,List.map_append]
    rfl
  ·refine lcS.mk hlt ⟨sH.trans s2,s2 _ _ hDy,?_⟩
   rw [ez,filt_snoc keep hy,if_neg (by rw [hk]; exact Bool.false_ne_true),List.append_nil]
 ·rintro zs H2 ⟨s2,hDy,ez⟩
  rw [List.take_of_length_le (by omega)] at ez
  rw [ez] at hDy
  exact hd H2 s2 hDy
end L2
namespace L2
open PySem PySem.Spec PyProof.Rows PySem.Builtin
section
variable {prog:Program} {w:World} {A:Around} {E:Value->Shared->Prop} {s:Shared} {it l ea C t:Addr} {od:Option Addr} {tb:Value} {i:Nat} {items:Array Value} {Q:Option Value->Shared->Prop}
end
section
variable {prog:Program} {w:World} {A:Around} {E:Value->Shared->Prop} {s:Shared} {ea C tt:Addr} {od:Option Addr} {tb:Value}
end
end L2
namespace L2
open PySem PySem.Spec PyProof.Rows
section
variable {X:Cx} {tg:Expr}
end
theorem call_len_setT {X:Cx}:CallR X (.builtin "len") (fun xs H Q=>∃ (a:Addr) (S:Str->Bool) (n:Nat),xs = [.ref a]/\H a = some (setO X.prog X.w a S n)/\Q (.int n) H):=by
 intro pins s σ H xs us Q I r h
 obtain ⟨a,S,n,rfl,e,q⟩:=h
 obtain ⟨u,rfl,ru⟩:=vals1 r
 cases ru
 obtain ⟨o,es,ep,t,ho,hx,hd,_,_,hb,hf,hn⟩:=(I.hok a _ e).1
 have h63:(es.size:Int) < 2 ^ 63:=by
  have:scanBound < 2 ^ 63:=by unfold scanBound; decide
  omega
 refine call_len_set ho hx hd hf h63 ?_
 exact ⟨.int es.size,H,I.tok _,⟨_,rfl⟩,by rw [hn]; exact q⟩
theorem zip_sel {α : Type} {R:Addr->α->Prop} {us:List Addr} {rows:List α} (h:Paired R us rows) (keep : α->Bool):∃ vs:List Addr,((us.zip rows).filter fun p=>keep p.2).map (fun p=>V.ref p.1) = vs.map V.ref/\Paired R vs (rows.filter keep):=by
 induction h with
 | nil=>exact ⟨[],rfl,.nil⟩
 | cons r t ih=>
  rename_i u y us ys
  obtain ⟨vs,e,p⟩:=ih
  rw [List.zip_cons_cons,List.filter_cons,List.filter_cons]
  cases hk:keep y with
  | true=>
   refine ⟨u :: vs,?_,?_⟩
   ·rw [if_pos rfl,List.map_cons,e]
    rfl
   ·rw [if_pos rfl]
    exact .cons r p
  | false=>exact ⟨vs,by rw [if_neg Bool.false_ne_true,e],by rw [if_neg Bool.false_ne_true]; exact p⟩
theorem zip_out {α : Type} {R:Addr->α->Prop} {us:List Addr} {rows:List α} (h:Paired R us rows) (keep : α->Bool) (out : α->V):((us.zip rows).filter fun p=>keep p.2).map (fun p=>out p.2) = (rows.filter keep).map out:=by
 induction h with
 | nil=>rfl
 | cons r t ih=>
  rename_i u y us ys
  rw [List.zip_cons_cons,List.filter_cons,List.filter_cons]
  cases hk:keep y with
  | true=>rw [if_pos rfl,if_pos rfl,List.map_cons,List.map_cons,ih]
  | false=>rw [if_neg Bool.false_ne_true,if_neg Bool.false_ne_true,ih]
theorem lc_zip {α : Type} {K:PySem.W.Frag} {a:Addr} {us:List Addr} {rows:List α} {caps:List (Option Nat)} {g:TG} {tt:TT} {te:TE} {σ : L2.St} {H1:Hp} {Q:VK} {D:Addr} (R:Hp->Addr->α->Prop) (keep : α->Bool) (out:Addr->α->V) (hD:H1 D = none) (ha:H1 a = some (.lst (us.map V.ref))) (hu:Paired (R H1) us rows) (hn:rows.length<=1000)
  (hs:∀ (i:Nat) (u:Addr) (y : α) (H:Hp) (N:VK) (S:Hp->Prop),us[i]? = some u->rows[i]? = some y->R H1 u y->Same H1 H->(∀ H',Same H H'->keep y = true->N (out u y) H')->(∀ H',Same H H'->keep y = false->S H')->g (.ref u) (capS caps σ) H fun σ2 H2=>tt σ2 H2 fun ok H3=>(ok = true->te σ2 H3 N)/\(ok = false->S H3))
  (hd:∀ H,Same H1 H->H D = some (.lst (((us.zip rows).filter fun p=>keep p.2).map fun p=>out p.1 p.2))->Q (.ref D) H):LCr (Itl K a) caps g tt te σ H1 Q D:=by
 have hl:us.length = rows.length:=hu.length
 have lz:(us.zip rows).length = rows.length:=by rw [List.length_zip,hl,Nat.min_self]
 refine lc_sel (K:=K) (xs:=us.map V.ref) (us.zip rows) (fun p=>keep p.2) (fun p=>out p.1 p.2) hD (SqL.of ha) (by rw [List.length_map,lz,hl]) (by rw [List.length_map,hl]; exact hn) (fun i x y H N S hx hy sH n1 s1=>?_) hd
 have hi:i < rows.length:=by rw [<- lz]; exact (List.getElem?_eq_some_iff.mp hy).1
 have e1:(us.zip rows)[i]? = some (us[i],rows[i]):=by
  rw [List.getElem?_eq_getElem (by omega),List.getElem_zip]
 rw [e1] at hy
 cases hy
 have hu1:us[i]? = some us[i]:=List.getElem?_eq_getElem (by omega)
 rw [List.getElem?_map,hu1] at hx
 cases hx
 obtain ⟨d,hd',hr⟩:=Paired.get hu hu1
 have e2:rows[i]? = some rows[i]:=List.getElem?_eq_getElem hi
 rw [e2] at hd'
 cases hd'
 exact hs i us[i] rows[i] H N S hu1 e2 hr sH n1 s1
section
variable {X:Cx} {pins:List (Addr × Obj)} {σ : St} {e o:Expr} {es:List Expr} {ta:TE} {t:TA} {E:XK} {m:Str} {pos apos:Pos} {k:Nat} {f C:Addr} {fd:FuncData} {ps:List Str} {sp:Sp}
end
section
variable {X:Cx} {elts:List Expr} {x1:Nat} {tpos:Pos}
end
theorem wpAny_pyHash_bool {prog:Program} {w:World} {A:Around} {E:Value->Shared->Prop} {s:Shared} {b:Bool} {Q:Int->Shared->Prop} (h:Q (hashInt (if b then 1 else 0)) { s with toks:=s.toks + 1 }) :
  wpAny (model prog w) A (pyHash (.bool b)) Q E s:=by
 have hr:=rawHash_range (if b then 1 else 0)
 have hT:s.TypeIs (.bool b) "bool":=rfl
 unfold pyHash
 have hv:[Value.bool b].any Value.onHeap = false:=rfl
 refine wpAny_bind ?_
 rw [cRoomFor,if_neg (by rw [hv]; exact Bool.false_ne_true)]; refine wpAny_pure ?_
 refine wpAny_bind (wpAny_specialOf hT PySem.F.slot_bool_hash.lookup ?_)
 show wpAny _ _ (if (some (Value.builtin "int.__hash__") == some Value.none) = true then _ else _) Q E s
 rw [if_neg (by rw [beq_builtin_none]; exact Bool.false_ne_true)]
 refine wpAny_bind (wpAny_specialOf hT PySem.F.slot_bool_hash.lookup ?_)
 show wpAny _ _ (callSpecialIfBoundUnlessNone? (.bool b) "__hash__" _ >>= _) Q E s
 refine wpAny_bind (wpAny_callSpecialIfBoundUnlessNone?_slot hT PySem.F.slot_bool_hash
  (wpAny_call_entry PySem.F.slot_bool_hash hT entry_int_hash
   (show wpAny _ _ (do ret (<- mkInt (rawHash (if b then 1 else 0)))) _ _ s from wpAny_ret_mkInt ?_) (args_int_hash _)))
 show wpAny _ _ (if (decide (-(2:Int) ^ 63<=rawHash (if b then 1 else 0)) && decide (rawHash (if b then 1 else 0) < 2 ^ 63)) = true then _ else _) Q E _
 rw [if_pos (by rw [decide_eq_true hr.1,decide_eq_true hr.2]; rfl)]
 exact wpAny_pure h
abbrev SB:=Str ⊕ Bool
def sbV:SB->V
 | .inl x=>.str x
 | .inr b=>.bl b
def sbIs:SB->Value->Bool
 | .inl x,.str y _=>y == x
 | .inr b,.bool c=>c == b
 | _,_=>false
theorem sbIs_shape {k:SB} {v:Value} (h:sbIs k v = true):(∃ x t,k = .inl x/\v = .str x t)\/∃ b,k = .inr b/\v = .bool b:=by
 cases k with
 | inl x=>
  cases v with
  | str y t=>
   have h':(y == x) = true:=h
   exact .inl ⟨x,t,rfl,by rw [eq_of_beq h']⟩
  | _=>cases h
 | inr b=>
  cases v with
  | bool c=>
   have h':(c == b) = true:=h
   exact .inr ⟨b,rfl,by rw [eq_of_beq h']⟩
  | _=>cases h
def sbH (w:World):SB->Int
 | .inl x=>hashStr w x
 | .inr b=>hashInt (if b then 1 else 0)
def sbKind (prog:Program) (w:World):PySem.KeyKind prog w SB where
 is:=sbIs
 hash:=sbH w
 inj:=fun v a b ha hb=>by
  rcases sbIs_shape ha with ⟨x,t,rfl,rfl⟩ | ⟨c,rfl,rfl⟩
  ·rcases sbIs_shape hb with ⟨y,u,rfl,e⟩ | ⟨d,rfl,e⟩
   ·injection e with e1 _; rw [e1]
   ·exact nomatch e
  ·rcases sbIs_shape hb with ⟨y,u,rfl,e⟩ | ⟨d,rfl,e⟩
   ·exact nomatch e
   ·injection e with e1; rw [e1]
 byValue:=fun k v h=>by
  rcases sbIs_shape h with ⟨x,t,rfl,rfl⟩ | ⟨b,rfl,rfl⟩ <;> rfl
 pyHash:=fun hv h=>by
  rcases sbIs_shape hv with ⟨x,t,rfl,rfl⟩ | ⟨b,rfl,rfl⟩
  ·exact wpAny_pyHash_str h
  ·exact wpAny_pyHash_bool h
 eqBool:=fun hu hv h=>by
  rcases sbIs_shape hu with ⟨x,t,rfl,rfl⟩ | ⟨b,rfl,rfl⟩
  ·rcases sbIs_shape hv with ⟨y,u,rfl,rfl⟩ | ⟨d,rfl,rfl⟩
   ·refine wpAny_eqBool_str ?_
    have e:decide ((Sum.inl x:SB) = Sum.inl y) = decide (x = y):=by simp
    rwa [e] at h
   ·refine SeqAt.EqAt.str_bool x t d _ _ _ _ ?_
    have e:decide ((Sum.inl x:SB) = Sum.inr d) = false:=decide_eq_false (fun q=>nomatch q)
    rwa [e] at h
  ·rcases sbIs_shape hv with ⟨y,u,rfl,rfl⟩ | ⟨d,rfl,rfl⟩
   ·refine SeqAt.EqAt.bool_str b y u _ _ _ _ ?_
    have e:decide ((Sum.inr b:SB) = Sum.inl y) = false:=decide_eq_false (fun q=>nomatch q)
    rwa [e] at h
   ·refine SeqAt.EqAt.bool_bool b d _ _ _ _ ?_
    have e:decide ((Sum.inr b:SB) = Sum.inr d) = (b == d):=by cases b <;> cases d <;> decide
    rwa [e] at h
 «strs»:=fun k x t v h=>by
  rcases sbIs_shape h with ⟨y,u,rfl,e⟩ | ⟨b,rfl,e⟩
  ·injection e with e1 _
   subst e1
   cases v <;> rfl
  ·exact nomatch e
theorem sbV_is {P:Program} {w:World} {k:SB} {u:Value} (r:RelV (sbV k) u):(sbKind P w).is k u = true:=by
 cases k with
 | inl x=>
  obtain ⟨t,e⟩:=(show ∃ t,u = Value.str x t from r)
  subst e
  show (x == x) = true
  exact beq_self_eq_true x
 | inr b=>
  have e:u = Value.bool b:=r
  subst e
  show (b == b) = true
  exact beq_self_eq_true b
theorem sb_items {P:Program} {w:World}:∀ {ks:List SB} {us:List Value},Vals (ks.map sbV) us->ItemsAre (sbKind P w) ks us
 | [],_,r=>by rw [List.map_nil] at r; cases r; exact .nil
 | k :: ks,_,r=>by
  rw [List.map_cons] at r
  cases r with
  | cons h t=>exact .cons (sbV_is h) (sb_items t)
theorem sb_key {P:Program} {w:World} {H:Hp} {h:Heap} {a:Addr} {ks:List SB} (ok:HOk P w H h) (e:H a = some (.tup (ks.map sbV))):(tupleKind (sbKind P w)).is h ks a:=by
 obtain ⟨_,its,r,o,h1,h2,n,h3⟩:=(show ObjOk P w H h a (.tup (ks.map sbV)) from ok a _ e)
 exact ⟨o,its.toArray,n,h1,h2,h3,by simpa using sb_items r⟩
def dBφ (P:Program) (w:World) (a:Addr) (xs:List (List SB × Addr × Value)):Heap->Prop:=fun h=>∃ o es ep,h.get? a = some o/\o.ExactDict/\o.data = .dict es ep/\es.toList = xs.map (entryOfKey (tupleKind (sbKind P w)))/\(xs.map (·.1)).Nodup
abbrev KB (H:Hp):List (List SB × V)->List (List SB × Addr × Value)->Prop:=Paired fun p q=>p.1 = q.1/\H q.2.1 = some (.tup (p.1.map sbV))/\RelV p.2 q.2.2
def DB (P:Program) (w:World) (H:Hp) (a:Addr) (kvs:List (List SB × V)):Prop:=∃ xs,H a = some (.ext (dBφ P w a xs))/\KB H kvs xs
theorem DB.same {P:Program} {w:World} {H H':Hp} {a:Addr} {kvs:List (List SB × V)} (h:DB P w H a kvs) (s:Same H H'):DB P w H' a kvs:=by
 obtain ⟨xs,h1,h2⟩:=h
 exact ⟨xs,s _ _ h1,Paired.mapP h2 fun _ _ z=>⟨z.1,s _ _ z.2.1,z.2.2⟩⟩
theorem KB.val {H:Hp} {kvs:List (List SB × V)} {xs:List (List SB × Addr × Value)} (r:KB H kvs xs) (k:List SB):RelO (valV kvs k) ((atKey xs k).map (·.2)):=by
 induction r with
 | nil=>exact True.intro
 | @cons p q ps qs h t ih=>
  obtain ⟨h1,_,h2⟩:=h
  by_cases e:p.1 = k
  ·have e':q.1 = k:=h1.symm.trans e
   have b:atKey (q :: qs) k = some q.2:=by simp [atKey,List.find?_cons,e']
   rw [valV_pos e,b]; exact h2
  ·have e':¬ q.1 = k:=fun z=>e (h1.trans z)
   have b:atKey (q :: qs) k = atKey qs k:=by simp [atKey,List.find?_cons,e']
   rw [valV_neg e,b]; exact ih
theorem KB.repl {H:Hp} {kvs:List (List SB × V)} {xs:List (List SB × Addr × Value)} (r:KB H kvs xs) (k:List SB) {y:V} {u:Value} (ry:RelV y u) :
  KB H (kvs.map fun kv=>if kv.1 = k then (kv.1,y) else kv) (xs.map (putAt k u)):=by
 induction r with
 | nil=>exact .nil
 | @cons p q ps qs h t ih=>
  rw [List.map_cons,List.map_cons]
  refine .cons ?_ ih
  obtain ⟨h1,h2,h3⟩:=h
  unfold putAt
  by_cases e:p.1 = k
  ·rw [if_pos e,if_pos (h1.symm.trans e)]; exact ⟨h1,h2,ry⟩
  ·rw [if_neg e,if_neg (fun z=>e (h1.trans z))]; exact ⟨h1,h2,h3⟩
theorem KB.put {H:Hp} {kvs:List (List SB × V)} {xs:List (List SB × Addr × Value)} (r:KB H kvs xs) (k:List SB) {b:Addr} {y:V} {u:Value} (hb:H b = some (.tup (k.map sbV))) (ry:RelV y u) :
  KB H (putK kvs k y) (storedH xs k b u):=by
 have e:(kvs.any fun kv=>decide (kv.1 = k)) = (atKey xs k).isSome:=by
  rw [valV_any,(r.val k).isSome_eq,Option.isSome_map]
 unfold putK storedH
 rw [e]
 by_cases q:(atKey xs k).isSome = true
 ·rw [if_pos q,if_pos q]; exact r.repl k ry
 ·rw [if_neg q,if_neg q]; exact Paired.snoc r ⟨rfl,hb,ry⟩
theorem KB.keys {P:Program} {w:World} {H:Hp} {h:Heap} (ok:HOk P w H h):∀ {kvs:List (List SB × V)} {xs:List (List SB × Addr × Value)},KB H kvs xs->∀ x ∈ xs,(tupleKind (sbKind P w)).is h x.1 x.2.1:=by
 intro kvs xs r
 induction r with
 | nil=>intro x hx; exact nomatch hx
 | @cons p q ps qs hq t ih=>
  intro x hx
  rcases List.mem_cons.mp hx with e | hx
  ·subst e
   exact sb_key ok (by rw [<- hq.1]; exact hq.2.1)
  ·exact ih x hx
theorem db_of {P:Program} {w:World} {H:Hp} {h:Heap} {a:Addr} {xs:List (List SB × Addr × Value)} {kvs:List (List SB × V)} (ok:HOk P w H h) (e:H a = some (.ext (dBφ P w a xs))) (r:KB H kvs xs):h.DictOfH (tupleKind (sbKind P w)) a xs:=by
 obtain ⟨⟨o,es,ep,h1,h2,h3,h4,h5⟩,_⟩:=(show ObjOk P w H h a (.ext (dBφ P w a xs)) from ok a _ e)
 exact ⟨o,es,ep,h1,h2,h3,h4,r.keys ok,h5⟩
section
variable {P:Program} {w:World} {A:Around} {R:Result->Shared->Prop} {I:Addr} {fp wr:List Addr} {G:Array GenState->Array GenState->Prop} {n:Nat} {Pr:Nat->Value->Prop} {Sg:Nat->Shared->Prop}
end
section
variable {X:Cx}
end
end L2
namespace L2
open PySem PyProof.Rows
def uAll (X:Cx) (ss:List Stmt):TS:=fun D σ H=>∃ t,PSs X ss t/\t D σ H
theorem pss_all {X:Cx} {ss:List Stmt}:PSs X ss (uAll X ss):=⟨fun pins s σ H D I ⟨_,p,h⟩=>p pins s σ H D I h⟩
theorem pss_go {X:Cx} {st:Stmt} {rest:List Stmt} {t:TS} {D:L2.Ends} {σ : L2.St} {H:Hp} (p:PS X st t) (h:tSeq t (uAll X rest) D σ H):uAll X (st :: rest) D σ H:=⟨_,pss_cons p pss_all,h⟩
end L2
namespace L2
open PySem PySem.Spec PyProof.Rows
mutual
def pyD:Dt->PyData
 | .non=>.none
 | .bl b=>.bool b
 | .int i=>.int i
 | .str z=>.str z
 | .tup ds=>.tuple (pyDs ds)
 | .lst ds=>.list (pyDs ds)
def pyDs:List Dt->List PyData
 | []=>[]
 | d :: ds=>pyD d :: pyDs ds
end
section
variable {X:Cx} {pins:List (Addr × Obj)} {σ : St} {H:Hp} {s:Shared} {ok:Addr->Prop}
theorem reads_flat {x:V} {u:Value} {d:Dt} (h:FlatD x d) (r:RelV x u):Reads s.heap u (pyD d) []:=by
 cases x <;> cases d <;> first | exact h.elim | skip
 ·cases r; exact .none
 ·cases r; cases h; exact .bool _
 ·obtain ⟨t,rfl⟩:=r; cases h; exact .int _ _
 ·obtain ⟨t,rfl⟩:=r; cases h; exact .str _ _
theorem reads_all {n:Nat} (ih:∀ {x:V} {u:Value} {d:Dt},Says X.K ok H n x d->RelV x u->∃ as,Reads s.heap u (pyD d) as):∀ {xs:List V} {ds:List Dt} {us:List Value},Paired (Says X.K ok H n) xs ds->Vals xs us->∃ as,ReadsAll s.heap us (pyDs ds) as
 | [],_,_,.nil,.nil=>⟨[],.nil⟩
 | _ :: _,_,_,.cons h t,.cons r q=>by
  obtain ⟨as,a⟩:=ih h r
  obtain ⟨bs,b⟩:=reads_all ih t q
  exact ⟨as ++ bs,.cons a b⟩
theorem reads_of (I:Inv X pins σ H s):∀ (n:Nat) {x:V} {u:Value} {d:Dt},Says X.K ok H n x d->RelV x u->∃ as,Reads s.heap u (pyD d) as
 | 0,_,_,_,h,r=>⟨[],reads_flat h r⟩
 | n + 1,_,_,_,h,r=>by
  rcases h with h | ⟨a,xs,ds,rfl,rfl,hx,q⟩ | ⟨a,xs,ds,rfl,rfl,_,hx,q⟩
  ·exact ⟨[],reads_flat h r⟩
  ·cases r
   obtain ⟨ia,va,pa,_⟩:=I.tuple hx
   obtain ⟨as,b⟩:=reads_all (fun h r=>reads_of I n h r) q va
   obtain ⟨o,h1,h2,m,h3⟩:=(show s.heap.IsTuple a ia.toArray from pa)
   exact ⟨as,.tuple h1 h2 h3 (by simpa using b)⟩
  ·cases r
   obtain ⟨ia,va,pa,_⟩:=I.list (SqL.of hx)
   obtain ⟨as,b⟩:=reads_all (fun h r=>reads_of I n h r) q va
   obtain ⟨o,h1,h2,m,h3⟩:=pa.isList
   exact ⟨a :: as,.list h1 h2 h3 (by simpa using b)⟩
def rEqD (K:PySem.W.Frag):R2:=fun x y H Q=>∃ (n:Nat) (d d':Dt) (ok ok':Addr->Prop),Says K ok H n x d/\Says K ok' H n y d'/\(pyD d).canLay0 = true/\(pyD d').canLay0 = true/\(pyD d).depth<=20/\Q (.bl (PyData.eqv (pyD d) (pyD d'))) H
theorem op_eqD (hu:X.A.units + 64 < cLine):OpR X (compareOp .Eq) (rEqD X.K):=by
 intro pins s σ H x y v u Q I rx ry h
 obtain ⟨n,d,d',ok,ok',hx,hy,c1,c2,hd,q⟩:=h
 obtain ⟨as,a⟩:=reads_of I n hx rx
 obtain ⟨bs,b⟩:=reads_of I n hy ry
 exact SeqAt.compareEq_reads a b c1 c2 (by omega) ⟨.bl _,H,I,rfl,q⟩
end
def leS (a b:Str):Bool:=!ltCps b.cps.toList a.cps.toList
def sortS (zs:List Str):List Str:=zs.mergeSort leS
theorem ltCps_lt (a b:List Nat):ltCps a b = decide (a < b):=ltCps_eq a b
theorem leS_total (a b:Str):(leS a b || leS b a) = true:=by
 unfold leS
 rw [ltCps_lt,ltCps_lt]
 by_cases h:b.cps.toList < a.cps.toList
 ·have:¬ a.cps.toList < b.cps.toList:=fun h2=>List.lt_asymm h h2
  simp [h,this]
 ·simp [h]
theorem leS_trans (a b c:Str) (h1:leS a b = true) (h2:leS b c = true):leS a c = true:=by
 unfold leS at *
 rw [ltCps_lt] at *
 simp only [Bool.not_eq_true',decide_eq_false_iff_not,List.not_lt] at *
 exact List.le_trans h1 h2
theorem leS_anti {a b:Str} (h1:leS a b = true) (h2:leS b a = true):a = b:=by
 unfold leS at *
 rw [ltCps_lt] at *
 simp only [Bool.not_eq_true',decide_eq_false_iff_not,List.not_lt] at *
 have:=List.le_antisymm h1 h2
 cases a; cases b
 simp only [Str.mk.injEq] at *
 exact Array.ext' this
theorem sortS_perm (zs:List Str):(sortS zs).Perm zs:=List.mergeSort_perm _ _
theorem sortS_pw (zs:List Str):(sortS zs).Pairwise (fun a b=>leS a b = true):=List.pairwise_mergeSort leS_trans leS_total zs
theorem pw_rising:∀ (p:Str) (l:List Str),risingS p l = true->(p :: l).Pairwise (fun a b=>leS a b = true)
 | _,[],_=>List.pairwise_singleton _ _
 | p,x :: r,h=>by
  have h:(!ltCps x.cps.toList p.cps.toList && risingS x r) = true:=h
  rw [Bool.and_eq_true] at h
  have ih:=pw_rising x r h.2
  refine List.pairwise_cons.mpr ⟨fun y hy=>?_,ih⟩
  rcases List.mem_cons.mp hy with rfl | hy
  ·exact h.1
  ·exact leS_trans p x y h.1 (List.rel_of_pairwise_cons ih hy)
theorem pw_sortedS:∀ (l:List Str),sortedS l = true->l.Pairwise (fun a b=>leS a b = true)
 | [],_=>List.Pairwise.nil
 | x :: r,h=>pw_rising x r h
theorem sort_uniq {a b:List Str} (p:a.Perm b) (ha:a.Pairwise (fun a b=>leS a b = true)) (hb:b.Pairwise (fun a b=>leS a b = true)):a = b:=p.eq_of_pairwise (fun x y _ _ h1 h2=>leS_anti h1 h2) ha hb
theorem sortS_of {a b:List Str} (p:a.Perm b) (h:sortedS a = true):a = sortS b:=sort_uniq (p.trans (sortS_perm b).symm) (pw_sortedS a h) (sortS_pw b)
theorem sortS_eq {a b:List Str}:sortS a = sortS b ↔ a.Perm b:=⟨fun h=>(sortS_perm a).symm.trans (h ▸ sortS_perm b),fun h=>sort_uniq ((sortS_perm a).trans (h.trans (sortS_perm b).symm)) (sortS_pw a) (sortS_pw b)⟩
theorem Vals.strsAre:∀ {zs:List Str} {us:List Value},Vals (zs.map V.str) us->StrsAre us zs
 | [],_,h=>by cases h; exact .nil
 | n :: ns,_,h=>by
  cases h with
  | cons r t=>
   obtain ⟨k,rfl⟩:=r
   exact .cons n k (Vals.strsAre t)
theorem StrsAre.vals:∀ {us:List Value} {zs:List Str},StrsAre us zs->Vals (zs.map V.str) us
 | _,_,.nil=>.nil
 | _,_,.cons n t h=>.cons ⟨t,rfl⟩ (StrsAre.vals h)
section
variable {X:Cx}
theorem call_sortedT:CallR X (.builtin "sorted") (fun xs H Q=>∃ (p:Addr) (zs:List Str),xs = [.ref p]/\SqL X.K H p (zs.map V.str)/\zs.length < 64/\∀ (l:Addr),H l = none->Q (.ref l) (upd H l (.lst ((sortS zs).map V.str)))):=by
 intro pins s σ H xs us Q I r h
 obtain ⟨p,ns,rfl,hS,h64,q⟩:=h
 obtain ⟨u,rfl,ru⟩:=vals1 r
 cases ru
 obtain ⟨its,rv,hp,hz⟩:=I.list hS
 have hlen:its.length = ns.length:=by rw [<- rv.length,List.length_map]
 refine sorted_strs hp.isList (Vals.strsAre rv) (by omega) fun out ns' hI hperm hsort=>?_
 obtain ⟨e,he⟩:=sortedAll_at s.heap its out
 have en:=sortS_of hperm hsort
 subst en
 refine ⟨.ref (s.heap.objs.size + 1),_,I.laid (t':=s.toks) (o:=.lst ((sortS ns).map V.str)) (fun b o hb=>sortedAll_old hb) (Nat.le_succ _) ⟨?_,out.toList,e,StrsAre.vals hI,by simpa using he⟩,rfl,q _ (I.hok.fresh (Nat.le_succ _))⟩
 rw [List.length_map,hperm.length_eq]
 have : 1000<=sizeLine:=by decide
 omega
end
end L2
namespace K81
open PySem L2 PyProof.Rows
abbrev TR:=Option (List Str × Bool × List Str)
def frR (r:Rw):Bool:=fr r.k r.b
def lackL (rows:List Rw) (many:Nat):List Rw:=(rows.drop many).filter fun r=>!frR r
def rowF (rows:List Rw) (bars:List Str) (many:Nat):TR:=
 if (lackL rows many).any (fun r=>!byNm r.k) = true then none
 else some (sortS ((lackL rows many).map (·.z)),(firstK 4 0 rows).isSome,if (firstK 4 0 rows).isSome = true then sortS (bars ++ nms (rows.take many)) else sortS (nms (rows.drop many)))
def rowD:TR->Dt
 | none=>.non
 | some (a,b,c)=>.tup [.lst (a.map Dt.str),.bl b,.lst (c.map Dt.str)]
def popR:List TR->List TR
 | []=>[]
 | [x]=>[x]
 | x :: y :: l=>if x = y then popR (y :: l) else x :: y :: l
def tabF (rows:List Rw) (bars:List Str):List TR × Bool:=
 let rs:=(List.range (plN rows + 1)).map (rowF rows bars)
 if (firstK 2 0 rows).isSome = true then ((popR rs.reverse).reverse,true) else (rs,false)
def tabD (t:List TR × Bool):Dt:=.tup [.lst (t.1.map rowD),.bl t.2]
def spDoors (c:C5):Sp:=fun vs H Q _=>∃ (a:Addr) (ps:List Addr) (rows:List Rw),vs = [.ref a]/\H a = some (.lst (ps.map V.ref))/\Paired (PAt c H) ps rows/\(∀ r ∈ rows,r.ok)/\rows.length<=500/\∀ (l:Addr) (H':Hp),Same H H'->H' l = some (.lst ((nms rows).map V.str))->Q (.ref l) H'
def spRowOf (K:PySem.W.Frag) (c:C5) (CF:Addr):Sp:=fun vs H Q _=>∃ (f:Addr) (many:Nat) (rows:List Rw) (bars:List Str),vs = [.ref f,.int (many:Nat)]/\FormOk c CF H f rows bars/\rows.length<=24/\bars.length<=30/\∀ (v:V) (H':Hp),Same H H'->Says K (fun a=>H a = none) H' 2 v (rowD (rowF rows bars many))->Q v H'
section
variable {P:Program} {w:World} {K:PySem.W.Frag} {mg:Str->Option Value} {base:Heap} {f CF G sg:Addr} {fd:FuncData} {c:C5} {m:MA}
theorem scDoors:FnScope ["parameters"] ["parameters"] (defScope sDoors):=⟨rfl,rfl,rfl,by decide +kernel,rfl,by decide +kernel,by decide +kernel⟩
theorem ok_doors {gd:FuncData} (F:Fun K "door_names" "door_names" sDoors f fd) (PP:Pcs K m c) (GB:FnOk P w K mg base CX0 1 m.fB gd ["self"] (spIn K m bnL)) (bB:Binds K gd ["self"] []):FnOk P w K mg base CX0 2 f fd ["parameters"] (spDoors c):=by
 refine F.ok scDoors (fun vs H Q E h=>?_) (fun cdv A outer s H vs Q E hr h=>?_)
 ·obtain ⟨a,ps,rows,rfl,_⟩:=h
  rfl
 obtain ⟨a,ps,rows,rfl,ha,hp,hok,l5,q⟩:=h
 have hC:∀ C,Cs5 c C->Cls K C/\Meth K C "by_name" m.fB:=fun C ⟨k,hk,e⟩=>by rw [e]; exact ⟨(PP k hk).cl,(PP k hk).mB⟩
 refine ⟨_,pss_one (ps_ret (pe_lc [] ["parameter"] [none] rfl ⟨rfl,rfl,rfl,rfl⟩ (pi_list (pv 0)) (gown_name 0) rfl rfl rfl
    (fun pins fp s H C=>⟨pg_name (i:=0) ndPm rfl (Or.inl rfl) (.inr rfl),pif_one (pt_val (pe_methP (pv 0) hC GB hr bB pass0)),pe_fldK (K:=K) rfl (pv 0) rfl⟩))),?_⟩
 refine ⟨_,rfl,a,rfl,⟨_,SqL.of ha⟩,fun D hD=>?_⟩
 refine lc_sel (K:=K) (xs:=ps.map V.ref) rows (fun r=>byNm r.k) (fun r=>V.str r.z) hD (SqL.of ha) (by rw [List.length_map,hp.length]) (by rw [List.length_map,hp.length]; omega) (fun i x r H' Nn S hx hr' sH nn ss=>?_) (fun H1 s1 h1=>?_)
 ·obtain ⟨pa,hpa,rfl⟩:=refs_at hx
  obtain ⟨r',hr2,dx,hdx⟩:=paired_at hp hpa
  rw [hr'] at hr2
  cases hr2
  have rok:=hok r (List.mem_of_getElem? hr')
  have C:=PP r.k rok.1
  have hd2:=sH _ _ hdx
  refine ⟨_,rfl,pa,_,dx,_,rfl,⟨r.k,rok.1,rfl⟩,hd2,pf_no (by decide +kernel) (by decide +kernel) (by decide +kernel),pa,dx,_,_,_,_,rfl,C,hd2,_,rfl,?_⟩
  rw [in_nm r.k rok.1]
  exact ⟨fun e=>⟨_,rfl,pa,_,dx,_,_,rfl,hd2,C.cl,C.nN,pf_name,nn _ (Same.refl _) e⟩,fun e=>ss _ (Same.refl _) e⟩
 ·refine q D _ s1 ?_
  rw [h1]
  unfold nms
  rw [List.map_map]
  rfl
end
theorem cut_takeN {xs:List V} {n:Nat}:cutV xs none (some (n:Int)) = xs.take n:=by
 unfold cutV
 rw [HT.sIx_nat,HT.sIx_none,List.drop_zero,Nat.sub_zero]
 by_cases h:n<=xs.length
 ·rw [Nat.min_eq_left h]
 ·rw [Nat.min_eq_right (by omega),List.take_of_length_le (Nat.le_refl _),List.take_of_length_le (by omega)]
theorem cut_dropN {xs:List V} {n:Nat}:cutV xs (some (n:Int)) none = xs.drop n:=by
 unfold cutV
 rw [HT.sIx_nat,HT.sIx_none]
 by_cases h:n<=xs.length
 ·rw [Nat.min_eq_left h]
  exact List.take_of_length_le (by rw [List.length_drop]; exact Nat.le_refl _)
 ·rw [Nat.min_eq_right (by omega),List.drop_of_length_le (Nat.le_refl _),List.drop_of_length_le (by omega)]
  simp
theorem pairedTake {α β : Type} {R : α->β->Prop} {a:List α} {c:List β} (h:Paired R a c):∀ n,Paired R (a.take n) (c.take n):=by
 induction h with
 | nil=>intro n; rw [List.take_nil,List.take_nil]; exact .nil
 | cons r _ ih=>
  intro n
  cases n with
  | zero=>exact .nil
  | succ n=>exact .cons r (ih n)
theorem pairedDrop {α β : Type} {R : α->β->Prop} {a:List α} {c:List β} (h:Paired R a c):∀ n,Paired R (a.drop n) (c.drop n):=by
 induction h with
 | nil=>intro n; rw [List.drop_nil,List.drop_nil]; exact .nil
 | cons r t ih=>
  intro n
  cases n with
  | zero=>exact .cons r t
  | succ n=>exact ih n
theorem pairedFilter {α β : Type} {R : α->β->Prop} {a:List α} {c:List β} (k : β->Bool) (h:Paired R a c):Paired R (((a.zip c).filter fun p=>k p.2).map (·.1)) (c.filter k):=by
 induction h with
 | nil=>exact .nil
 | @cons x y xs ys r _ ih=>
  rw [List.zip_cons_cons,List.filter_cons,List.filter_cons]
  cases e:k y with
  | true=>rw [if_pos rfl,if_pos rfl,List.map_cons]; exact .cons r ih
  | false=>rw [if_neg Bool.false_ne_true,if_neg Bool.false_ne_true]; exact ih
theorem firstK_isSome {kk:Nat} {rows:List Rw}:numV (firstK kk 0 rows) = .non ↔ (firstK kk 0 rows).isSome = false:=by
 cases firstK kk 0 rows with
 | none=>exact ⟨fun _=>rfl,fun _=>rfl⟩
 | some i=>exact ⟨(fun h=>by cases h),(fun h=>by cases h)⟩
theorem strs_says {K:PySem.W.Frag} {ok:Addr->Prop} {H:Hp} {n:Nat}:∀ (zs:List Str),Paired (Says K ok H n) (zs.map V.str) (zs.map Dt.str)
 | []=>.nil
 | z :: zs=>.cons .str (strs_says zs)
theorem nms_len (rows:List Rw):(nms rows).length<=rows.length:=by unfold nms; rw [List.length_map]; exact List.length_filter_le _ _
structure TxtR (mg:Str->Option Value):Prop where
 any:mg "any" = none
 sorted:mg "sorted" = none
 range:mg "range" = none
 len:mg "len" = none
section
variable {P:Program} {w:World} {K:PySem.W.Frag} {mg:Str->Option Value} {base:Heap} {f CF G sg:Addr} {fd:FuncData} {c:C5} {m:MA}
theorem scRowOf:FnScope ["form","many","parameters","left","lacking","needed"] ["form","many"] (defScope sRowOf):=⟨rfl,rfl,rfl,by decide +kernel,rfl,by decide +kernel,by decide +kernel⟩
theorem ok_rowOf {g1 gP gB gG:Addr} {e1 eP eB eG gf gn:FuncData} (F:Fun K "row_of" "row_of" sRowOf f fd) (U:TxtR mg) (PP:Pcs K m c) (FK:FC K CF) (cD:Callee P w K mg base 2 "door_names" g1 e1 ["parameters"] (spDoors c))
  (mP:Meth K CF "parameters" gP) (GP:FnOk P w K mg base CX0 1 gP eP ["self"] (spPars c CF)) (bP:Binds K eP ["self"] []) (mB:Meth K CF "bars" gB) (GB:FnOk P w K mg base CX0 1 gB eB ["self"] (spBars c CF)) (bB:Binds K eB ["self"] []) (mG:Meth K CF "bag" gG) (GG:FnOk P w K mg base CX0 1 gG eG ["self"] (spWord c CF 4)) (bG:Binds K eG ["self"] [])
  (GF:FnOk P w K mg base CX0 1 m.fF gf ["self"] (spFree K m)) (bF:Binds K gf ["self"] []) (GN:FnOk P w K mg base CX0 1 m.fB gn ["self"] (spIn K m bnL)) (bN:Binds K gn ["self"] []):FnOk P w K mg base CX0 3 f fd ["form","many"] (spRowOf K c CF):=by
 refine F.ok scRowOf (fun vs H Q E h=>?_) (fun cdv A outer s H vs Q E hr h=>?_)
 ·obtain ⟨f,many,rows,bars,rfl,_⟩:=h
  rfl
 obtain ⟨f,many,rows,bars,rfl,hF,l24,l30,q⟩:=h
 have hr1:Room 1 _:=hr.mono (by decide)
 have hok:=hF.ok
 have hFr:∀ C,Cs5 c C->Cls K C/\Meth K C "free" m.fF:=fun C ⟨k,hk,e⟩=>by rw [e]; exact ⟨(PP k hk).cl,(PP k hk).mF⟩
 have hNm:∀ C,Cs5 c C->Cls K C/\Meth K C "by_name" m.fB:=fun C ⟨k,hk,e⟩=>by rw [e]; exact ⟨(PP k hk).cl,(PP k hk).mB⟩
 obtain ⟨dx,fs,lr,lb',ld,pps,h1,h2,h3,h4,h5,h6⟩:=id hF.at_
 refine pss_go (ps_set (i:=2) scRowOf.nd rfl (Or.inl rfl) (pe_meth0 (pv 0) FK.cl mP GP hr1 bP .nil pass0)) ?_
 refine ⟨_,rfl,f,dx,fs,rfl,h1,h2.no _ (by decide +kernel),f,rows,bars,rfl,hF.at_,fun l ps H1 s1 nl hl hp=>?_⟩
 dsimp only [gName]
 refine pss_go (ps_set (i:=3) scRowOf.nd rfl (Or.inl rfl) (pe_slice sl_list (pv 2) (po_some (pv 1)) po_none)) ?_
 refine ⟨_,rfl,_,rfl,_,rfl,l,_,rfl,SqL.of hl,fun l2 hl2=>?_⟩
 rw [show cutV (ps.map V.ref) (some (many:Int)) none = (ps.drop many).map V.ref from cut_dropN.trans (List.map_drop ..).symm]
 have s2:=same_new hl2 (.lst ((ps.drop many).map V.ref))
 have g2:upd H1 l2 (.lst ((ps.drop many).map V.ref)) l2 = some (.lst ((ps.drop many).map V.ref)):=upd_same
 generalize upd H1 l2 (.lst ((ps.drop many).map V.ref)) = H2 at s2 g2 |-
 have s02:=s1.trans s2
 have hp2:=pats_same s2 hp
 have hpd:=pairedDrop hp2 many
 have okd:∀ r ∈ rows.drop many,r.ok:=fun r hr=>hok r (List.mem_of_mem_drop hr)
 have ld':(rows.drop many).length<=24:=by rw [List.length_drop]; omega
 dsimp only [gName]
 refine pss_go (ps_lc (i:=4) [] ["parameter"] [none] scRowOf.nd rfl (Or.inl rfl) rfl ⟨rfl,rfl,rfl,rfl⟩ (pi_list (pv 3)) (gown_name 0) rfl rfl rfl
   (fun pins fp s H C=>⟨pg_name (i:=0) ndPm rfl (Or.inl rfl) (.inr rfl),pif_one (pt_not (pt_val (pe_methP (pv 0) hFr GF hr1 bF pass0))),pv 0⟩)) ?_
 refine ⟨_,rfl,l2,rfl,⟨_,SqL.of g2⟩,fun D hD=>?_⟩
 refine lc_sel (K:=K) (xs:=(ps.drop many).map V.ref) ((ps.drop many).zip (rows.drop many)) (fun p=>!frR p.2) (fun p=>V.ref p.1) hD (SqL.of g2) (by rw [List.length_map,List.length_zip,hpd.length,Nat.min_self]) (by rw [List.length_map,hpd.length]; omega) (fun i x y H' Nn S hx hy sH nn ss=>?_) (fun H3 s3 h3'=>?_)
 ·obtain ⟨pa,hpa,rfl⟩:=refs_at hx
  obtain ⟨r,hr',dx',hdx⟩:=paired_at hpd hpa
  have ey:y = (pa,r):=by
   rw [List.getElem?_zip_eq_some] at hy
   rw [hpa,hr'] at hy
   obtain ⟨a,b⟩:=hy
   cases y
   simp only [Option.some.injEq] at a b
   rw [a,b]
  subst ey
  have rok:=okd r (List.mem_of_getElem? hr')
  have C:=PP r.k rok.1
  have hd2:=sH _ _ hdx
  refine ⟨_,rfl,pa,_,dx',_,rfl,⟨r.k,rok.1,rfl⟩,hd2,pf_no (by decide +kernel) (by decide +kernel) (by decide +kernel),pa,dx',_,_,_,_,rfl,C,hd2,_,rfl,?_⟩
  exact ⟨fun e=>⟨_,rfl,nn _ (Same.refl _) e⟩,fun e=>ss _ (Same.refl _) e⟩
 have hq:=pairedFilter (fun r=>!frR r) (pats_same s3 hpd)
 have h3':H3 D = some (.lst (((((ps.drop many).zip (rows.drop many)).filter fun p=>!frR p.2).map (·.1)).map V.ref)):=by rw [h3',List.map_map]; rfl
 have hq:Paired (PAt c H3) ((((ps.drop many).zip (rows.drop many)).filter fun p=>!frR p.2).map (·.1)) (lackL rows many):=hq
 generalize (((ps.drop many).zip (rows.drop many)).filter fun p=>!frR p.2).map (·.1) = qs at h3' hq
 have okl:∀ r ∈ lackL rows many,r.ok:=fun r hr=>okd r (List.mem_filter.mp hr).1
 have ll:(lackL rows many).length<=24:=Nat.le_trans (List.length_filter_le _ _) ld'
 have s03:=s02.trans s3
 dsimp only [gName]
 have erow:rowF rows bars many = if (lackL rows many).any (fun r=>!byNm r.k) = true then none else some (sortS ((lackL rows many).map (·.z)),(firstK 4 0 rows).isSome,if (firstK 4 0 rows).isSome = true then sortS (bars ++ nms (rows.take many)) else sortS (nms (rows.drop many))):=rfl
 generalize rowF rows bars many = R at q erow
 generalize lackL rows many = lk at hq okl ll erow
 refine pss_go (ps_if (pt_val (cB (call_anyB rfl) U.any boot_any (ac (pe_lc [] ["parameter"] [none] rfl ⟨rfl,rfl,rfl,rfl⟩ (pi_list (pv 4)) (gown_name 0) rfl rfl rfl
   (fun pins fp s H C=>⟨pg_name (i:=0) ndPm rfl (Or.inl rfl) (.inr rfl),pif_nil,pe_not (pe_methP (pv 0) hNm GN hr1 bN pass0)⟩)) pa_nil))) (pss_one (ps_ret pe_non)) pss_nil) ?_
 refine ⟨_,rfl,D,rfl,⟨_,SqL.of h3'⟩,fun D2 hD2=>?_⟩
 refine lc_sel (K:=K) (xs:=qs.map V.ref) lk (fun _=>true) (fun r=>V.bl (!byNm r.k)) hD2 (SqL.of h3') (by rw [List.length_map,hq.length]) (by rw [List.length_map,hq.length]; omega) (fun i x r H' Nn S hx hr' sH nn ss=>?_) (fun H4 s4 h4'=>?_)
 ·obtain ⟨pa,hpa,rfl⟩:=refs_at hx
  obtain ⟨r',hr2,dx',hdx⟩:=paired_at hq hpa
  rw [hr'] at hr2
  cases hr2
  have rok:=okl r (List.mem_of_getElem? hr')
  have C:=PP r.k rok.1
  have hd2:=sH _ _ hdx
  refine ⟨fun _=>?_,fun e=>Bool.noConfusion e⟩
  refine ⟨_,rfl,pa,_,dx',_,rfl,⟨r.k,rok.1,rfl⟩,hd2,pf_no (by decide +kernel) (by decide +kernel) (by decide +kernel),pa,dx',_,_,_,_,rfl,C,hd2,_,rfl,?_⟩
  rw [in_nm r.k rok.1]
  exact nn _ (Same.refl _) rfl
 rw [List.filter_eq_self.mpr (fun _ _=>rfl),show lk.map (fun r=>V.bl (!byNm r.k)) = (lk.map fun r=>!byNm r.k).map V.bl by rw [List.map_map]; rfl] at h4'
 refine ⟨D2,_,rfl,SqL.of h4',_,rfl,?_⟩
 have ean:(lk.map fun r=>!byNm r.k).any id = lk.any fun r=>!byNm r.k:=by rw [List.any_map]; rfl
 rw [ean]
 have s04:=s03.trans s4
 cases ea:lk.any (fun r=>!byNm r.k) with
 | true=>
  rw [ea,if_pos rfl] at erow
  refine iteT ?_
  refine q _ _ s04 ?_
  rw [erow]
  exact .inl True.intro
 | false=>
  rw [ea,if_neg Bool.false_ne_true] at erow
  refine iteF ?_
  have h3'':=s4 _ _ h3'
  have hq4:=pats_same s4 hq
  refine pss_go (ps_set (i:=5) scRowOf.nd rfl (Or.inl rfl) (cB call_sortedT U.sorted boot_sorted (ac (pe_lc [] ["parameter"] [none] rfl ⟨rfl,rfl,rfl,rfl⟩ (pi_list (pv 4)) (gown_name 0) rfl rfl rfl
   (fun pins fp s H C=>⟨pg_name (i:=0) ndPm rfl (Or.inl rfl) (.inr rfl),pif_nil,pe_fldK (K:=K) rfl (pv 0) rfl⟩)) pa_nil))) ?_
  refine ⟨_,rfl,D,rfl,⟨_,SqL.of h3''⟩,fun D3 hD3=>?_⟩
  refine lc_sel (K:=K) (xs:=qs.map V.ref) lk (fun _=>true) (fun r=>V.str r.z) hD3 (SqL.of h3'') (by rw [List.length_map,hq.length]) (by rw [List.length_map,hq.length]; omega) (fun i x r H' Nn S hx hr' sH nn ss=>?_) (fun H5 s5 h5'=>?_)
  ·obtain ⟨pa,hpa,rfl⟩:=refs_at hx
   obtain ⟨r',hr2,dx',hdx⟩:=paired_at hq4 hpa
   rw [hr'] at hr2
   cases hr2
   have C:=PP r.k (okl r (List.mem_of_getElem? hr')).1
   exact ⟨fun _=>⟨_,rfl,pa,_,dx',_,_,rfl,sH _ _ hdx,C.cl,C.nN,pf_name,nn _ (Same.refl _) rfl⟩,fun e=>Bool.noConfusion e⟩
  rw [List.filter_eq_self.mpr (fun _ _=>rfl),show lk.map (fun r=>V.str r.z) = (lk.map (·.z)).map V.str by rw [List.map_map]; rfl] at h5'
  refine ⟨D3,_,rfl,SqL.of h5',by rw [List.length_map]; omega,fun ln hln=>?_⟩
  have s6:=same_new hln (.lst ((sortS (lk.map (·.z))).map V.str))
  have g6:upd H5 ln (.lst ((sortS (lk.map (·.z))).map V.str)) ln = some (.lst ((sortS (lk.map (·.z))).map V.str)):=upd_same
  have s06:=s04.trans (s5.trans s6)
  have s26:=s3.trans (s4.trans (s5.trans s6))
  have nln:H ln = none:=(s04.trans s5).free hln
  generalize upd H5 ln (.lst ((sortS (lk.map (·.z))).map V.str)) = H6 at s6 g6 s06 s26 |-
  dsimp only [gName]
  refine pss_go (ps_if (pt_cmp (pc_isN (pe_meth0 (pv 0) FK.cl mG GG hr1 bG .nil pass0))) pss_all pss_nil) ?_
  have F6:=hF.same s06
  refine ⟨_,rfl,f,dx,fs,rfl,s06 _ _ h1,h2.no _ (by decide +kernel),f,rows,bars,rfl,F6.at_,_,rfl,?_⟩
  have fin:∀ {l7:Addr} {zs:List Str} {b:Bool} {H7:Hp},Same H6 H7->H7 l7 = some (.lst (zs.map V.str))->H l7 = none->R = some (sortS (lk.map (·.z)),b,zs)->∀ t,H7 t = none->Q (.ref t) (upd H7 t (.tup [.ref ln,.bl b,.ref l7])):=fun {l7 zs b H7} s7 h7 n7 eR t ht=>by
   have s8:=same_new ht (.tup [.ref ln,.bl b,.ref l7])
   refine q _ _ (s06.trans (s7.trans s8)) ?_
   rw [eR]
   exact Says.tup (SqT.of upd_same) (.cons (Says.lst nln ((s7.trans s8) _ _ g6) (strs_says _)) (.cons Says.bl (.cons (Says.lst n7 (s8 _ _ h7) (strs_says _)) .nil)))
  cases eb:(firstK 4 0 rows).isSome with
  | false=>
   rw [eb,if_neg Bool.false_ne_true] at erow
   refine iteB (decide_eq_true (firstK_isSome.mpr eb)) ?_
   refine ⟨_,pss_one (ps_ret (pe_tup (ac (pv 5) (ac pe_bl (ac (cB call_sortedT U.sorted boot_sorted (ac (cF cD hr (ac (pv 3) pa_nil)) pa_nil)) pa_nil))))),?_⟩
   refine ⟨_,rfl,_,rfl,l2,ps.drop many,rows.drop many,rfl,s26 _ _ g2,pats_same s26 hpd,okd,by omega,fun l7 H7 s7 h7=>?_⟩
   refine ⟨l7,_,rfl,SqL.of h7,by have:=nms_len (rows.drop many); omega,fun l8 hl8=>?_⟩
   have s8:=same_new hl8 (.lst ((sortS (nms (rows.drop many))).map V.str))
   exact ⟨(by show 3<=sizeLine; decide),fin (s7.trans s8) upd_same ((s06.trans s7).free hl8) erow⟩
  | true=>
   rw [eb,if_pos rfl] at erow
   refine iteC (decide_eq_false (fun h=>by rw [firstK_isSome.mp h] at eb; cases eb)) ?_
   refine ⟨_,pss_one (ps_ret (pe_tup (ac (pv 5) (ac pe_bl (ac (cB call_sortedT U.sorted boot_sorted (ac (pe_op op_cat (pe_meth0 (pv 0) FK.cl mB GB hr1 bB .nil pass0) (cF cD hr (ac (pe_slice sl_list (pv 2) po_none (po_some (pv 1))) pa_nil))) pa_nil)) pa_nil))))),?_⟩
   refine ⟨_,rfl,_,rfl,f,dx,fs,rfl,s06 _ _ h1,h2.no _ (by decide +kernel),f,rows,bars,rfl,F6.at_,fun lbb H7 s7 nbb hbb=>?_⟩
   have s27:=s26.trans s7
   refine ⟨_,rfl,_,rfl,_,rfl,l,_,rfl,SqL.of (s2.trans s27 _ _ hl),fun l8 hl8=>?_⟩
   rw [show cutV (ps.map V.ref) none (some (many:Int)) = (ps.take many).map V.ref from cut_takeN.trans (List.map_take ..).symm]
   have s8:=same_new hl8 (.lst ((ps.take many).map V.ref))
   refine ⟨l8,ps.take many,rows.take many,rfl,upd_same,pats_same (s27.trans s8) (pairedTake hp2 many),fun r hr=>hok r (List.mem_of_mem_take hr),by rw [List.length_take]; omega,fun l9 H9 s9 h9=>?_⟩
   refine ⟨lbb,l9,_,_,rfl,rfl,(s8.trans s9) _ _ hbb,h9,le1000 (by have:=nms_len (rows.take many); rw [List.length_map,List.length_map]; rw [List.length_take] at this; omega),fun l10 hl10=>?_⟩
   rw [<- List.map_append]
   have s10:=same_new hl10 (.lst ((bars ++ nms (rows.take many)).map V.str))
   refine ⟨l10,_,rfl,SqL.of upd_same,by have:=nms_len (rows.take many); rw [List.length_append]; rw [List.length_take] at this; omega,fun l11 hl11=>?_⟩
   have s11:=same_new hl11 (.lst ((sortS (bars ++ nms (rows.take many))).map V.str))
   have s711:=s7.trans (s8.trans (s9.trans (s10.trans s11)))
   exact ⟨(by show 3<=sizeLine; decide),fin s711 upd_same ((s06.trans (s7.trans (s8.trans (s9.trans s10)))).free hl11) erow⟩
end
theorem pyDs_map {α : Type} (g : α->Dt):∀ l:List α,pyDs (l.map g) = l.map fun x=>pyD (g x)
 | []=>by simp [pyDs]
 | x :: l=>by rw [List.map_cons,pyDs,pyDs_map g l,List.map_cons]
theorem eqvAll_map {α : Type} [DecidableEq α] (g : α->PyData) (h:∀ x y,PyData.eqv (g x) (g y) = decide (x = y)):∀ l l':List α,PyData.eqvAll (l.map g) (l'.map g) = decide (l = l')
 | [],[]=>by simp [PyData.eqvAll]
 | [],_ :: _=>by simp [PyData.eqvAll]
 | _ :: _,[]=>by simp [PyData.eqvAll]
 | x :: l,y :: l'=>by
  rw [List.map_cons,List.map_cons,PyData.eqvAll,h,eqvAll_map g h l l',Bool.eq_iff_iff]
  simp [List.cons.injEq]
theorem eqv_strs (a b:List Str):PyData.eqv (.list (pyDs (a.map Dt.str))) (.list (pyDs (b.map Dt.str))) = decide (a = b):=by
 rw [PyData.eqv,pyDs_map,pyDs_map]
 exact eqvAll_map _ (fun x y=>by
  show PyData.eqv (pyD (.str x)) (pyD (.str y)) = _
  rw [pyD,pyD,PyData.eqv]
  by_cases e:x = y
  ·rw [decide_eq_true e,e]; exact beq_self_eq_true y
  ·rw [decide_eq_false e]; exact beq_eq_false_iff_ne.mpr e) a b
theorem eqv_row (x y:TR):PyData.eqv (pyD (rowD x)) (pyD (rowD y)) = decide (x = y):=by
 cases x with
 | none=>
  cases y with
  | none=>simp [rowD,pyD,PyData.eqv]
  | some y=>obtain ⟨a,b,c⟩:=y; simp [rowD,pyD,PyData.eqv]
 | some x=>
  obtain ⟨a,b,c⟩:=x
  cases y with
  | none=>simp [rowD,pyD,PyData.eqv]
  | some y=>
   obtain ⟨a',b',c'⟩:=y
   simp only [rowD,pyD,pyDs,PyData.eqv,PyData.eqvAll]
   rw [show PyData.eqvAll (pyDs (a.map Dt.str)) (pyDs (a'.map Dt.str)) = decide (a = a') from (by have:=eqv_strs a a'; rwa [PyData.eqv] at this),show PyData.eqvAll (pyDs (c.map Dt.str)) (pyDs (c'.map Dt.str)) = decide (c = c') from (by have:=eqv_strs c c'; rwa [PyData.eqv] at this),Bool.eq_iff_iff]
   simp
def okS (z:Str):Prop:=PyData.strOk z = true
theorem okS_of {z:Str} (h:nameB z = true):okS z:=by
 obtain ⟨_,_,h⟩:=nameB_iff.mp h
 unfold okS PyData.strOk
 rw [<- Array.all_toList,List.all_eq_true]
 intro c hc
 have:=h c hc
 simp
 omega
def okR:TR->Prop
 | none=>True
 | some (a,_,c)=>(∀ z ∈ a,okS z)/\∀ z ∈ c,okS z
theorem lay_map {α : Type} (g : α->PyData):∀ l:List α,(∀ x ∈ l,(g x).canLay0 = true)->PyData.canLayAll0 (l.map g) = true
 | [],_=>by simp [PyData.canLayAll0]
 | x :: l,h=>by
  rw [List.map_cons,PyData.canLayAll0,h x List.mem_cons_self,lay_map g l fun y hy=>h y (List.mem_cons_of_mem _ hy)]
  rfl
theorem lay_strs (a:List Str) (h:∀ z ∈ a,okS z):PyData.canLayAll0 (pyDs (a.map Dt.str)) = true:=by
 rw [pyDs_map]
 exact lay_map _ a fun z hz=>by rw [pyD,PyData.canLay0]; exact h z hz
theorem lay_row {x:TR} (h:okR x):(pyD (rowD x)).canLay0 = true:=by
 cases x with
 | none=>simp [rowD,pyD,PyData.canLay0]
 | some x=>
  obtain ⟨a,b,c⟩:=x
  simp only [rowD,pyD,pyDs,PyData.canLay0,PyData.canLayAll0,lay_strs a h.1,lay_strs c h.2]
  rfl
theorem dep_map {α : Type} {n:Nat} (g : α->PyData) (h:∀ x,(g x).depth<=n):∀ l:List α,PyData.depthAll (l.map g)<=n
 | []=>by simp [PyData.depthAll]
 | x :: l=>by
  rw [List.map_cons,PyData.depthAll]
  exact Nat.max_le.mpr ⟨h x,dep_map g h l⟩
theorem dep_strs (a:List Str):PyData.depthAll (pyDs (a.map Dt.str))<=0:=by
 rw [pyDs_map]
 exact dep_map _ (fun z=>by rw [pyD,PyData.depth]; exact Nat.le_refl _) a
theorem dep_row (x:TR):(pyD (rowD x)).depth<=2:=by
 cases x with
 | none=>simp [rowD,pyD,PyData.depth]
 | some x=>
  obtain ⟨a,b,c⟩:=x
  have h1:=dep_strs a
  have h2:=dep_strs c
  simp only [rowD,pyD,pyDs,PyData.depth,PyData.depthAll]
  omega
theorem says_ok {K:PySem.W.Frag} {ok ok':Addr->Prop} {H:Hp} (hk:∀ b,ok b->H b ≠ none->ok' b) {n:Nat} {x:V} {d:Dt} (h:Says K ok H n x d):Says K ok' H n x d:=
 h.frame (fun a xs z=>z) fun a xs oa z=>⟨hk a oa (by rw [z]; intro q; cases q),z⟩
theorem pairedRev {α β : Type} {R : α->β->Prop} {a:List α} {c:List β} (h:Paired R a c):Paired R a.reverse c.reverse:=by
 induction h with
 | nil=>exact .nil
 | cons r _ ih=>rw [List.reverse_cons,List.reverse_cons]; exact Paired.snoc ih r
theorem at_m1 {vl:List V} {vy vx:V}:atI (vl ++ [vy,vx]) (-1) = some vx/\atI (vl ++ [vy,vx]) (-2) = some vy:=by
 have e1:ixN (vl ++ [vy,vx]).length (-1) = some (vl.length + 1):=by
  unfold ixN
  rw [List.length_append,if_neg (by decide),if_pos (by show -((vl.length + 2:Nat):Int)<=-1; omega)]
  congr 1
  show (-1 + ((vl.length + 2:Nat):Int)).toNat = _
  omega
 have e2:ixN (vl ++ [vy,vx]).length (-2) = some vl.length:=by
  unfold ixN
  rw [List.length_append,if_neg (by decide),if_pos (by show -((vl.length + 2:Nat):Int)<=-2; omega)]
  congr 1
  show (-2 + ((vl.length + 2:Nat):Int)).toNat = _
  omega
 unfold atI
 rw [e1,e2]
 constructor
 ·show (vl ++ [vy,vx])[vl.length + 1]? = _
  rw [List.getElem?_append_right (by omega)]
  simp
 ·show (vl ++ [vy,vx])[vl.length]? = _
  rw [List.getElem?_append_right (by omega)]
  simp
theorem okR_row {rows:List Rw} {bars:List Str} {many:Nat} (hok:∀ r ∈ rows,r.ok) (hb:∀ z ∈ bars,nameB z = true):okR (rowF rows bars many):=by
 have nmok:∀ (rs:List Rw),(∀ r ∈ rs,r ∈ rows)->∀ z ∈ nms rs,okS z:=fun rs h z hz=>by
  obtain ⟨r,hr,rfl⟩:=List.mem_map.mp hz
  exact okS_of (hok r (h r (List.mem_filter.mp hr).1)).2
 unfold rowF
 split
 ·exact True.intro
 ·refine ⟨fun z hz=>?_,fun z hz=>?_⟩
  ·obtain ⟨r,hr,rfl⟩:=List.mem_map.mp ((sortS_perm _).mem_iff.mp hz)
   exact okS_of (hok r (List.mem_of_mem_drop (List.mem_filter.mp hr).1)).2
  ·split at hz
   ·rcases List.mem_append.mp ((sortS_perm _).mem_iff.mp hz) with h | h
    ·exact okS_of (hb z h)
    ·exact nmok _ (fun r hr=>List.mem_of_mem_take hr) z h
   ·exact nmok _ (fun r hr=>List.mem_of_mem_drop hr) z ((sortS_perm _).mem_iff.mp hz)
theorem same_upd2 {H H2:Hp} {l:Addr} {o:HO} (s:Same H H2) (h:H l = none):Same H (upd H2 l o):=fun b u e=>by rw [upd_ne (ne_of_none e h)]; exact s b u e
def spTable (K:PySem.W.Frag) (c:C5) (CF:Addr):Sp:=fun vs H Q _=>∃ (f:Addr) (rows:List Rw) (bars:List Str),vs = [.ref f]/\FormOk c CF H f rows bars/\rows.length<=24/\bars.length<=30/\(∀ z ∈ bars,nameB z = true)/\∀ (v:V) (H':Hp),Same H H'->Says K (fun a=>H a = none) H' 4 v (tabD (tabF rows bars))->Q v H'
section
variable {P:Program} {w:World} {K:PySem.W.Frag} {mg:Str->Option Value} {base:Heap} {f CF G sg:Addr} {fd:FuncData} {c:C5} {m:MA}
theorem ndMF:([Str.ofString "many",Str.ofString "form"]:List Str).Nodup:=by decide +kernel
theorem scTable:FnScope ["form","rows","goes_on"] ["form"] (defScope sTable):=⟨rfl,rfl,rfl,by decide +kernel,rfl,by decide +kernel,by decide +kernel⟩
theorem ok_table {g1 gP gT:Addr} {e1 eP eT:FuncData} (F:Fun K "table" "table" sTable f fd) (U:TxtR mg) (FK:FC K CF) (cR:Callee P w K mg base 3 "row_of" g1 e1 ["form","many"] (spRowOf K c CF)) (mP:Meth K CF "places" gP) (GP:FnOk P w K mg base CX0 1 gP eP ["self"] (spPlaces c CF)) (bP:Binds K eP ["self"] []) (mT:Meth K CF "tail" gT) (GT:FnOk P w K mg base CX0 1 gT eT ["self"] (spWord c CF 2)) (bT:Binds K eT ["self"] []):FnOk P w K mg base CX0 4 f fd ["form"] (spTable K c CF):=by
 refine F.ok scTable (fun vs H Q E h=>?_) (fun cdv A outer s H vs Q E hr h=>?_)
 ·obtain ⟨f,rows,bars,rfl,_⟩:=h
  rfl
 obtain ⟨f,rows,bars,rfl,hF,l24,l30,hbn,q⟩:=h
 have hr1:Room 1 _:=hr.mono (by decide)
 have hU:=hr.units
 obtain ⟨dx,fs,lr,lb',ld,pps,h1,h2,h3,h4,h5,h6⟩:=id hF.at_
 have lpl:plN rows<=24:=Nat.le_trans (List.length_filter_le _ _) l24
 refine pss_go (ps_lc (i:=1) ["form"] ["many","form"] [none,some 0] scTable.nd rfl (Or.inl rfl) rfl ⟨rfl,rfl,rfl,rfl⟩ (pi_range1 rfl U.range (ac (pe_op op_add (pe_meth0 (pv 0) FK.cl mP GP hr1 bP .nil pass0) pe_int) pa_nil)) (gown_name 0) rfl rfl rfl
   (fun pins fp s H C=>⟨pg_name (i:=0) ndMF rfl (Or.inl rfl) (.inr rfl),pif_nil,cF cR hr (ac (pv 1) (ac (pv 0) pa_nil))⟩)) ?_
 refine ⟨_,rfl,f,dx,fs,rfl,h1,h2.no _ (by decide +kernel),f,rows,bars,rfl,hF.at_,_,_,rfl,rfl,((plN rows:Nat):Int) + 1,rfl,by omega,by omega,fun D hD=>?_⟩
 rw [show (((plN rows:Nat):Int) + 1).toNat = plN rows + 1 by omega]
 refine lc_saysr (K:=K) (m:=2) (fun i=>rowD (rowF rows bars i)) hD (by omega) (fun i H' Qf Qs hi sH qf=>?_) (fun vs H1 s1 hD1 hvs=>?_)
 ·refine ⟨fun _=>?_,fun e=>Bool.noConfusion e⟩
  exact ⟨_,rfl,_,rfl,f,i,rows,bars,(by rw [Int.zero_add]; rfl),hF.same sH,l24,l30,qf⟩
 rw [show (List.range (plN rows + 1)).map (fun i=>rowD (rowF rows bars i)) = ((List.range (plN rows + 1)).map (rowF rows bars)).map rowD by rw [List.map_map]; rfl] at hvs
 have etab:tabF rows bars = if (firstK 2 0 rows).isSome = true then ((popR ((List.range (plN rows + 1)).map (rowF rows bars)).reverse).reverse,true) else ((List.range (plN rows + 1)).map (rowF rows bars),false):=rfl
 have okrs:∀ r ∈ (List.range (plN rows + 1)).map (rowF rows bars),okR r:=fun r hr=>by
  obtain ⟨i,_,rfl⟩:=List.mem_map.mp hr
  exact okR_row hF.ok hbn
 have lrs:((List.range (plN rows + 1)).map (rowF rows bars)).length<=25:=by rw [List.length_map,List.length_range]; omega
 generalize tabF rows bars = R at q etab
 generalize (List.range (plN rows + 1)).map (rowF rows bars) = rs at hvs etab okrs lrs
 dsimp only [gName]
 refine pss_go (ps_set (i:=2) scTable.nd rfl (Or.inl rfl) (pe_cmp (pc_notN (pe_meth0 (pv 0) FK.cl mT GT hr1 bT .nil pass0)))) ?_
 refine ⟨_,rfl,f,dx,fs,rfl,s1 _ _ h1,h2.no _ (by decide +kernel),f,rows,bars,rfl,(hF.same s1).at_,?_⟩
 have eg:(!decide (numV (firstK 2 0 rows) = .non)) = (firstK 2 0 rows).isSome:=by
  cases e:(firstK 2 0 rows).isSome with
  | true=>rw [decide_eq_false (fun h=>by rw [firstK_isSome.mp h] at e; cases e)]; rfl
  | false=>rw [decide_eq_true (firstK_isSome.mpr e)]; rfl
 dsimp only [gName]
 rw [eg]
 clear eg
 generalize (firstK 2 0 rows).isSome = g at etab |-
 refine pss_go (ps_while PassesOwn.never (PW.pt (pw_and (pt_val (pv 2)) (pw_and (pt_cmpR op_gt (cB call_len_seq U.len PySem.boot_len (ac (pv 1) pa_nil)) pe_int (nomark _)) (pw_and1 (pt_cmpR (op_eqD hU) (pe_ix ix_list (pv 1) (pe_un un_neg pe_int) (fun _ _=>rfl)) (pe_ix ix_list (pv 1) (pe_un un_neg pe_int) (fun _ _=>rfl)) (nomark _)))))) (pss_one (ps_expr (pe_bm0 PySem.F.plainAttrs_list PySem.F.slot_list_pop PySem.F.type_list_pop mt_pop (pv 1))))) ?_
 refine seq_via (fun σ' H'=>∃ (vs:List V) (cur:List TR),σ' = [some (.ref f),some (.ref D),some (.bl g)]/\Same H H'/\H' D = some (.lst vs)/\Paired (Says K (fun a=>a ≠ D/\H a = none) H' 2) vs (cur.map rowD)/\R = (cur,g)) ?_ (fun key=>?_)
 rotate_left
 ·refine ⟨fun k σ H'=>∃ (vs:List V) (cur:List TR),k = cur.length/\σ = [some (.ref f),some (.ref D),some (.bl g)]/\Same H H'/\H' D = some (.lst vs)/\Paired (Says K (fun a=>a ≠ D/\H a = none) H' 2) vs (cur.map rowD)/\(∀ r ∈ cur,okR r)/\cur.length<=25/\(g = true->popR cur.reverse = popR rs.reverse)/\(g = false->cur = rs),⟨_,vs,rs,rfl,rfl,s1,hD1,hvs,okrs,lrs,fun _=>rfl,fun _=>rfl⟩,?_⟩
  rintro k σ H2 ⟨vs2,cur,rfl,rfl,s2,hD2,hvs2,ok2,l2,p1,p2⟩
  have lv:vs2.length = cur.length:=by rw [hvs2.length,List.length_map]
  refine ⟨_,rfl,_,rfl,?_⟩
  cases g with
  | false=>
   refine iteF ?_
   refine iteF ?_
   exact key _ _ ⟨vs2,cur,rfl,s2,hD2,hvs2,by rw [etab,if_neg Bool.false_ne_true,p2 rfl]⟩
  | true=>
   rw [if_pos rfl] at etab
   refine iteT ?_
   refine ⟨_,rfl,D,_,rfl,.inl (SqL.of hD2),_,_,rfl,rfl,_,rfl,?_⟩
   by_cases hl : 1 < cur.length
   rotate_left
   ·refine dF (by show ¬ (1:Int) < (vs2.length:Nat); omega) ?_
    refine iteF ?_
    have:popR cur.reverse = cur.reverse:=by
     cases cur with
     | nil=>rfl
     | cons x l=>cases l with
      | nil=>rfl
      | cons y l=>rw [List.length_cons,List.length_cons] at hl; omega
    exact key _ _ ⟨vs2,cur,rfl,s2,hD2,hvs2,by rw [etab,<- p1 rfl,this,List.reverse_reverse]⟩
   refine dT (by show (1:Int) < (vs2.length:Nat); omega) ?_
   obtain ⟨x,y,l,ec⟩:∃ x y l,cur.reverse = x :: y :: l:=by
    have:cur.reverse.length = cur.length:=List.length_reverse
    cases e:cur.reverse with
    | nil=>rw [e] at this; rw [<- this] at hl; cases hl
    | cons x l=>cases l with
     | nil=>rw [e] at this; rw [<- this] at hl; exact absurd hl (Nat.lt_irrefl 1)
     | cons y l=>exact ⟨x,y,l,rfl⟩
   have ec':cur = l.reverse ++ [y,x]:=by
    have:=congrArg List.reverse ec
    rw [List.reverse_reverse] at this
    rw [this]
    simp
   have hrv:=pairedRev hvs2
   rw [<- List.map_reverse,ec,List.map_cons,List.map_cons] at hrv
   obtain ⟨vx,vy,vl,ev,hx,hy,hl'⟩:∃ vx vy vl,vs2.reverse = vx :: vy :: vl/\Says K (fun a=>a ≠ D/\H a = none) H2 2 vx (rowD x)/\Says K (fun a=>a ≠ D/\H a = none) H2 2 vy (rowD y)/\Paired (Says K (fun a=>a ≠ D/\H a = none) H2 2) vl (l.map rowD):=by
    generalize vs2.reverse = zs at hrv
    cases hrv with
    | cons hx t=>cases t with
     | cons hy t=>exact ⟨_,_,_,rfl,hx,hy,t⟩
   have ev':vs2 = vl.reverse ++ [vy,vx]:=by
    have:=congrArg List.reverse ev
    rw [List.reverse_reverse] at this
    rw [this]
    simp
   obtain ⟨a1,a2⟩:=at_m1 (vl:=vl.reverse) (vy:=vy) (vx:=vx)
   rw [<- ev'] at a1 a2
   refine ⟨_,rfl,_,rfl,D,_,_,vx,rfl,rfl,SqL.of hD2,a1,_,rfl,_,rfl,D,_,_,vy,rfl,rfl,SqL.of hD2,a2,2,_,_,_,_,hx,hy,lay_row (ok2 x (by rw [ec']; simp)),lay_row (ok2 y (by rw [ec']; simp)),Nat.le_trans (dep_row x) (by decide),_,rfl,?_⟩
   rw [eqv_row]
   by_cases exy:x = y
   ·refine dT exy ?_
    have ep:popR cur.reverse = popR (l.reverse ++ [y]).reverse:=by
     rw [ec,List.reverse_append,List.reverse_reverse]
     show (if x = y then popR (y :: l) else x :: y :: l) = popR (y :: l)
     rw [if_pos exy]
    refine ⟨fun σ' H'=>∃ (vs:List V),σ' = [some (.ref f),some (.ref D),some (.bl true)]/\Same H H'/\H' D = some (.lst vs)/\Paired (Says K (fun a=>a ≠ D/\H a = none) H' 2) vs ((l.reverse ++ [y]).map rowD),fun σ' H' ⟨vs,e1,e2,e3,e4⟩=>⟨_,by rw [ec',List.length_append,List.length_append]; exact Nat.lt_succ_self _,vs,l.reverse ++ [y],rfl,e1,e2,e3,e4,fun r hr=>ok2 r (by rw [ec']; rcases List.mem_append.mp hr with h | h <;> simp at h |- <;> simp [h]),(by rw [ec',List.length_append] at l2; rw [List.length_append]; simp at l2 |-; omega),fun _=>by rw [<- ep]; exact p1 rfl,fun h=>by cases h⟩,?_⟩
    refine ⟨_,rfl,.inl ⟨rfl,_,SqL.of hD2⟩,D,_,vx,rfl,rfl,hD2,(by rw [ev']; simp),?_⟩
    refine ⟨vl.reverse ++ [vy],rfl,same_upd2 s2 hD,by rw [upd_same,ev']; simp,?_⟩
    have:=Paired.snoc (pairedRev hl') hy
    rw [<- List.map_reverse,<- List.map_singleton,<- List.map_append] at this
    exact Paired.imp' (fun _ _ z=>says_grow hD2 (fun b o=>⟨o,o.1⟩) z) this
   ·refine dF exy ?_
    have:popR cur.reverse = cur.reverse:=by
     rw [ec]
     show (if x = y then popR (y :: l) else x :: y :: l) = _
     rw [if_neg exy]
    exact key _ _ ⟨vs2,cur,rfl,s2,hD2,hvs2,by rw [etab,<- p1 rfl,this,List.reverse_reverse]⟩
 rintro σ3 H3 ⟨vs3,cur,rfl,s3,hD3,hvs3,eR⟩
 refine ⟨_,pss_one (ps_ret (pe_tup (ac (pv 1) (ac (pv 2) pa_nil)))),?_⟩
 refine ⟨_,rfl,_,rfl,(by show 2<=sizeLine; decide),fun t ht=>?_⟩
 have s4:=same_new ht (.tup [.ref D,.bl g])
 refine q _ _ (s3.trans s4) ?_
 rw [eR]
 exact Says.tup (SqT.of upd_same) (.cons (Says.lst hD (s4 _ _ hD3) (Paired.imp' (fun _ _ z=>(says_ok (fun _ o _=>o.2) z).same s4) hvs3)) (.cons Says.bl .nil))
end
theorem cut_ints (ns:List Int) (lo hi:Option Int):∃ ms:List Int,cutV (ns.map V.int) lo hi = ms.map V.int/\ms.length<=ns.length/\∀ m ∈ ms,m ∈ ns:=by
 refine ⟨(ns.drop (HT.sIx ns.length 0 lo)).take (HT.sIx ns.length ns.length hi - HT.sIx ns.length 0 lo),?_,?_,fun m hm=>List.mem_of_mem_drop (List.mem_of_mem_take hm)⟩
 ·unfold cutV
  rw [List.length_map,List.map_take,List.map_drop]
 ·rw [List.length_take,List.length_drop]
  omega
structure TxtL (mg:Str->Option Value):Prop where
 len:mg "len" = none
 range:mg "range" = none
 set:mg "set" = none
 en:mg "enumerate" = none
 list:mg "list" = none
 isi:mg "isinstance" = none
 bool:mg "bool" = none
 tuple:mg "tuple" = none
def spNthA (K:PySem.W.Frag):Sp:=fun vs H Q _=>∃ (a:Addr) (ns:List Int) (k:Nat),vs = [.ref a,.int k]/\SqL K H a (ns.map V.int)/\ns.length<=63/\∀ (n:Int) (H':Hp),Same H H'->Q (.int n) H'
def stirF (c k:Int):Int:=(c % 2147483647 + 97 * k + 5) * 48271 % 2147483647 * ((c % 2147483647 + 97 * k + 5) * 48271 % 2147483647) % 2147483629
def spStir:Sp:=fun vs H Q _=>∃ c k:Int,vs = [.int c,.int k]/\Q (.int (stirF c k)) H
def pnL (a b c q k:Nat):List Nat:=([97 + a,97 + b,97 + c]).take (k % 4) ++ [97 + (q + k) % 26]
def pn (a b c q k:Nat):Str:=⟨(pnL a b c q k).toArray⟩
def pool1 (a b c q:Nat):List Str:=(List.range 8).map (pn a b c q) ++ [⟨(pnL a b c q 0 ++ [97,97,97,97,97]).toArray⟩,⟨(pnL a b c q 1 ++ [97,97,97,97,97]).toArray⟩]
def pool0:List Str:=(List.range 26).map fun k=>(⟨#[97 + k]⟩:Str)
theorem name_codes {l:List Nat} (h1 : 1<=l.length) (h2:l.length<=8) (h3:∀ c ∈ l,97<=c/\c<=122):nameB ⟨l.toArray⟩ = true:=by
 unfold nameB
 have e:(⟨l.toArray⟩:Str).length = l.length:=by show l.toArray.size = _; simp
 rw [e,decide_eq_true h1,decide_eq_true h2,Bool.true_and,Bool.true_and]
 show l.toArray.toList.all low = true
 rw [List.all_eq_true]
 intro c hc
 have hc':c ∈ l:=by simpa using hc
 obtain ⟨g1,g2⟩:=h3 c hc'
 unfold low
 rw [decide_eq_true g1,decide_eq_true g2]
 rfl
theorem pnL_len (a b c q k:Nat):(pnL a b c q k).length = k % 4 + 1:=by
 unfold pnL
 rw [List.length_append,List.length_take]
 have:k % 4 < 4:=Nat.mod_lt _ (by decide)
 show min (k % 4) 3 + 1 = _
 omega
theorem pnL_low {a b c q k:Nat} (ha:a < 26) (hb:b < 26) (hc:c < 26):∀ x ∈ pnL a b c q k,97<=x/\x<=122:=by
 intro x hx
 unfold pnL at hx
 rcases List.mem_append.mp hx with hx | hx
 ·have:=List.mem_of_mem_take hx
  simp only [List.mem_cons,List.not_mem_nil,or_false] at this
  omega
 ·rw [List.mem_singleton.mp hx]
  have:(q + k) % 26 < 26:=Nat.mod_lt _ (by decide)
  omega
theorem str_inj {l m:List Nat} (h:(⟨l.toArray⟩:Str) = ⟨m.toArray⟩):l = m:=by
 have:l.toArray = m.toArray:=congrArg Str.cps h
 simpa using this
theorem pool1_name {a b c q:Nat} (ha:a < 26) (hb:b < 26) (hc:c < 26):∀ z ∈ pool1 a b c q,nameB z = true:=by
 intro z hz
 unfold pool1 at hz
 rcases List.mem_append.mp hz with hz | hz
 ·obtain ⟨k,_,rfl⟩:=List.mem_map.mp hz
  refine name_codes (by rw [pnL_len]; omega) (by rw [pnL_len]; have:k % 4 < 4:=Nat.mod_lt _ (by decide); omega) (pnL_low ha hb hc)
 ·have hx:∀ k,∀ x ∈ pnL a b c q k ++ [97,97,97,97,97],97<=x/\x<=122:=fun k x hx=>by
   rcases List.mem_append.mp hx with hx | hx
   ·exact pnL_low ha hb hc x hx
   ·simp only [List.mem_cons,List.not_mem_nil,or_false] at hx
    omega
  simp only [List.mem_cons,List.not_mem_nil,or_false] at hz
  rcases hz with rfl | rfl
  ·exact name_codes (by rw [List.length_append]; simp) (by rw [List.length_append,pnL_len]; decide) (hx 0)
  ·exact name_codes (by rw [List.length_append]; simp) (by rw [List.length_append,pnL_len]; decide) (hx 1)
theorem pn_inj {a b c q j k:Nat} (hj:j < 8) (hk:k < 8) (e:pn a b c q j = pn a b c q k):j = k:=by
 have h:=congrArg List.getLast? (str_inj e)
 unfold pnL at h
 rw [List.getLast?_append,List.getLast?_append] at h
 simp at h
 omega
theorem pool1_nd (a b c q:Nat):(pool1 a b c q).Nodup:=by
 unfold pool1
 refine List.nodup_append.mpr ⟨?_,?_,?_⟩
 ·refine List.pairwise_map.mpr (List.Pairwise.imp_of_mem ?_ List.nodup_range)
  intro x y hx hy ne e
  exact ne (pn_inj (List.mem_range.mp hx) (List.mem_range.mp hy) e)
 ·refine List.nodup_cons.mpr ⟨fun h=>?_,by simp⟩
  have:=congrArg List.length (str_inj (List.mem_singleton.mp h))
  rw [List.length_append,List.length_append,pnL_len,pnL_len] at this
  simp at this
 ·intro x hx y hy e
  obtain ⟨k,_,rfl⟩:=List.mem_map.mp hx
  have hk:k % 4 < 4:=Nat.mod_lt _ (by decide)
  simp only [List.mem_cons,List.not_mem_nil,or_false] at hy
  rcases hy with rfl | rfl
  ·have:=congrArg List.length (str_inj e)
   rw [List.length_append,pnL_len,pnL_len] at this
   simp at this
   omega
  ·have:=congrArg List.length (str_inj e)
   rw [List.length_append,pnL_len,pnL_len] at this
   simp at this
   omega
theorem pool1_four {a b c q:Nat}:∀ z ∈ (pool1 a b c q).take 4,z.length<=4:=by
 intro z hz
 have:(pool1 a b c q).take 4 = [pn a b c q 0,pn a b c q 1,pn a b c q 2,pn a b c q 3]:=rfl
 rw [this] at hz
 have l:∀ k,(pn a b c q k).length = k % 4 + 1:=fun k=>by
  show (pnL a b c q k).toArray.size = _
  rw [List.size_toArray,pnL_len]
 have h4:∀ k,(pn a b c q k).length<=4:=fun k=>by rw [l]; omega
 rcases List.mem_cons.mp hz with rfl | hz
 ·exact h4 _
 ·rcases List.mem_cons.mp hz with rfl | hz
  ·exact h4 _
  ·rcases List.mem_cons.mp hz with rfl | hz
   ·exact h4 _
   ·rw [List.mem_singleton.mp hz]; exact h4 _
theorem pool0_name:∀ z ∈ pool0,nameB z = true:=by decide +kernel
theorem pool0_nd:pool0.Nodup:=by
 unfold pool0
 refine List.pairwise_map.mpr (List.Pairwise.imp_of_mem ?_ List.nodup_range)
 intro x y hx hy ne e
 have:=congrArg Str.cps e
 simp at this
 exact ne this
def spPool (K:PySem.W.Frag):Sp:=fun vs H Q _=>∃ c:Int,vs = [.int c]/\∀ (r:Addr) (zs:List Str) (H':Hp),Same H H'->H r = none->H' r = some (.lst (zs.map V.str))->zs.Nodup->(∀ z ∈ zs,nameB z = true)->0 < zs.length->zs.length<=26->(∀ z ∈ zs.take 4,z.length<=4)->Q (.ref r) H'
theorem abc_at:∀ m,m < 26->(Str.ofString "abcdefghijklmnopqrstuvwxyz").cps.toList[m]? = some (97 + m):=by decide +kernel
theorem abc_atI {i:Int} (h0 : 0<=i) (h1:i < 26):atI (Str.ofString "abcdefghijklmnopqrstuvwxyz").cps.toList i = some (97 + i.toNat):=by
 obtain ⟨m,rfl⟩:=Int.eq_ofNat_of_zero_le h0
 exact atI_nat (abc_at m (by omega))
theorem slice3 (x y z:Nat):∀ n,n < 4->Txt.slice ⟨#[x,y,z]⟩ none (some ((n:Nat):Int)) = ⟨([x,y,z].take n).toArray⟩
 | 0,_=>rfl
 | 1,_=>rfl
 | 2,_=>rfl
 | 3,_=>rfl
 | n + 4,h=>absurd h (by omega)
section
variable {P:Program} {w:World} {K:PySem.W.Frag} {mg:Str->Option Value} {base:Heap} {f:Addr} {fd:FuncData}
theorem scNth:FnScope ["_law_script","_law_k","_law_cells"] ["_law_script","_law_k"] (defScope sNth):=⟨rfl,rfl,rfl,by decide +kernel,rfl,by decide +kernel,by decide +kernel⟩
theorem ok_nth (F:Fun K "_law_nth" "_law_nth" sNth f fd):FnOk P w K mg base CX0 1 f fd ["_law_script","_law_k"] (spNthA K):=by
 refine F.ok scNth (fun vs H Q E h=>?_) (fun cdv A outer s H vs Q E hr h=>?_)
 ·obtain ⟨a,ns,k,rfl,_⟩:=h
  rfl
 obtain ⟨a,ns,k,rfl,hS,l63,q⟩:=h
 refine ⟨_,pss_cons (ps_set (i:=2) scNth.nd rfl (Or.inl rfl) (pe_op op_cat (pe_slice sl_list (pv 0) (po_some (pv 1)) (po_some (pe_op op_add (pv 1) pe_int))) (pe_lst (ac pe_int pa_nil))))
  (pss_one (ps_ret (pe_ix ix_list (pv 2) pe_int (fun _ _=>rfl)))),?_⟩
 obtain ⟨ms,em,lm,_⟩:=cut_ints ns (some (k:Int)) (some ((k:Int) + 1))
 refine ⟨_,rfl,_,rfl,_,rfl,_,rfl,_,_,rfl,rfl,_,rfl,a,_,rfl,hS,fun p hp=>?_⟩
 rw [em]
 have u1:=same_new hp (.lst (ms.map V.int))
 have e1:upd H p (.lst (ms.map V.int)) p = some (.lst (ms.map V.int)):=upd_same
 generalize upd H p (.lst (ms.map V.int)) = H1 at u1 e1 |-
 refine ⟨(by show 1<=sizeLine; decide),fun l hl=>?_⟩
 have u2:=same_new hl (.lst [.int 0])
 have big : 1000<=sizeLine:=by decide
 refine ⟨p,l,_,_,rfl,rfl,u2 _ _ e1,upd_same,(by rw [List.length_map]; show _ + 1<=_; omega),fun p3 hp3=>?_⟩
 have u3:=same_new hp3 (.lst (ms.map V.int ++ [.int 0]))
 have s3:=u1.trans (u2.trans u3)
 cases ms with
 | nil=>exact ⟨_,rfl,p3,_,0,.int 0,rfl,rfl,SqL.of upd_same,rfl,q 0 _ s3⟩
 | cons x xs=>exact ⟨_,rfl,p3,_,0,.int x,rfl,rfl,SqL.of upd_same,atI_nat (j:=0) rfl,q x _ s3⟩
theorem scStir:FnScope ["_law_cell","_law_k","_law_first"] ["_law_cell","_law_k"] (defScope sStir):=⟨rfl,rfl,rfl,by decide +kernel,rfl,by decide +kernel,by decide +kernel⟩
theorem ok_stir (F:Fun K "_law_stirred" "_law_stirred" sStir f fd):FnOk P w K mg base CX0 1 f fd ["_law_cell","_law_k"] spStir:=by
 refine F.ok scStir (fun vs H Q E h=>?_) (fun cdv A outer s H vs Q E hr h=>?_)
 ·obtain ⟨c,k,rfl,_⟩:=h
  rfl
 obtain ⟨c,k,rfl,q⟩:=h
 refine ⟨_,pss_cons (ps_set (i:=2) scStir.nd rfl (Or.inl rfl) (pe_op op_mod (pe_op op_mul (pe_op op_add (pe_op op_add (pe_op op_mod (pv 0) pe_int) (pe_op op_mul pe_int (pv 1))) pe_int) pe_int) pe_int))
  (pss_one (ps_ret (pe_op op_mod (pe_op op_mul (pv 2) (pv 2)) pe_int))),?_⟩
 refine ⟨_,rfl,_,_,rfl,rfl,(by show (0:Int) < 2147483647; decide),_,rfl,_,_,rfl,rfl,.inl ⟨by decide,by decide⟩,_,_,rfl,rfl,_,_,rfl,rfl,_,_,rfl,rfl,.inr ⟨by decide,by decide⟩,_,_,rfl,rfl,(by show (0:Int) < 2147483647; decide),?_⟩
 have h1 : 0<=(c % 2147483647 + 97 * k + 5) * 48271 % 2147483647:=Int.emod_nonneg _ (by decide)
 have h2:(c % 2147483647 + 97 * k + 5) * 48271 % 2147483647 < 2147483647:=Int.emod_lt_of_pos _ (by decide)
 exact ⟨_,rfl,_,rfl,_,_,rfl,rfl,.inl ⟨by omega,by omega⟩,_,_,rfl,rfl,(by show (0:Int) < 2147483629; decide),q⟩
theorem ndPl1:([Str.ofString "_law_sign"]:List Str).Nodup:=by decide +kernel
theorem ndPl2:([Str.ofString "_law_k",Str.ofString "_law_cell",Str.ofString "_law_letters",Str.ofString "_law_stem"]:List Str).Nodup:=by decide +kernel
theorem scPool:FnScope ["_law_cell","_law_letters","_law_stem","_law_pool_here"] ["_law_cell"] (defScope sPool):=⟨rfl,rfl,rfl,by decide +kernel,rfl,by decide +kernel,by decide +kernel⟩
theorem ok_pool (F:Fun K "_law_pool" "_law_pool" sPool f fd) (U:TxtL mg):FnOk P w K mg base CX0 1 f fd ["_law_cell"] (spPool K):=by
 refine F.ok scPool (fun vs H Q E h=>?_) (fun cdv A outer s H vs Q E hr h=>?_)
 ·obtain ⟨c,rfl,_⟩:=h
  rfl
 obtain ⟨cc,rfl,q⟩:=h
 refine ⟨_,pss_cons (ps_set (i:=1) scPool.nd rfl (Or.inr rfl) pe_str)
  (pss_cons (ps_if (pt_cmpR op_eq (pe_op op_mod (pe_op op_fdiv (pv 0) pe_int) pe_int) pe_int (nomark _)) (pss_one (ps_ret (pe_lc [] ["_law_sign"] [none] rfl ⟨rfl,rfl,rfl,rfl⟩ (pi_str (pv 1)) (gown_name 0) rfl rfl rfl
   (fun pins fp s H C=>⟨pg_name (i:=0) ndPl1 rfl (Or.inl rfl) (.inr rfl),pif_nil,pv 0⟩)))) pss_nil)
  (pss_cons (ps_set (i:=2) scPool.nd rfl (Or.inr rfl) (pe_op op_add_str (pe_op op_add_str (pe_ix ix_str (pv 1) (pe_op op_mod (pv 0) pe_int) (fun _ _=>rfl)) (pe_ix ix_str (pv 1) (pe_op op_mod (pe_op op_fdiv (pv 0) pe_int) pe_int) (fun _ _=>rfl))) (pe_ix ix_str (pv 1) (pe_op op_mod (pe_op op_fdiv (pv 0) pe_int) pe_int) (fun _ _=>rfl))))
  (pss_cons (ps_lc (i:=3) ["_law_stem","_law_letters","_law_cell"] ["_law_k","_law_cell","_law_letters","_law_stem"] [none,some 0,some 1,some 2] scPool.nd rfl (Or.inl rfl) rfl ⟨rfl,rfl,rfl,rfl⟩ (pi_range1 rfl U.range (ac pe_int pa_nil)) (gown_name 0) rfl rfl rfl
   (fun pins fp s H C=>⟨pg_name (i:=0) ndPl2 rfl (Or.inl rfl) (.inr rfl),pif_nil,pe_op op_add_str (pe_slice sl_str (pv 3) po_none (po_some (pe_op op_mod (pv 0) pe_int))) (pe_ix ix_str (pv 2) (pe_op op_mod (pe_op op_add (pe_op op_fdiv (pv 1) pe_int) (pv 0)) pe_int) (fun _ _=>rfl))⟩))
  (pss_one (ps_ret (pe_op op_cat (pv 3) (pe_lst (ac (pe_op op_add_str (pe_ix ix_list (pv 3) pe_int (fun _ _=>rfl)) pe_str) (ac (pe_op op_add_str (pe_ix ix_list (pv 3) pe_int (fun _ _=>rfl)) pe_str) pa_nil)))))))))
  ,?_⟩
 refine seq_via (fun σ' H'=>σ' = [some (.int cc),some (.str "abcdefghijklmnopqrstuvwxyz"),none,none]/\H' = H) ?_ (fun key=>?_)
 rotate_left
 ·exact key _ _ ⟨rfl,rfl⟩
 rintro σ0 H0 ⟨rfl,rfl⟩
 refine ⟨_,rfl,_,_,rfl,rfl,⟨by decide,by decide⟩,_,_,rfl,rfl,(by show (0:Int) < 8; decide),rfl,_,rfl,?_⟩
 have l26:(Str.ofString "abcdefghijklmnopqrstuvwxyz").cps.toList.length = 26:=by decide +kernel
 refine ite2 (fun _=>?_) (fun _=>?_)
 ·refine ⟨_,rfl,_,rfl,fun D hD=>?_⟩
  refine ⟨fun i m ys H'=>i<=26/\m = 26 - i/\ys = ((List.range i).map fun k=>(⟨#[97 + k]⟩:Str)).map V.str/\H' = upd H0 D (.lst ys),⟨_,Nat.zero_le _,rfl,rfl,rfl⟩,?_⟩
  rintro i m ys H' ⟨hi,rfl,rfl,rfl⟩
  have sz:(Str.ofString "abcdefghijklmnopqrstuvwxyz").cps.size = 26:=by decide +kernel
  by_cases he:i = 26
  ·subst he
   refine .inl ⟨by show (Str.ofString "abcdefghijklmnopqrstuvwxyz").cps.size<=26; rw [sz]; exact Nat.le_refl _,?_⟩
   exact q D pool0 _ (same_new hD _) hD upd_same pool0_nd pool0_name (by decide) (by decide) (by decide +kernel)
  ·refine .inr ⟨by show i < (Str.ofString "abcdefghijklmnopqrstuvwxyz").cps.size; rw [sz]; omega,?_⟩
   rintro x H' ⟨rfl,ch,hc,rfl⟩
   refine ⟨fun _=>?_,fun e=>Bool.noConfusion e⟩
   have hc':(Str.ofString "abcdefghijklmnopqrstuvwxyz").cps.toList[i]? = some ch:=by simpa using hc
   rw [abc_at i (by omega)] at hc'
   cases hc'
   refine ⟨_,rfl,upd_same,?_,26 - (i + 1),by omega,by omega,rfl,?_,?_⟩
   ·rw [List.length_map,List.length_map,List.length_range]
    exact small1000 (by omega)
   ·rw [List.range_succ,List.map_append,List.map_append]
    rfl
   ·rw [upd_upd]
 have x0 : 0<=cc % 26:=Int.emod_nonneg _ (by decide)
 have x1:cc % 26 < 26:=Int.emod_lt_of_pos _ (by decide)
 have y0 : 0<=cc / 26 % 26:=Int.emod_nonneg _ (by decide)
 have y1:cc / 26 % 26 < 26:=Int.emod_lt_of_pos _ (by decide)
 have z0 : 0<=cc / 676 % 26:=Int.emod_nonneg _ (by decide)
 have z1:cc / 676 % 26 < 26:=Int.emod_lt_of_pos _ (by decide)
 have big : 1000<=sizeLine:=by decide
 have l26':(Str.ofString "abcdefghijklmnopqrstuvwxyz").length<=sizeLine:=by decide +kernel
 refine ⟨_,rfl,_,rfl,_,_,rfl,rfl,(by show (0:Int) < 26; decide),_,_,_,rfl,rfl,l26',abc_atI x0 x1,_,rfl,_,rfl,_,_,rfl,rfl,⟨by decide,by decide⟩,_,_,rfl,rfl,(by show (0:Int) < 26; decide),_,_,_,rfl,rfl,l26',abc_atI y0 y1,_,_,rfl,rfl,(by show 1 + 1<=sizeLine; decide),_,rfl,_,rfl,_,_,rfl,rfl,⟨by decide,by decide⟩,_,_,rfl,rfl,(by show (0:Int) < 26; decide),_,_,_,rfl,rfl,l26',abc_atI z0 z1,_,_,rfl,rfl,(by show 2 + 1<=sizeLine; decide),?_⟩
 obtain ⟨a,ea,ha⟩:∃ a,a = (cc % 26).toNat/\a < 26:=⟨_,rfl,by omega⟩
 obtain ⟨b,eb,hb⟩:∃ b,b = (cc / 26 % 26).toNat/\b < 26:=⟨_,rfl,by omega⟩
 obtain ⟨c,ec,hc⟩:∃ c,c = (cc / 676 % 26).toNat/\c < 26:=⟨_,rfl,by omega⟩
 rw [<- ea,<- eb,<- ec]
 obtain ⟨qq,eq⟩:∃ qq,qq = (cc / 17576 % 26).toNat:=⟨_,rfl⟩
 have q0 : 0<=cc / 17576 % 26:=Int.emod_nonneg _ (by decide)
 have st:((⟨#[97 + a]⟩:Str) ++ (⟨#[97 + b]⟩:Str)) ++ (⟨#[97 + c]⟩:Str) = ⟨#[97 + a,97 + b,97 + c]⟩:=rfl
 rw [st]
 refine ⟨8,rfl,by decide,by decide,fun D hD=>?_⟩
 refine lc_range (n:=8) (fun i ys H'=>Same H0 H'/\H' D = some (.lst ys)/\ys = ((List.range i).map (pn a b c qq)).map V.str) ⟨same_new hD _,upd_same,rfl⟩ ?_ ?_
 ·rintro i ys H' hi ⟨sH,hDy,ey⟩
  refine ⟨fun _=>?_,fun e=>Bool.noConfusion e⟩
  have w0 : 0<=(cc / 17576 + ((0:Int) + (i:Int))) % 26:=Int.emod_nonneg _ (by decide)
  have w1:(cc / 17576 + ((0:Int) + (i:Int))) % 26 < 26:=Int.emod_lt_of_pos _ (by decide)
  have ew:((cc / 17576 + ((0:Int) + (i:Int))) % 26).toNat = (qq + i) % 26:=by omega
  have e4:((0:Int) + (i:Int)) % 4 = ((i % 4:Nat):Int):=by omega
  refine ⟨_,rfl,_,rfl,_,_,rfl,rfl,(by show (0:Int) < 4; decide),_,rfl,_,rfl,(by show 3<=sizeLine; decide),_,rfl,_,rfl,_,_,rfl,rfl,⟨by decide,by decide⟩,_,rfl,_,_,rfl,rfl,_,_,rfl,rfl,(by show (0:Int) < 26; decide),_,_,_,rfl,rfl,l26',abc_atI w0 w1,?_⟩
  rw [ew,e4,slice3 _ _ _ _ (Nat.mod_lt _ (by decide))]
  have hl:(⟨(([97 + a,97 + b,97 + c]:List Nat).take (i % 4)).toArray⟩:Str).length<=3:=by
   show (List.toArray _).size<=3
   rw [List.size_toArray,List.length_take]
   show min _ 3<=3
   omega
  refine ⟨_,_,rfl,rfl,Nat.le_trans (show _ + 1<=1000 by omega) big,?_⟩
  refine lcN.mk hi (by decide) hDy (by rw [ey,List.length_map,List.length_map,List.length_range]; exact Nat.le_refl _) ⟨fun b' u e=>by rw [upd_ne (ne_of_none e hD)]; exact sH _ _ e,upd_same,?_⟩
  rw [ey,List.range_succ,List.map_append,List.map_append]
  show _ ++ [V.str _] = _ ++ [V.str (pn a b c qq i)]
  congr 3
  unfold pn pnL
  show (⟨List.toArray _ ++ #[97 + (qq + i) % 26]⟩:Str) = _
  congr 1
  apply Array.ext'
  simp
 ·rintro ys H1 ⟨s1,hDy,ey⟩
  subst ey
  have e0:atI (((List.range 8).map (pn a b c qq)).map V.str) 0 = some (.str (pn a b c qq 0)):=rfl
  have e1:atI (((List.range 8).map (pn a b c qq)).map V.str) 1 = some (.str (pn a b c qq 1)):=rfl
  refine ⟨_,rfl,_,rfl,D,_,0,_,rfl,rfl,SqL.of hDy,e0,_,_,rfl,rfl,(by show 1 + 5<=sizeLine; decide),_,rfl,D,_,1,_,rfl,rfl,SqL.of hDy,e1,_,_,rfl,rfl,(by show 2 + 5<=sizeLine; decide),(by show 2<=sizeLine; decide),fun l2 hl2=>?_⟩
  have s2:=same_new hl2 (.lst [.str (pn a b c qq 0 ++ "aaaaa"),.str (pn a b c qq 1 ++ "aaaaa")])
  refine ⟨D,l2,_,_,rfl,rfl,s2 _ _ hDy,upd_same,(by show 10<=sizeLine; decide),fun r hr'=>?_⟩
  have s3:=same_new hr' (.lst (((List.range 8).map (pn a b c qq)).map V.str ++ [.str (pn a b c qq 0 ++ "aaaaa"),.str (pn a b c qq 1 ++ "aaaaa")]))
  refine q r (pool1 a b c qq) _ (s1.trans (s2.trans s3)) (s1.free (s2.free hr')) ?_ (pool1_nd a b c qq) (pool1_name ha hb hc) (by show 0 < 10; decide) (by show 10<=26; decide) pool1_four
  rw [upd_same]
  rfl
end
theorem ord_cons {l g:Nat} {r:Rw} {rs:List Rw} (hg:grp r.k = g) (hb:badAt l g = false) (h:ordOk g rs = true):ordOk l (r :: rs) = true:=by
 show (!badAt l (grp r.k) && ordOk (grp r.k) rs) = true
 rw [hg,hb,h]
 rfl
theorem ord_even {g:Nat} (he:badAt g g = false):∀ (xs ys:List Rw) (l:Nat),badAt l g = false->(∀ r ∈ xs,grp r.k = g)->ordOk l ys = true->ordOk g ys = true->ordOk l (xs ++ ys) = true
 | [],_,_,_,_,h1,_=>h1
 | r :: rs,ys,l,hb,hg,_,h2=>ord_cons (hg r List.mem_cons_self) hb (ord_even he rs ys g he (fun x hx=>hg x (List.mem_cons_of_mem _ hx)) h2 h2)
theorem ord_odd {g l:Nat} {xs ys:List Rw} (hl:xs.length<=1) (hb:badAt l g = false) (hg:∀ r ∈ xs,grp r.k = g) (h1:ordOk l ys = true) (h2:ordOk g ys = true):ordOk l (xs ++ ys) = true:=by
 match xs,hl with
 | [],_=>exact h1
 | [r],_=>exact ord_cons (hg r List.mem_cons_self) hb h2
theorem ord_all {xs0 xs1 xs2 xs3:List Rw} (g0:∀ r ∈ xs0,grp r.k = 0) (g1:∀ r ∈ xs1,grp r.k = 1) (l1:xs1.length<=1) (g2:∀ r ∈ xs2,grp r.k = 2) (g3:∀ r ∈ xs3,grp r.k = 3) (l3:xs3.length<=1):ordOk 0 (xs0 ++ (xs1 ++ (xs2 ++ xs3))) = true:=by
 have h3:∀ l,l<=2->ordOk l xs3 = true:=fun l hl=>by
  have:=ord_odd (g:=3) (l:=l) (ys:=[]) l3 (by match l,hl with | 0,_=>rfl | 1,_=>rfl | 2,_=>rfl) g3 rfl rfl
  rwa [List.append_nil] at this
 have h2:∀ l,l<=1->ordOk l (xs2 ++ xs3) = true:=fun l hl=>ord_even (g:=2) rfl xs2 xs3 l (by match l,hl with | 0,_=>rfl | 1,_=>rfl) g2 (h3 l (by omega)) (h3 2 (by omega))
 have h1:ordOk 0 (xs1 ++ (xs2 ++ xs3)) = true:=ord_odd (g:=1) l1 rfl g1 (h2 0 (by omega)) (h2 1 (by omega))
 exact ord_even (g:=0) rfl xs0 _ 0 rfl g0 h1 h1
theorem nms_app (a b:List Rw):nms (a ++ b) = nms a ++ nms b:=by unfold nms; rw [List.filter_append,List.map_append]
theorem nms_one (r:Rw):nms [r] = if byNm r.k = true then [r.z] else []:=by
 unfold nms
 cases h:byNm r.k <;> simp [h]
theorem grp_nm {k:Nat} (hk:k < 5) (h:byNm k = true):grp k = 0\/grp k = 2:=by
 rcases lt5 hk with rfl | rfl | rfl | rfl | rfl <;> first | (exact .inl rfl) | (exact .inr rfl) | (cases h)
theorem nms_nil {xs:List Rw} {g:Nat} (hg:∀ r ∈ xs,r.ok/\grp r.k = g) (h:g % 2 = 1):nms xs = []:=by
 unfold nms
 rw [List.filter_eq_nil_iff.mpr (fun r hr e=>?_)]
 ·rfl
 ·obtain ⟨ho,q⟩:=hg r hr
  rcases grp_nm ho.1 e with z | z <;> rw [z] at q <;> rw [<- q] at h <;> cases h
structure FS where
 (P T G B:List Rw) (L:List Str)
def FS.add (S:FS) (k:Nat) (z:Str) (b:Bool):FS:=match k with
 | 0=>{ S with P:=S.P ++ [⟨0,z,b⟩] }
 | 1=>{ S with P:=S.P ++ [⟨1,z,b⟩],L:=S.L ++ [z] }
 | 2=>{ S with T:=[⟨2,z,b⟩] }
 | 3=>{ S with G:=S.G ++ [⟨3,z,b⟩],L:=S.L ++ [z] }
 | _=>{ S with B:=[⟨4,z,b⟩] }
structure FM (i:Nat) (S:FS):Prop where
 okP:∀ r ∈ S.P,r.ok/\grp r.k = 0
 okT:∀ r ∈ S.T,r.ok/\grp r.k = 1
 okG:∀ r ∈ S.G,r.ok/\grp r.k = 2
 okB:∀ r ∈ S.B,r.ok/\grp r.k = 3
 lT:S.T.length<=1
 lB:S.B.length<=1
 nd:(nms S.P ++ nms S.G).Nodup
 sn:∀ z ∈ nms S.P ++ nms S.G,z ∈ S.L
 ln:S.P.length + S.T.length + S.G.length + S.B.length<=i
 lL:S.L.length<=i
theorem mem_snoc {α : Type} {xs:List α} {y : α} {p : α->Prop} (h:∀ x ∈ xs,p x) (hy:p y):∀ x ∈ xs ++ [y],p x:=fun x hx=>by
 rcases List.mem_append.mp hx with hx | hx
 ·exact h x hx
 ·rw [List.mem_singleton.mp hx]; exact hy
theorem FM.zero:FM 0 ⟨[],[],[],[],[]⟩:=by
 refine ⟨?_,?_,?_,?_,?_,?_,?_,?_,?_,?_⟩ <;> first | exact (fun _ h=>nomatch h) | exact Nat.zero_le _ | exact List.nodup_nil | exact Nat.le_refl _
theorem nd_mid {a b:List Str} {z:Str} (h:(a ++ b).Nodup) (hz:z ∉ a ++ b):(a ++ [z] ++ b).Nodup:=by
 have p:(a ++ [z] ++ b).Perm (z :: (a ++ b)):=by
  rw [List.append_assoc]
  exact List.perm_middle
 exact p.nodup_iff.mpr (List.nodup_cons.mpr ⟨hz,h⟩)
theorem FM.add {i:Nat} {S:FS} {k:Nat} {z:Str} {b:Bool} (h:FM i S) (hk:k < 5) (hz:nameB z = true) (hn:byNm k = true->z ∉ S.L):FM (i + 1) (S.add k z b):=by
 have ln:=h.ln
 have lL:=h.lL
 have lT:=h.lT
 have lB:=h.lB
 match k,hk with
 | 0,_=>
  have e:nms (S.P ++ [⟨0,z,b⟩]) = nms S.P:=by rw [nms_app,nms_one]; simp [byNm]
  exact ⟨mem_snoc h.okP ⟨⟨Nat.lt_of_sub_eq_succ rfl,hz⟩,rfl⟩,h.okT,h.okG,h.okB,h.lT,h.lB,by show (nms (S.P ++ _) ++ nms S.G).Nodup; rw [e]; exact h.nd,by show ∀ y ∈ nms (S.P ++ _) ++ nms S.G,y ∈ S.L; rw [e]; exact h.sn,
   by show (S.P ++ [_]).length + S.T.length + S.G.length + S.B.length<=i + 1; rw [List.length_append,List.length_singleton]; omega,Nat.le_succ_of_le h.lL⟩
 | 1,_=>
  have e:nms (S.P ++ [⟨1,z,b⟩]) = nms S.P ++ [z]:=by rw [nms_app,nms_one]; simp [byNm]
  have nz:z ∉ nms S.P ++ nms S.G:=fun m=>hn rfl (h.sn z m)
  refine ⟨mem_snoc h.okP ⟨⟨Nat.lt_of_sub_eq_succ rfl,hz⟩,rfl⟩,h.okT,h.okG,h.okB,h.lT,h.lB,by show (nms (S.P ++ _) ++ nms S.G).Nodup; rw [e]; exact nd_mid h.nd nz,?_,
   by show (S.P ++ [_]).length + S.T.length + S.G.length + S.B.length<=i + 1; rw [List.length_append,List.length_singleton]; omega,by show (S.L ++ [_]).length<=i + 1; rw [List.length_append,List.length_singleton]; omega⟩
  show ∀ y ∈ nms (S.P ++ _) ++ nms S.G,y ∈ S.L ++ [z]
  rw [e]
  intro y hy
  rw [List.mem_append,List.mem_append] at hy
  rcases hy with (hy | hy) | hy
  ·exact List.mem_append_left _ (h.sn y (List.mem_append_left _ hy))
  ·exact List.mem_append_right _ hy
  ·exact List.mem_append_left _ (h.sn y (List.mem_append_right _ hy))
 | 2,_=>
  refine ⟨h.okP,fun r hr=>?_,h.okG,h.okB,Nat.le_refl _,h.lB,h.nd,h.sn,?_,Nat.le_succ_of_le h.lL⟩
  ·rw [List.mem_singleton.mp hr]; exact ⟨⟨Nat.lt_of_sub_eq_succ rfl,hz⟩,rfl⟩
  ·show S.P.length + 1 + S.G.length + S.B.length<=i + 1
   omega
 | 3,_=>
  have e:nms (S.G ++ [⟨3,z,b⟩]) = nms S.G ++ [z]:=by rw [nms_app,nms_one]; simp [byNm]
  have nz:z ∉ nms S.P ++ nms S.G:=fun m=>hn rfl (h.sn z m)
  refine ⟨h.okP,h.okT,mem_snoc h.okG ⟨⟨Nat.lt_of_sub_eq_succ rfl,hz⟩,rfl⟩,h.okB,h.lT,h.lB,?_,?_,
   by show S.P.length + S.T.length + (S.G ++ [_]).length + S.B.length<=i + 1; rw [List.length_append,List.length_singleton]; omega,by show (S.L ++ [_]).length<=i + 1; rw [List.length_append,List.length_singleton]; omega⟩
  ·show (nms S.P ++ nms (S.G ++ _)).Nodup
   rw [e,<- List.append_assoc]
   have:=nd_mid (a:=nms S.P ++ nms S.G) (b:=[]) (z:=z) (by rw [List.append_nil]; exact h.nd) (by rw [List.append_nil]; exact nz)
   rwa [List.append_nil] at this
  ·show ∀ y ∈ nms S.P ++ nms (S.G ++ _),y ∈ S.L ++ [z]
   rw [e]
   intro y hy
   rw [List.mem_append,List.mem_append] at hy
   rcases hy with hy | hy | hy
   ·exact List.mem_append_left _ (h.sn y (List.mem_append_left _ hy))
   ·exact List.mem_append_left _ (h.sn y (List.mem_append_right _ hy))
   ·exact List.mem_append_right _ hy
 | 4,_=>
  refine ⟨h.okP,h.okT,h.okG,fun r hr=>?_,h.lT,Nat.le_refl _,h.nd,h.sn,?_,Nat.le_succ_of_le h.lL⟩
  ·rw [List.mem_singleton.mp hr]; exact ⟨⟨Nat.lt_of_sub_eq_succ rfl,hz⟩,rfl⟩
  ·show S.P.length + S.T.length + S.G.length + 1<=i + 1
   omega
def FS.rows (S:FS):List Rw:=S.P ++ S.T ++ S.G ++ S.B
theorem FM.valid {i:Nat} {S:FS} {bars:List Str} (h:FM i S) (hi:i<=24) (lb:bars.length<=60) (bn:∀ z ∈ bars,nameB z = true) (bd:bars.Nodup) (bl:∀ z ∈ bars,z ∉ S.L):Valid S.rows bars:=by
 have en:nms S.rows = nms S.P ++ nms S.G:=by
  unfold FS.rows
  rw [nms_app,nms_app,nms_app,nms_nil h.okT rfl,nms_nil h.okB rfl,List.append_nil,List.append_nil]
 refine ⟨fun r hr=>?_,?_,lb,?_,bn,?_⟩
 ·unfold FS.rows at hr
  rw [List.mem_append,List.mem_append,List.mem_append] at hr
  rcases hr with ((hr | hr) | hr) | hr
  ·exact (h.okP r hr).1
  ·exact (h.okT r hr).1
  ·exact (h.okG r hr).1
  ·exact (h.okB r hr).1
 ·unfold FS.rows
  have:=h.ln
  simp only [List.length_append]
  omega
 ·unfold FS.rows
  rw [List.append_assoc,List.append_assoc]
  exact ord_all (fun r hr=>(h.okP r hr).2) (fun r hr=>(h.okT r hr).2) h.lT (fun r hr=>(h.okG r hr).2) (fun r hr=>(h.okB r hr).2) h.lB
 ·rw [en]
  exact List.nodup_append.mpr ⟨h.nd,bd,fun x hx y hy e=>bl y hy (e ▸ h.sn x hx)⟩
theorem TAt.keep {H:Hp} {v D:Addr} {r:Rw} {o:HO} (h:TAt H v r) (hD:∀ vs,H D ≠ some (.tup vs)):TAt (upd H D o) v r:=by
 show upd H D o v = _
 rw [upd_ne (fun e=>by subst e; exact hD _ h)]
 exact h
def LsAt (H:Hp) (l:Addr) (rows:List Rw):Prop:=∃ us:List Addr,H l = some (.lst (us.map V.ref))/\Paired (TAt H) us rows
theorem LsAt.same {H H':Hp} {l:Addr} {rows:List Rw} (h:LsAt H l rows) (s:Same H H'):LsAt H' l rows:=let ⟨us,h1,h2⟩:=h; ⟨us,s _ _ h1,tats_same s h2⟩
theorem LsAt.keep {H:Hp} {l D:Addr} {rows:List Rw} {o:HO} (h:LsAt H l rows) (ne:l ≠ D) (hD:∀ vs,H D ≠ some (.tup vs)):LsAt (upd H D o) l rows:=
 let ⟨us,h1,h2⟩:=h
 ⟨us,by rw [upd_ne ne]; exact h1,Paired.imp' (fun _ _ z=>z.keep hD) h2⟩
theorem LsAt.snoc {H:Hp} {l u:Addr} {rows:List Rw} {r:Rw} {us:List Addr} (h1:H l = some (.lst (us.map V.ref))) (h2:Paired (TAt H) us rows) (hu:TAt H u r):LsAt (upd H l (.lst (us.map V.ref ++ [.ref u]))) l (rows ++ [r]):=by
 have hD:∀ vs,H l ≠ some (.tup vs):=fun vs e=>by rw [h1] at e; cases e
 refine ⟨us ++ [u],by rw [upd_same,List.map_append]; rfl,Paired.snoc (Paired.imp' (fun _ _ z=>z.keep hD) h2) (hu.keep hD)⟩
theorem inStrs {z:Str}:∀ {zs:List Str},inV (.str z) (zs.map V.str) = decide (z ∈ zs)
 | []=>by simp [inV]
 | y :: ys=>by
  have ih:=inStrs (z:=z) (zs:=ys)
  show (eqV (.str y) (.str z) || inV (.str z) (ys.map V.str)) = _
  rw [ih]
  have:eqV (.str y) (.str z) = decide (z = y):=by
   show (y == z) = _
   rw [Bool.eq_iff_iff,beq_iff_eq,decide_eq_true_eq]
   exact ⟨Eq.symm,Eq.symm⟩
  rw [this]
  simp
theorem flatStrs:∀ {zs:List Str},(zs.map V.str).all flatV = true
 | []=>rfl
 | _ :: ys=>by
  show (true && (ys.map V.str).all flatV) = true
  rw [flatStrs]
  rfl
theorem TAt.same {H H':Hp} {u:Addr} {r:Rw} (h:TAt H u r) (s:Same H H'):TAt H' u r:=s _ _ h
structure FI (H H':Hp) (lp lt ll:Addr) (S:FS):Prop where
 sm:Same H H'
 hp:LsAt H' lp S.P
 ht:LsAt H' lt S.G
 hl:H' ll = some (.lst (S.L.map V.str))
 n1:lp ≠ lt
 n2:lp ≠ ll
 n3:lt ≠ ll
 m1:H lp = none
 m2:H lt = none
 m3:H ll = none
section
variable {H H' H'':Hp} {lp lt ll u:Addr} {S:FS} {r:Rw} {z:Str} {b:Bool}
theorem FI.same (h:FI H H' lp lt ll S) (s:Same H' H''):FI H H'' lp lt ll S:=
 ⟨h.sm.trans s,h.hp.same s,h.ht.same s,s _ _ h.hl,h.n1,h.n2,h.n3,h.m1,h.m2,h.m3⟩
theorem FI.smU (h:FI H H' lp lt ll S) {l:Addr} (hl:H l = none) {o:HO}:Same H (upd H' l o):=fun b u e=>by rw [upd_ne (ne_of_none e hl)]; exact h.sm _ _ e
theorem FI.addL (h:FI H H' lp lt ll S):FI H (upd H' ll (.lst (S.L.map V.str ++ [.str z]))) lp lt ll { S with L:=S.L ++ [z] }:=by
 have hD:∀ vs,H' ll ≠ some (.tup vs):=fun vs e=>by rw [h.hl] at e; cases e
 exact ⟨h.smU h.m3,h.hp.keep h.n2 hD,h.ht.keep h.n3 hD,by rw [upd_same,List.map_append]; rfl,h.n1,h.n2,h.n3,h.m1,h.m2,h.m3⟩
theorem FI.addP {us:List Addr} (h:FI H H' lp lt ll S) (h1:H' lp = some (.lst (us.map V.ref))) (h2:Paired (TAt H') us S.P) (hu:TAt H' u r):FI H (upd H' lp (.lst (us.map V.ref ++ [.ref u]))) lp lt ll { S with P:=S.P ++ [r] }:=by
 have hD:∀ vs,H' lp ≠ some (.tup vs):=fun vs e=>by rw [h1] at e; cases e
 exact ⟨h.smU h.m1,.snoc h1 h2 hu,h.ht.keep h.n1.symm hD,by rw [upd_ne h.n2.symm]; exact h.hl,h.n1,h.n2,h.n3,h.m1,h.m2,h.m3⟩
theorem FI.addG {us:List Addr} (h:FI H H' lp lt ll S) (h1:H' lt = some (.lst (us.map V.ref))) (h2:Paired (TAt H') us S.G) (hu:TAt H' u r):FI H (upd H' lt (.lst (us.map V.ref ++ [.ref u]))) lp lt ll { S with G:=S.G ++ [r] }:=by
 have hD:∀ vs,H' lt ≠ some (.tup vs):=fun vs e=>by rw [h1] at e; cases e
 exact ⟨h.smU h.m2,h.hp.keep h.n1 hD,.snoc h1 h2 hu,by rw [upd_ne h.n3.symm]; exact h.hl,h.n1,h.n2,h.n3,h.m1,h.m2,h.m3⟩
end
structure VR (rows:List Rw):Prop where
 ok:∀ r ∈ rows,r.ok
 l24:rows.length<=24
 ord:ordOk 0 rows = true
 nd:(nms rows).Nodup
theorem FM.vr {i:Nat} {S:FS} (h:FM i S) (hi:i<=24):VR S.rows:=by
 have v:=h.valid (bars:=[]) hi (Nat.zero_le _) (fun _ h=>nomatch h) List.nodup_nil (fun _ h=>nomatch h)
 exact ⟨v.ok,v.l24,v.ord,by have:=v.nd; rwa [List.append_nil] at this⟩
def spRow (K:PySem.W.Frag):Sp:=fun vs H Q _=>∃ (a pa:Addr) (cs:List Int) (zs:List Str) (ends:Int),vs = [.ref a,.ref pa,.int ends]/\SqL K H a (cs.map V.int)/\cs.length<=20/\H pa = some (.lst (zs.map V.str))/\0 < zs.length/\zs.length<=26/\(∀ z ∈ zs,nameB z = true)/\
 ∀ (la:Addr) (us:List Addr) (rows:List Rw) (H':Hp),Same H H'->H la = none->H' la = some (.lst (us.map V.ref))->Paired (TAt H') us rows->VR rows->(∀ z ∈ nms rows,z ∈ zs)->(∃ S:FS,rows = S.rows/\FM 22 S)->Q (.ref la) H'
section
variable {P:Program} {w:World} {K:PySem.W.Frag} {mg:Str->Option Value} {base:Heap} {f:Addr} {fd:FuncData}
theorem scRow:FnScope ["_law_cells","_law_pool_here","_law_ends","_law_places","_law_tags","_law_used","_law_k","_law_cell","_law_number","_law_name","_law_free","_law_tail"] ["_law_cells","_law_pool_here","_law_ends"] (defScope sRow):=⟨rfl,rfl,rfl,by decide +kernel,rfl,by decide +kernel,by decide +kernel⟩
theorem ok_row {g1:Addr} {d1:FuncData} (F:Fun K "_law_row" "_law_row" sRow f fd) (U:TxtL mg) (cS:Callee P w K mg base 1 "_law_stirred" g1 d1 ["_law_cell","_law_k"] spStir):FnOk P w K mg base CX0 2 f fd ["_law_cells","_law_pool_here","_law_ends"] (spRow K):=by
 refine F.ok scRow (fun vs H Q E h=>?_) (fun cdv A outer s H vs Q E hr h=>?_)
 ·obtain ⟨a,pa,cs,zs,ends,rfl,_⟩:=h
  rfl
 obtain ⟨a,pa,cs,zs,ends,rfl,hS,l20,hpa,z0,z26,hzn,q⟩:=h
 refine ⟨_,pss_cons (ps_set (i:=3) scRow.nd rfl (Or.inl rfl) (pe_lst pa_nil))
   (pss_cons (ps_set (i:=4) scRow.nd rfl (Or.inl rfl) (pe_lst pa_nil))
   (pss_cons (ps_set (i:=5) scRow.nd rfl (Or.inl rfl) (pe_lst pa_nil))
   (pss_cons (ps_for PassesOwn.never rfl (pi_enum rfl U.en (ac (pv 0) pa_nil)) (pg_tup rfl (pgs_cons (pg_name (i:=6) scRow.nd rfl (Or.inl rfl)) (pgs_cons (pg_name (i:=7) scRow.nd rfl (Or.inl rfl)) pgs_nil)))
   (pss_cons (ps_set (i:=8) scRow.nd rfl (Or.inl rfl) (cF cS hr (ac (pv 7) (ac (pv 6) pa_nil))))
   (pss_cons (ps_set (i:=9) scRow.nd rfl (Or.inl rfl) (pe_ix ix_list (pv 1) (pe_op op_mod (pe_op op_fdiv (pv 8) pe_int) (cB call_len_seq U.len PySem.boot_len (ac (pv 1) pa_nil))) (fun _ _=>rfl)))
   (pss_cons (ps_set (i:=10) scRow.nd rfl (Or.inl rfl) (pe_cmpR op_eq (pe_op op_mod (pe_op op_fdiv (pv 8) pe_int) pe_int) pe_int (nomark _)))
   (pss_one (ps_if (pt_cmpR op_lt (pe_op op_mod (pv 8) pe_int) pe_int (nomark _)) (pss_one (ps_expr (pe_bm PySem.F.plainAttrs_list PySem.F.slot_list_append PySem.F.type_list_append mt_append (pv 3) (ac (pe_tup (ac pe_str (ac (pv 9) (ac (pv 10) pa_nil)))) pa_nil)))) (pss_one (ps_if (PW.pt (pw_and (pt_cmpR op_lt (pe_op op_mod (pv 8) pe_int) pe_int (nomark _)) (pw_and1 (pt_cmpR op_notIn_seq (pv 9) (pv 5) (by with_unfolding_all rfl))))) (pss_cons (ps_expr (pe_bm PySem.F.plainAttrs_list PySem.F.slot_list_append PySem.F.type_list_append mt_append (pv 5) (ac (pv 9) pa_nil))) (pss_one (ps_if (pt_cmpR op_lt (pe_op op_mod (pv 8) pe_int) pe_int (nomark _)) (pss_one (ps_expr (pe_bm PySem.F.plainAttrs_list PySem.F.slot_list_append PySem.F.type_list_append mt_append (pv 3) (ac (pe_tup (ac pe_str (ac (pv 9) (ac (pv 10) pa_nil)))) pa_nil)))) (pss_one (ps_expr (pe_bm PySem.F.plainAttrs_list PySem.F.slot_list_append PySem.F.type_list_append mt_append (pv 4) (ac (pe_tup (ac pe_str (ac (pv 9) (ac (pv 10) pa_nil)))) pa_nil))))))) pss_nil))))))))
   (pss_cons (ps_set (i:=11) scRow.nd rfl (Or.inl rfl) (pe_op op_rep (pe_lst (ac (pe_tup (ac pe_str (ac (pe_ix ix_list (pv 1) (pe_op op_mod (pe_op op_fdiv (pv 2) pe_int) (cB call_len_seq U.len PySem.boot_len (ac (pv 1) pa_nil))) (fun _ _=>rfl)) pa_nil))) pa_nil)) (pe_op op_mod (pv 2) pe_int)))
   (pss_one (ps_ret (pe_op op_cat (pe_op op_cat (pe_op op_cat (pv 3) (pv 11)) (pv 4)) (pe_op op_rep (pe_lst (ac (pe_tup (ac pe_str (ac (pe_ix ix_list (pv 1) (pe_op op_mod (pe_op op_fdiv (pv 2) pe_int) (cB call_len_seq U.len PySem.boot_len (ac (pv 1) pa_nil))) (fun _ _=>rfl)) pa_nil))) pa_nil)) (pe_op op_mod (pe_op op_fdiv (pv 2) pe_int) pe_int))))))))),?_⟩
 refine ⟨(by show 0<=sizeLine; decide),fun lp hlp=>?_⟩
 have s1:=same_new hlp (.lst [])
 have g1:upd H lp (.lst []) lp = some (.lst []):=upd_same
 dsimp only [gName]
 generalize upd H lp (.lst []) = H1 at s1 g1 |-
 refine ⟨(by show 0<=sizeLine; decide),fun lt hlt=>?_⟩
 have s2:=same_new hlt (.lst [])
 have g2:upd H1 lt (.lst []) lt = some (.lst []):=upd_same
 dsimp only [gName]
 generalize upd H1 lt (.lst []) = H2 at s2 g2 |-
 refine ⟨(by show 0<=sizeLine; decide),fun ll hll=>?_⟩
 have s3:=same_new hll (.lst [])
 have g3:upd H2 ll (.lst []) ll = some (.lst []):=upd_same
 dsimp only [gName]
 generalize upd H2 ll (.lst []) = H3 at s3 g3 |-
 have I0:FI H H3 lp lt ll ⟨[],[],[],[],[]⟩:=⟨s1.trans (s2.trans s3),⟨[],s3 _ _ (s2 _ _ g1),.nil⟩,⟨[],s3 _ _ g2,.nil⟩,g3,ne_of_none g1 hlt,ne_of_none (s2 _ _ g1) hll,ne_of_none g2 hll,hlp,s1.free hlt,(s1.trans s2).free hll⟩
 have pick:∀ (x:Int),∃ j,x % (zs.length:Int) = ((j:Nat):Int)/\∃ h:j < zs.length,atI (zs.map V.str) (x % (zs.length:Int)) = some (.str zs[j]):=fun x=>by
  have d0 : 0<=x % (zs.length:Int):=Int.emod_nonneg _ (by omega)
  have d1:x % (zs.length:Int) < (zs.length:Int):=Int.emod_lt_of_pos _ (by omega)
  obtain ⟨j,hj⟩:=Int.eq_ofNat_of_zero_le d0
  have hjl:j < zs.length:=by omega
  exact ⟨j,hj,hjl,by rw [hj]; exact atI_nat (by rw [List.getElem?_map,List.getElem?_eq_getElem hjl]; rfl)⟩
 have lz:((zs.map V.str).length:Int) = (zs.length:Int):=by rw [List.length_map]
 refine ⟨_,rfl,a,rfl,⟨_,I0.sm.seq hS⟩,for_enum (K:=K) (a:=a) (xs:=cs.map V.int) (fun i σ H'=>∃ (S:FS) (v6 v7 v8 v9 v10 v11:Option V),σ = [some (.ref a),some (.ref pa),some (.int ends),some (.ref lp),some (.ref lt),some (.ref ll),v6,v7,v8,v9,v10,v11]/\FI H H' lp lt ll S/\FM i S/\S.T = []/\S.B = []/\∀ y ∈ S.L,y ∈ zs)
  ⟨⟨[],[],[],[],[]⟩,_,_,_,_,_,_,rfl,I0,FM.zero,rfl,rfl,(fun y h=>nomatch h)⟩ (fun i σ H' _ ⟨_,_,_,_,_,_,_,_,h,_⟩=>h.sm.seq hS) ?_ ?_⟩
 ·rintro i x p σ H4 hx ⟨S,v6,v7,v8,v9,v10,v11,rfl,I4,M4,eT,eB,pL⟩ hpn
  obtain ⟨n,hn,rfl⟩:∃ n,cs[i]? = some n/\x = .int n:=by
   rw [List.getElem?_map] at hx
   cases e:cs[i]? with
   | none=>rw [e] at hx; cases hx
   | some n=>rw [e] at hx; cases hx; exact ⟨n,rfl,rfl⟩
  have hi:i < cs.length:=(List.getElem?_eq_some_iff.mp hn).1
  have sp:=same_new hpn (.tup [.int (i:Nat),.int n])
  have I5:=I4.same sp
  refine ⟨p,_,rfl,SqT.of upd_same,rfl,_,_,rfl,_,_,rfl,rfl,?_⟩
  generalize upd H4 p (.tup [.int (i:Nat),.int n]) = H5 at sp I5 |-
  refine ⟨_,rfl,_,rfl,n,_,rfl,?_⟩
  generalize stirF n (i:Nat) = mm
  obtain ⟨j,hj,hjl,hat⟩:=pick (mm / 16)
  have hpa5:=I5.sm _ _ hpa
  refine ⟨_,rfl,_,rfl,_,_,rfl,rfl,⟨by decide,by decide⟩,_,rfl,pa,_,rfl,.inl (SqL.of hpa5),_,_,rfl,rfl,(by rw [lz]; omega),pa,_,_,.str zs[j],rfl,rfl,SqL.of hpa5,(by rw [lz]; exact hat),?_⟩
  have hz:=hzn _ (List.getElem_mem hjl)
  have hzz:=List.getElem_mem hjl
  generalize zs[j] = z at hz hzz |-
  refine ⟨_,rfl,_,_,rfl,rfl,⟨by decide,by decide⟩,_,_,rfl,rfl,(by show (0:Int) < 2; decide),rfl,?_⟩
  dsimp only [gName]
  generalize decide (V.int (mm / 160 % 2) = V.int 1) = fb
  have lP:S.P.length<=24:=by have:=M4.ln; omega
  have lG:S.G.length<=24:=by have:=M4.ln; omega
  have lL:=M4.lL
  refine ⟨_,rfl,_,_,rfl,rfl,(by show (0:Int) < 16; decide),_,_,rfl,rfl,_,rfl,?_⟩
  have fin:∀ {k:Nat} {H':Hp},FI H H' lp lt ll (S.add k z fb)->k < 5->k ≠ 2->k ≠ 4->(byNm k = true->z ∉ S.L)->∃ (S:FS) (v6 v7 v8 v9 v10 v11':Option V),([some (.ref a),some (.ref pa),some (.int ends),some (.ref lp),some (.ref lt),some (.ref ll),some (.int (i:Nat)),some (.int n),some (.int mm),some (.str z),some (.bl fb),v11]:L2.St) = [some (.ref a),some (.ref pa),some (.int ends),some (.ref lp),some (.ref lt),some (.ref ll),v6,v7,v8,v9,v10,v11']/\FI H H' lp lt ll S/\FM (i + 1) S/\S.T = []/\S.B = []/\∀ y ∈ S.L,y ∈ zs:=fun {k H'} I hk h2 h4 hn=>by
   refine ⟨S.add k z fb,_,_,_,_,_,_,rfl,I,M4.add hk hz hn,?_,?_,?_⟩
   rotate_left 2
   ·have two:∀ y ∈ S.L ++ [z],y ∈ zs:=mem_snoc pL hzz
    rcases lt5 hk with rfl | rfl | rfl | rfl | rfl
    ·exact pL
    ·exact two
    ·exact pL
    ·exact two
    ·exact pL
   ·rcases lt5 hk with rfl | rfl | rfl | rfl | rfl
    ·exact eT
    ·exact eT
    ·exact absurd rfl h2
    ·exact eT
    ·exact absurd rfl h4
   ·rcases lt5 hk with rfl | rfl | rfl | rfl | rfl
    ·exact eB
    ·exact eB
    ·exact absurd rfl h2
    ·exact eB
    ·exact absurd rfl h4
  by_cases c1:mm % 16 < 4
  ·refine dT (by exact c1) ?_
   obtain ⟨us,h1,h2⟩:=I5.hp
   have hlu:us.length<=24:=by rw [h2.length]; exact lP
   refine ⟨_,rfl,.inl ⟨rfl,_,SqL.of h1⟩,_,rfl,_,rfl,(by show 3<=sizeLine; decide),fun u hu=>?_⟩
   have s7:=same_new hu (.tup [.str "seat",.str z,.bl fb])
   have tu:TAt (upd H5 u (.tup [.str "seat",.str z,.bl fb])) u ⟨0,z,fb⟩:=upd_same
   refine ⟨lp,_,_,rfl,rfl,s7 _ _ h1,small1000 (by rw [List.length_map]; omega),?_⟩
   exact fin (k:=0) ((I5.same s7).addP (s7 _ _ h1) (tats_same s7 h2) tu) (by decide) (by decide) (by decide) (fun e=>by cases e)
  refine dF (by exact c1) ?_
  refine ⟨_,rfl,_,_,rfl,rfl,(by show (0:Int) < 16; decide),_,_,rfl,rfl,_,rfl,?_⟩
  have skip:∃ (S:FS) (v6 v7 v8 v9 v10 v11':Option V),([some (.ref a),some (.ref pa),some (.int ends),some (.ref lp),some (.ref lt),some (.ref ll),some (.int (i:Nat)),some (.int n),some (.int mm),some (.str z),some (.bl fb),v11]:L2.St) = [some (.ref a),some (.ref pa),some (.int ends),some (.ref lp),some (.ref lt),some (.ref ll),v6,v7,v8,v9,v10,v11']/\FI H H5 lp lt ll S/\FM (i + 1) S/\S.T = []/\S.B = []/\∀ y ∈ S.L,y ∈ zs:=
   ⟨S,_,_,_,_,_,_,rfl,I5,⟨M4.okP,M4.okT,M4.okG,M4.okB,M4.lT,M4.lB,M4.nd,M4.sn,Nat.le_succ_of_le M4.ln,Nat.le_succ_of_le M4.lL⟩,eT,eB,pL⟩
  by_cases c2:mm % 16 < 14
  rotate_left
  ·refine dF (by exact c2) ?_
   refine iteF ?_
   exact skip
  refine dT (by exact c2) ?_
  refine ⟨_,rfl,_,rfl,ll,_,rfl,.inl (SqL.of I5.hl),rfl,flatStrs,_,rfl,?_⟩
  by_cases hz1:z ∈ S.L
  ·refine iteC (by rw [if_pos rfl,inStrs,decide_eq_true hz1]; rfl) ?_
   exact skip
  refine iteB (by rw [if_pos rfl,inStrs,decide_eq_false hz1]; rfl) ?_
  refine ⟨_,rfl,.inl ⟨rfl,_,SqL.of I5.hl⟩,_,rfl,ll,_,_,rfl,rfl,I5.hl,small1000 (by rw [List.length_map]; omega),?_⟩
  have I6:=I5.addL (z:=z)
  dsimp only [tNext]
  generalize upd H5 ll (.lst (S.L.map V.str ++ [.str z])) = H6 at I6 |-
  refine ⟨_,rfl,_,_,rfl,rfl,(by show (0:Int) < 16; decide),_,_,rfl,rfl,_,rfl,?_⟩
  by_cases c3:mm % 16 < 10
  ·refine dT (by exact c3) ?_
   obtain ⟨us,h1,h2⟩:=I6.hp
   have hlu:us.length<=24:=by rw [h2.length]; exact lP
   refine ⟨_,rfl,.inl ⟨rfl,_,SqL.of h1⟩,_,rfl,_,rfl,(by show 3<=sizeLine; decide),fun u hu=>?_⟩
   have s7:=same_new hu (.tup [.str "both",.str z,.bl fb])
   have tu:TAt (upd H6 u (.tup [.str "both",.str z,.bl fb])) u ⟨1,z,fb⟩:=upd_same
   refine ⟨lp,_,_,rfl,rfl,s7 _ _ h1,small1000 (by rw [List.length_map]; omega),?_⟩
   exact fin (k:=1) ((I6.same s7).addP (s7 _ _ h1) (tats_same s7 h2) tu) (by decide) (by decide) (by decide) (fun _=>hz1)
  ·refine dF (by exact c3) ?_
   obtain ⟨us,h1,h2⟩:=I6.ht
   have hlu:us.length<=24:=by rw [h2.length]; exact lG
   refine ⟨_,rfl,.inl ⟨rfl,_,SqL.of h1⟩,_,rfl,_,rfl,(by show 3<=sizeLine; decide),fun u hu=>?_⟩
   have s7:=same_new hu (.tup [.str "tag",.str z,.bl fb])
   have tu:TAt (upd H6 u (.tup [.str "tag",.str z,.bl fb])) u ⟨3,z,fb⟩:=upd_same
   refine ⟨lt,_,_,rfl,rfl,s7 _ _ h1,small1000 (by rw [List.length_map]; omega),?_⟩
   exact fin (k:=3) ((I6.same s7).addG (s7 _ _ h1) (tats_same s7 h2) tu) (by decide) (by decide) (by decide) (fun _=>hz1)
 ·rintro σ H4 ⟨S,v6,v7,v8,v9,v10,v11,rfl,I4,M4,eT,eB,pL⟩
  have hlen:cs.length<=20:=l20
  rw [List.length_map] at M4
  have one:∀ {T:List Rw} {k:Nat} {z:Str},T = [⟨k,z,true⟩]\/T = []->T.length<=1:=fun h=>by rcases h with rfl | rfl <;> simp
  have lP:=M4.ln
  obtain ⟨j,hj,hjl,hat⟩:=pick (ends / 4)
  have hpa4:=I4.sm _ _ hpa
  refine ⟨_,rfl,_,rfl,_,_,rfl,rfl,⟨by decide,by decide⟩,_,rfl,pa,_,rfl,.inl (SqL.of hpa4),_,_,rfl,rfl,(by rw [lz]; omega),pa,_,_,.str zs[j],rfl,rfl,SqL.of hpa4,(by rw [lz]; exact hat),(by show 2<=sizeLine; decide),fun u1 hu1=>?_⟩
  have hz1:=hzn _ (List.getElem_mem hjl)
  generalize zs[j] = z1 at hz1 |-
  have s5:=same_new hu1 (.tup [.str "tail",.str z1])
  have tu1:TAt (upd H4 u1 (.tup [.str "tail",.str z1])) u1 ⟨2,z1,true⟩:=upd_same
  have I5:=I4.same s5
  generalize upd H4 u1 (.tup [.str "tail",.str z1]) = H5 at s5 tu1 I5 |-
  refine ⟨(by show 1<=sizeLine; decide),fun l1 hl1=>?_⟩
  have s6:=same_new hl1 (.lst [.ref u1])
  have g6:upd H5 l1 (.lst [.ref u1]) l1 = some (.lst [.ref u1]):=upd_same
  have I6:=I5.same s6
  have tu1:=tu1.same s6
  generalize upd H5 l1 (.lst [.ref u1]) = H6 at s6 g6 I6 tu1 |-
  have b0 : 0<=ends % 2:=Int.emod_nonneg _ (by decide)
  have b1:ends % 2 < 2:=Int.emod_lt_of_pos _ (by decide)
  refine ⟨_,rfl,_,_,rfl,rfl,(by show (0:Int) < 2; decide),l1,ends % 2,_,rfl,rfl,g6,by omega,by omega,(by show 1 * _<=sizeLine; exact le1000 (by omega)),fun p1 hp1=>?_⟩
  obtain ⟨usT,T1,eT1,hT1,hTT⟩:∃ (us:List Addr) (T:List Rw),(List.replicate (ends % 2).toNat [V.ref u1]).flatten = us.map V.ref/\Paired (TAt H6) us T/\(T = [⟨2,z1,true⟩]\/T = []):=by
   by_cases hb:ends % 2 = 1
   ·rw [hb]; exact ⟨[u1],_,rfl,.cons tu1 .nil,.inl rfl⟩
   ·rw [show ends % 2 = 0 by omega]; exact ⟨[],_,rfl,.nil,.inr rfl⟩
  rw [eT1]
  have s7:=same_new hp1 (.lst (usT.map V.ref))
  have g7:upd H6 p1 (.lst (usT.map V.ref)) p1 = some (.lst (usT.map V.ref)):=upd_same
  have I7:=I6.same s7
  have hT1:=tats_same s7 hT1
  dsimp only [gName]
  generalize upd H6 p1 (.lst (usT.map V.ref)) = H7 at s7 g7 I7 hT1 |-
  have M7:FM (cs.length + 1) { S with T:=T1 }:=by
   rcases hTT with rfl | rfl
   ·exact M4.add (k:=2) (b:=true) (by decide) hz1 (fun e=>by cases e)
   ·rw [show ({ S with T:=[] }:FS) = S by cases S; cases eT; rfl]
    exact ⟨M4.okP,M4.okT,M4.okG,M4.okB,M4.lT,M4.lB,M4.nd,M4.sn,Nat.le_succ_of_le M4.ln,Nat.le_succ_of_le M4.lL⟩
  obtain ⟨us1,h11,h12⟩:=I7.hp
  obtain ⟨us3,h31,h32⟩:=I7.ht
  have lT1:usT.length<=1:=by rw [hT1.length]; exact one hTT
  have l1':us1.length = S.P.length:=h12.length
  have l3':us3.length = S.G.length:=h32.length
  refine ⟨_,rfl,_,rfl,lp,p1,_,_,rfl,rfl,h11,g7,le1000 (by rw [List.length_map,List.length_map]; omega),fun x1 hx1=>?_⟩
  rw [<- List.map_append]
  have s8:=same_new hx1 (.lst ((us1 ++ usT).map V.ref))
  have g8:upd H7 x1 (.lst ((us1 ++ usT).map V.ref)) x1 = some (.lst ((us1 ++ usT).map V.ref)):=upd_same
  generalize upd H7 x1 (.lst ((us1 ++ usT).map V.ref)) = H8 at s8 g8 |-
  refine ⟨_,rfl,x1,lt,_,_,rfl,rfl,g8,s8 _ _ h31,le1000 (by rw [List.length_map,List.length_map,List.length_append]; omega),fun x2 hx2=>?_⟩
  rw [<- List.map_append]
  have s9:=same_new hx2 (.lst ((us1 ++ usT ++ us3).map V.ref))
  have g9:upd H8 x2 (.lst ((us1 ++ usT ++ us3).map V.ref)) x2 = some (.lst ((us1 ++ usT ++ us3).map V.ref)):=upd_same
  generalize upd H8 x2 (.lst ((us1 ++ usT ++ us3).map V.ref)) = H9 at s9 g9 |-
  have I9:=I7.same (s8.trans s9)
  obtain ⟨j2,hj2,hjl2,hat2⟩:=pick (ends / 40)
  have hpa9:=I9.sm _ _ hpa
  refine ⟨_,rfl,_,rfl,_,_,rfl,rfl,⟨by decide,by decide⟩,_,rfl,pa,_,rfl,.inl (SqL.of hpa9),_,_,rfl,rfl,(by rw [lz]; omega),pa,_,_,.str zs[j2],rfl,rfl,SqL.of hpa9,(by rw [lz]; exact hat2),(by show 2<=sizeLine; decide),fun u2 hu2=>?_⟩
  have hz2:=hzn _ (List.getElem_mem hjl2)
  generalize zs[j2] = z2 at hz2 |-
  have s10:=same_new hu2 (.tup [.str "bag",.str z2])
  have tu2:TAt (upd H9 u2 (.tup [.str "bag",.str z2])) u2 ⟨4,z2,true⟩:=upd_same
  generalize upd H9 u2 (.tup [.str "bag",.str z2]) = H10 at s10 tu2 |-
  refine ⟨(by show 1<=sizeLine; decide),fun l2 hl2=>?_⟩
  have s11:=same_new hl2 (.lst [.ref u2])
  have g11:upd H10 l2 (.lst [.ref u2]) l2 = some (.lst [.ref u2]):=upd_same
  have tu2:=tu2.same s11
  generalize upd H10 l2 (.lst [.ref u2]) = H11 at s11 g11 tu2 |-
  have c0 : 0<=ends / 2 % 2:=Int.emod_nonneg _ (by decide)
  have c1:ends / 2 % 2 < 2:=Int.emod_lt_of_pos _ (by decide)
  refine ⟨_,rfl,_,_,rfl,rfl,⟨by decide,by decide⟩,_,_,rfl,rfl,(by show (0:Int) < 2; decide),l2,ends / 2 % 2,_,rfl,rfl,g11,by omega,by omega,(by show 1 * _<=sizeLine; exact le1000 (by omega)),fun p2 hp2=>?_⟩
  obtain ⟨usB,B1,eB1,hB1,hBB⟩:∃ (us:List Addr) (B:List Rw),(List.replicate (ends / 2 % 2).toNat [V.ref u2]).flatten = us.map V.ref/\Paired (TAt H11) us B/\(B = [⟨4,z2,true⟩]\/B = []):=by
   by_cases hb:ends / 2 % 2 = 1
   ·rw [hb]; exact ⟨[u2],_,rfl,.cons tu2 .nil,.inl rfl⟩
   ·rw [show ends / 2 % 2 = 0 by omega]; exact ⟨[],_,rfl,.nil,.inr rfl⟩
  rw [eB1]
  have s12:=same_new hp2 (.lst (usB.map V.ref))
  have g12:upd H11 p2 (.lst (usB.map V.ref)) p2 = some (.lst (usB.map V.ref)):=upd_same
  have hB1:=tats_same s12 hB1
  generalize upd H11 p2 (.lst (usB.map V.ref)) = H12 at s12 g12 hB1 |-
  have s912:Same H9 H12:=s10.trans (s11.trans s12)
  have lB1:usB.length<=1:=by rw [hB1.length]; exact one hBB
  refine ⟨x2,p2,_,_,rfl,rfl,s912 _ _ g9,g12,le1000 (by rw [List.length_map,List.length_map,List.length_append,List.length_append]; omega),fun x3 hx3=>?_⟩
  rw [<- List.map_append]
  have s13:=same_new hx3 (.lst ((us1 ++ usT ++ us3 ++ usB).map V.ref))
  have M13:FM (cs.length + 1 + 1) { S with T:=T1,B:=B1 }:=by
   rcases hBB with rfl | rfl
   ·exact M7.add (k:=4) (b:=true) (by decide) hz2 (fun e=>by cases e)
   ·rw [show ({ S with T:=T1,B:=[] }:FS) = { S with T:=T1 } by cases S; cases eB; rfl]
    exact ⟨M7.okP,M7.okT,M7.okG,M7.okB,M7.lT,M7.lB,M7.nd,M7.sn,Nat.le_succ_of_le M7.ln,Nat.le_succ_of_le M7.lL⟩
  have s713:=(s8.trans s9).trans (s912.trans s13)
  refine q x3 _ _ _ (I7.sm.trans s713) (I7.sm.free ((s8.trans s9).free (s912.free hx3))) upd_same ?_ (M13.vr (by omega)) (fun z hz=>pL z (M13.sn z (by
   have n1:nms T1 = []:=nms_nil M13.okT rfl
   have n2:nms B1 = []:=nms_nil M13.okB rfl
   unfold FS.rows at hz
   rw [nms_app,nms_app,nms_app] at hz
   dsimp only at hz
   rw [n1,n2,List.append_nil,List.append_nil] at hz
   exact hz))) ⟨_,rfl,M13.okP,M13.okT,M13.okG,M13.okB,M13.lT,M13.lB,M13.nd,M13.sn,Nat.le_trans M13.ln (by omega),Nat.le_trans M13.lL (by omega)⟩
  exact paired_app (paired_app (paired_app (tats_same s713 h12) (tats_same s713 hT1)) (tats_same s713 h32)) (tats_same s13 hB1)
end
theorem row_at0 {r:Rw} (h:r.ok):atI (rv r) 0 = some (.str (kw r.k)):=by
 obtain ⟨k,z,b⟩:=r
 rcases lt5 h.1 with e | e | e | e | e <;> (cases e; rfl)
theorem row_at1 {r:Rw} (h:r.ok):atI (rv r) 1 = some (.str r.z):=by
 obtain ⟨k,z,b⟩:=r
 rcases lt5 h.1 with e | e | e | e | e <;> (cases e; rfl)
theorem in_nm' {k:Nat} (h:k < 5):inV (.str (kw k)) [.str "both",.str "tag"] = byNm k:=in_nm k h
theorem in_pl' {k:Nat} (h:k < 5):inV (.str (kw k)) [.str "seat",.str "both"] = byPl k:=in_pl k h
theorem nms_zip {R:Addr->Rw->Prop} {us:List Addr} {rows:List Rw} (h:Paired R us rows):((us.zip rows).filter fun p=>byNm p.2.k).map (fun p=>V.str p.2.z) = (nms rows).map V.str:=by
 have:=zip_out h (fun r=>byNm r.k) (fun r=>V.str r.z)
 rw [this]
 unfold nms
 rw [List.map_map]
 rfl
def spLBars:Sp:=fun vs H Q _=>∃ (la pa:Addr) (n:Int) (us:List Addr) (rows:List Rw) (zs:List Str),vs = [.ref la,.ref pa,.int n]/\H la = some (.lst (us.map V.ref))/\Paired (TAt H) us rows/\VR rows/\H pa = some (.lst (zs.map V.str))/\zs.Nodup/\zs.length<=26/\
 ∀ (l:Addr) (bars:List Str) (H':Hp),Same H H'->H l = none->H' l = some (.lst (bars.map V.str))->bars.Nodup->(∀ z ∈ bars,z ∈ zs)->(∀ z ∈ bars,z ∉ nms rows)->bars.length<=26->Q (.ref l) H'
section
variable {P:Program} {w:World} {K:PySem.W.Frag} {mg:Str->Option Value} {base:Heap} {f:Addr} {fd:FuncData}
theorem ndOne:([Str.ofString "_law_one"]:List Str).Nodup:=by decide +kernel
theorem scLBars:FnScope ["_law_row_here","_law_pool_here","_law_number","_law_known","_law_found","_law_name"] ["_law_row_here","_law_pool_here","_law_number"] (defScope sBars):=⟨rfl,rfl,rfl,by decide +kernel,rfl,by decide +kernel,by decide +kernel⟩
theorem ok_lbars (F:Fun K "_law_bars" "_law_bars" sBars f fd):FnOk P w K mg base CX0 1 f fd ["_law_row_here","_law_pool_here","_law_number"] spLBars:=by
 refine F.ok scLBars (fun vs H Q E h=>?_) (fun cdv A outer s H vs Q E hr h=>?_)
 ·obtain ⟨la,pa,n,us,rows,zs,rfl,_⟩:=h
  rfl
 obtain ⟨la,pa,n,us,rows,zs,rfl,hla,hu,V1,hpa,zn,l26,q⟩:=h
 refine ⟨_,pss_cons (ps_lc (i:=3) [] ["_law_one"] [none] scLBars.nd rfl (Or.inl rfl) rfl ⟨rfl,rfl,rfl,rfl⟩ (pi_list (pv 0)) (gown_name 0) rfl rfl rfl
   (fun pins fp s H C=>⟨pg_name (i:=0) ndOne rfl (Or.inl rfl) (.inr rfl),pif_one (pt_cmpR (r:=rIn K false) op_in_seq (pe_ix (r:=rIxT K) ix_tup (pv 0) pe_int (fun _ _=>rfl)) (pe_lst (ac pe_str (ac pe_str pa_nil))) (by with_unfolding_all rfl)),pe_ix (r:=rIxT K) ix_tup (pv 0) pe_int (fun _ _=>rfl)⟩))
  (pss_cons (ps_set (i:=4) scLBars.nd rfl (Or.inl rfl) (pe_lst pa_nil))
  (pss_cons (ps_for PassesOwn.never rfl (pi_list (pv 1)) (pg_name (i:=5) scLBars.nd rfl (Or.inl rfl))
   (pss_cons (ps_if (PW.pt (pw_and (pt_cmpR op_notIn_seq (pv 5) (pv 3) (by with_unfolding_all rfl)) (pw_and1 (pt_cmpR op_eq (pe_op op_mod (pv 2) pe_int) pe_int (nomark _))))) (pss_one (ps_expr (pe_bm PySem.F.plainAttrs_list PySem.F.slot_list_append PySem.F.type_list_append mt_append (pv 4) (ac (pv 5) pa_nil)))) pss_nil)
   (pss_one (ps_set (i:=2) scLBars.nd rfl (Or.inl rfl) (pe_op op_fdiv (pv 2) pe_int)))))
  (pss_one (ps_ret (pv 4))))),?_⟩
 have l24:=V1.l24
 refine ⟨_,rfl,la,rfl,⟨_,SqL.of hla⟩,fun D hD=>?_⟩
 refine lc_zip (K:=K) TAt (fun r=>byNm r.k) (fun _ r=>.str r.z) hD hla hu (by omega) (fun i u r H' N S hu' hr' tr sH n1 s1=>?_) (fun H1 s1 hD1=>?_)
 ·have rk:=V1.ok r (List.mem_of_getElem? hr')
  have tu:=sH _ _ tr
  refine ⟨_,rfl,u,_,0,_,rfl,rfl,SqT.of tu,row_at0 rk,(by show 2<=sizeLine; decide),fun l hl=>?_⟩
  have s2:=same_new hl (.lst [.str "both",.str "tag"])
  refine ⟨l,_,rfl,.inl (SqL.of upd_same),rfl,rfl,_,rfl,?_⟩
  rw [if_neg Bool.false_ne_true,in_nm' rk.1]
  exact ⟨fun e=>⟨_,rfl,u,_,1,_,rfl,rfl,SqT.of (s2 _ _ tu),row_at1 rk,n1 _ s2 e⟩,fun e=>s1 _ s2 e⟩
 rw [nms_zip hu] at hD1
 refine ⟨(by show 0<=sizeLine; decide),fun fo hfo=>?_⟩
 have s2:=same_new hfo (.lst [])
 have g2:upd H1 fo (.lst []) fo = some (.lst []):=upd_same
 dsimp only [gName]
 generalize upd H1 fo (.lst []) = H2 at s2 g2 |-
 have s12:=s1.trans s2
 have nD:=s2 _ _ hD1
 have nfo:H fo = none:=s1.free hfo
 have neD:D ≠ fo:=ne_of_none hD1 hfo
 refine ⟨_,rfl,pa,rfl,⟨_,SqL.of (s12 _ _ hpa)⟩,for_list (K:=K) (a:=pa) (xs:=zs.map V.str) (fun i σ H'=>∃ (m:Int) (bars:List Str) (v5:Option V),σ = [some (.ref la),some (.ref pa),some (.int m),some (.ref D),some (.ref fo),v5]/\Same H H'/\H' D = some (.lst ((nms rows).map V.str))/\H' fo = some (.lst (bars.map V.str))/\bars.Nodup/\(∀ z ∈ bars,z ∈ zs.take i)/\(∀ z ∈ bars,z ∉ nms rows)/\bars.length<=i)
  ⟨n,[],_,rfl,s12,nD,g2,List.nodup_nil,(fun _ h=>nomatch h),(fun _ h=>nomatch h),Nat.le_refl _⟩ (fun i σ H' _ ⟨_,_,_,_,sH,_⟩=>SqL.of (sH _ _ hpa)) ?_ ?_⟩
 ·rintro i x σ H' hx ⟨m,bars,v5,rfl,sH,hD',hfo',bn,bz,bk,bl⟩
  obtain ⟨z,hz,rfl⟩:=strs_at hx
  have hi:i < zs.length:=(List.getElem?_eq_some_iff.mp hz).1
  have ez:zs[i] = z:=(List.getElem?_eq_some_iff.mp hz).2
  have tk:zs.take (i + 1) = zs.take i ++ [z]:=by rw [List.take_succ_eq_append_getElem hi,ez]
  have zt:z ∉ zs.take i:=by
   have:=zn.sublist (List.take_sublist (i + 1) zs)
   rw [tk] at this
   exact fun h=>(List.nodup_append.mp this).2.2 z h z (List.mem_singleton.mpr rfl) rfl
  have skip:∃ (m':Int) (bars:List Str) (v5:Option V),([some (.ref la),some (.ref pa),some (.int (m / 3)),some (.ref D),some (.ref fo),some (.str z)]:L2.St) = [some (.ref la),some (.ref pa),some (.int m'),some (.ref D),some (.ref fo),v5]/\Same H H'/\H' D = some (.lst ((nms rows).map V.str))/\H' fo = some (.lst (bars.map V.str))/\bars.Nodup/\(∀ z ∈ bars,z ∈ zs.take (i + 1))/\(∀ z ∈ bars,z ∉ nms rows)/\bars.length<=i + 1:=
   ⟨_,bars,_,rfl,sH,hD',hfo',bn,fun y hy=>by rw [tk]; exact List.mem_append_left _ (bz y hy),bk,Nat.le_succ_of_le bl⟩
  refine ⟨_,rfl,_,rfl,D,_,rfl,.inl (SqL.of hD'),rfl,flatStrs,_,rfl,?_⟩
  by_cases hk:z ∈ nms rows
  ·refine iteC (by rw [if_pos rfl,inStrs,decide_eq_true hk]; rfl) ?_
   refine iteF ?_
   exact ⟨_,rfl,_,_,rfl,rfl,⟨by decide,by decide⟩,skip⟩
  refine iteB (by rw [if_pos rfl,inStrs,decide_eq_false hk]; rfl) ?_
  refine ⟨_,rfl,_,_,rfl,rfl,(by show (0:Int) < 3; decide),rfl,_,rfl,?_⟩
  refine ite2 (fun _=>?_) (fun _=>?_)
  ·refine ⟨_,rfl,.inl ⟨rfl,_,SqL.of hfo'⟩,_,rfl,fo,_,_,rfl,rfl,hfo',small1000 (by rw [List.length_map]; omega),?_⟩
   refine ⟨_,rfl,_,_,rfl,rfl,⟨by decide,by decide⟩,?_⟩
   refine ⟨_,bars ++ [z],_,rfl,fun b u e=>by rw [upd_ne (ne_of_none e nfo)]; exact sH _ _ e,by rw [upd_ne neD]; exact hD',by rw [upd_same,List.map_append]; rfl,?_,?_,?_,by rw [List.length_append]; exact Nat.succ_le_succ bl⟩
   ·exact List.nodup_append.mpr ⟨bn,by simp,fun x hx y hy e=>zt (by rw [<- List.mem_singleton.mp hy,<- e]; exact bz x hx)⟩
   ·rw [tk]
    intro y hy
    rcases List.mem_append.mp hy with hy | hy
    ·exact List.mem_append_left _ (bz y hy)
    ·exact List.mem_append_right _ hy
   ·intro y hy
    rcases List.mem_append.mp hy with hy | hy
    ·exact bk y hy
    ·rw [List.mem_singleton.mp hy]; exact hk
  ·exact ⟨_,rfl,_,_,rfl,rfl,⟨by decide,by decide⟩,skip⟩
 ·rintro σ H' ⟨m,bars,v5,rfl,sH,hD',hfo',bn,bz,bk,bl⟩
  rw [List.length_map] at bl
  exact ⟨_,rfl,q fo bars H' sH nfo hfo' bn (fun z hz=>List.mem_of_mem_take (bz z hz)) bk (by omega)⟩
end
structure FD where
 (P T G B:List Rw)
def FD.rows (D:FD):List Rw:=D.P ++ (D.T ++ (D.G ++ D.B))
structure FDok (zs:List Str) (D:FD) (bars:List Str):Prop where
 p:∀ r ∈ D.P,(r.k = 0\/r.k = 1)/\nameB r.z = true
 t:∀ r ∈ D.T,r.k = 2/\nameB r.z = true
 lt:D.T.length<=1
 g:∀ r ∈ D.G,r.k = 3/\nameB r.z = true
 b:∀ r ∈ D.B,r.k = 4/\nameB r.z = true
 lb:D.B.length<=1
 nd:(nms D.P ++ nms D.G ++ bars).Nodup
 zn:∀ z ∈ nms D.P ++ nms D.G ++ bars,z ∈ zs
 ln:D.P.length + D.G.length<=22
def acc (x:TR) (names:List Str):Bool:=match x with
 | none=>false
 | some (n,b,X)=>n.all (fun z=>decide (z ∈ names)) && names.all (fun z=>if b = true then decide (z ∉ X) else decide (z ∈ X))
structure Proper (zs:List Str) (n:List Str) (b:Bool) (X:List Str):Prop where
 sn:sortS n = n
 sX:sortS X = X
 dn:n.Nodup
 dX:X.Nodup
 zn:∀ z ∈ n,z ∈ zs
 zX:∀ z ∈ X,z ∈ zs
 in_:∀ z ∈ n,(z ∈ X) = (b = false)
def ext (l:List TR) (i:Nat):TR:=(l[min i (l.length - 1)]?).getD none
def seqT (t:List TR × Bool) (i:Nat):TR:=if i < t.1.length then (t.1[i]?).getD none else if t.2 = true then ext t.1 i else none
theorem popR_ne:∀ {l:List TR},l ≠ []->popR l ≠ []
 | [],h=>absurd rfl h
 | [x],_=>by simp [popR]
 | x :: y :: l,_=>by
  unfold popR
  split
  ·exact popR_ne (by simp)
  ·simp
theorem popR_trim:∀ (l:List TR),∀ x y a,popR l = x :: y :: a->x ≠ y
 | [],x,y,a,h=>by cases h
 | [z],x,y,a,h=>by cases h
 | u :: v :: l,x,y,a,h=>by
  unfold popR at h
  split at h
  ·exact popR_trim (v :: l) x y a h
  next e=>cases h; exact e
theorem ext_snoc {l:List TR} {x:TR} (h:l ≠ []) (e:l.getLast h = x):∀ i,ext (l ++ [x]) i = ext l i:=fun i=>by
 have hl : 0 < l.length:=List.length_pos_iff.mpr h
 have el:l[l.length - 1]? = some x:=by rw [<- e,List.getLast_eq_getElem,List.getElem?_eq_getElem]
 unfold ext
 rw [List.length_append,List.length_singleton,Nat.add_sub_cancel]
 by_cases hi:i < l.length
 ·rw [Nat.min_eq_left (by omega),Nat.min_eq_left (by omega),List.getElem?_append_left hi]
 ·rw [Nat.min_eq_right (by omega),Nat.min_eq_right (by omega),List.getElem?_append_right (Nat.le_refl _),Nat.sub_self,el]
  rfl
theorem popR_ext:∀ (l:List TR) (i:Nat),ext (popR l).reverse i = ext l.reverse i
 | [],_=>rfl
 | [_],_=>rfl
 | u :: v :: l,i=>by
  unfold popR
  split
  next e=>
   rw [popR_ext (v :: l) i]
   rw [List.reverse_cons (a:=u)]
   refine (ext_snoc (by simp) ?_ i).symm
   rw [e]
   simp
  ·rfl
section
variable {zs:List Str} {D D':FD} {bars bars':List Str}
def FD.tl (D:FD):Bool:=!D.T.isEmpty
def FD.bg (D:FD):Bool:=!D.B.isEmpty
def sF (D:FD) (bars:List Str) (i:Nat):TR:=if i<=D.P.length then rowF D.rows bars i else if D.tl = true then rowF D.rows bars D.P.length else none
theorem filt_nil {xs:List Rw} {p:Rw->Bool} (h:∀ r ∈ xs,p r = false):xs.filter p = []:=List.filter_eq_nil_iff.mpr fun r hr e=>by rw [h r hr] at e; cases e
theorem filt_self {xs:List Rw} {p:Rw->Bool} (h:∀ r ∈ xs,p r = true):xs.filter p = xs:=List.filter_eq_self.mpr h
theorem k_p (h:FDok zs D bars):∀ r ∈ D.P,byPl r.k = true:=fun r hr=>by rcases (h.p r hr).1 with e | e <;> rw [e] <;> rfl
theorem pl_rows (h:FDok zs D bars):plN D.rows = D.P.length:=by
 unfold plN FD.rows
 rw [List.filter_append,List.filter_append,List.filter_append,filt_self (k_p h),filt_nil (fun r hr=>by rw [(h.t r hr).1]; rfl),filt_nil (fun r hr=>by rw [(h.g r hr).1]; rfl),filt_nil (fun r hr=>by rw [(h.b r hr).1]; rfl)]
 simp
theorem firstK_some {kk:Nat}:∀ (rows:List Rw) (i:Nat),(firstK kk i rows).isSome = rows.any fun r=>r.k == kk
 | [],_=>rfl
 | r :: rs,i=>by
  unfold firstK
  rw [List.any_cons]
  by_cases e:r.k = kk
  ·rw [if_pos e,e]; simp
  ·rw [if_neg e,firstK_some rs (i + 1)]
   simp [e]
theorem any_nil {xs:List Rw} {p:Rw->Bool} (h:∀ r ∈ xs,p r = false):xs.any p = false:=by
 rw [List.any_eq_false]
 exact fun r hr=>by rw [h r hr]; exact Bool.false_ne_true
theorem any_all {xs:List Rw} {p:Rw->Bool} (h:∀ r ∈ xs,p r = true):xs.any p = !xs.isEmpty:=by
 cases xs with
 | nil=>rfl
 | cons x xs=>rw [List.any_cons,h x List.mem_cons_self]; rfl
theorem tail_rows (h:FDok zs D bars):(firstK 2 0 D.rows).isSome = D.tl:=by
 rw [firstK_some]
 unfold FD.rows FD.tl
 rw [List.any_append,List.any_append,List.any_append,any_nil (fun r hr=>by rcases (h.p r hr).1 with e | e <;> rw [e] <;> rfl),any_all (fun r hr=>by rw [(h.t r hr).1]; rfl),any_nil (fun r hr=>by rw [(h.g r hr).1]; rfl),any_nil (fun r hr=>by rw [(h.b r hr).1]; rfl)]
 simp
theorem bag_rows (h:FDok zs D bars):(firstK 4 0 D.rows).isSome = D.bg:=by
 rw [firstK_some]
 unfold FD.rows FD.bg
 rw [List.any_append,List.any_append,List.any_append,any_nil (fun r hr=>by rcases (h.p r hr).1 with e | e <;> rw [e] <;> rfl),any_nil (fun r hr=>by rw [(h.t r hr).1]; rfl),any_nil (fun r hr=>by rw [(h.g r hr).1]; rfl),any_all (fun r hr=>by rw [(h.b r hr).1]; rfl)]
 simp
theorem tab_seq (h:FDok zs D bars):∀ i,seqT (tabF D.rows bars) i = sF D bars i:=fun i=>by
 have hl:((List.range (plN D.rows + 1)).map (rowF D.rows bars)).length = D.P.length + 1:=by rw [List.length_map,List.length_range,pl_rows h]
 have at_:∀ j,j<=D.P.length->(((List.range (plN D.rows + 1)).map (rowF D.rows bars))[j]?).getD none = rowF D.rows bars j:=fun j hj=>by
  rw [List.getElem?_map,pl_rows h,List.getElem?_range (by omega)]
  rfl
 unfold seqT tabF sF
 rw [tail_rows h]
 dsimp only
 generalize (List.range (plN D.rows + 1)).map (rowF D.rows bars) = rs at hl at_
 cases ht:D.tl with
 | false=>
  rw [if_neg Bool.false_ne_true]
  dsimp only
  rw [hl]
  by_cases hi:i<=D.P.length
  ·rw [if_pos (by omega),if_pos hi,at_ i hi]
  ·rw [if_neg (by omega),if_neg hi,if_neg Bool.false_ne_true,if_neg Bool.false_ne_true]
 | true=>
  rw [if_pos rfl]
  dsimp only
  have e:(if i < (popR rs.reverse).reverse.length then ((popR rs.reverse).reverse[i]?).getD none else if true = true then ext (popR rs.reverse).reverse i else none) = ext (popR rs.reverse).reverse i:=by
   split
   next hi=>
    unfold ext
    rw [Nat.min_eq_left (by omega)]
   ·rw [if_pos rfl]
  rw [e,popR_ext,List.reverse_reverse]
  unfold ext
  rw [hl,Nat.add_sub_cancel]
  by_cases hi:i<=D.P.length
  ·rw [if_pos hi,Nat.min_eq_left hi,at_ i hi]
  ·rw [if_neg hi,if_pos rfl,Nat.min_eq_right (by omega),at_ _ (Nat.le_refl _)]
end
def plcs (rows:List Rw):List Rw:=rows.filter fun r=>byPl r.k
def tgs (rows:List Rw):List Rw:=rows.filter fun r=>r.k == 3
def hasK (rows:List Rw) (k:Nat):Bool:=rows.any fun r=>r.k == k
def lateF (rows:List Rw) (many:Nat):List Str:=(((plcs rows).drop many).filter fun r=>r.k == 1).map (·.z) ++ (tgs rows).map (·.z)
def goneF (rows:List Rw) (many:Nat):List Str:=(((plcs rows).take many).filter fun r=>r.k == 1).map (·.z)
def badN (rows:List Rw) (bars:List Str) (many:Nat) (z:Str):Bool:=decide (z ∈ bars) || decide (z ∈ goneF rows many) || (decide (z ∉ lateF rows many) && !hasK rows 4)
def badR (names:List Str) (r:Rw):Bool:=!r.b && (r.k == 0 || decide (r.z ∉ names))
def takesF (rows:List Rw) (bars:List Str) (many:Nat) (names:List Str):Bool:=
 !(decide (plN rows < many) && !hasK rows 2) && names.all (fun z=>!badN rows bars many z) && ((plcs rows).drop many ++ tgs rows).all fun r=>!badR names r
section
variable {zs:List Str} {D:FD} {bars:List Str}
theorem plcs_D (h:FDok zs D bars):plcs D.rows = D.P:=by
 unfold plcs FD.rows
 rw [List.filter_append,List.filter_append,List.filter_append,filt_self (k_p h),filt_nil (fun r hr=>by rw [(h.t r hr).1]; rfl),filt_nil (fun r hr=>by rw [(h.g r hr).1]; rfl),filt_nil (fun r hr=>by rw [(h.b r hr).1]; rfl)]
 simp
theorem tgs_D (h:FDok zs D bars):tgs D.rows = D.G:=by
 unfold tgs FD.rows
 rw [List.filter_append,List.filter_append,List.filter_append,filt_nil (fun r hr=>by rcases (h.p r hr).1 with e | e <;> rw [e] <;> rfl),filt_nil (fun r hr=>by rw [(h.t r hr).1]; rfl),filt_self (fun r hr=>by rw [(h.g r hr).1]; rfl),filt_nil (fun r hr=>by rw [(h.b r hr).1]; rfl)]
 simp
theorem has2_D (h:FDok zs D bars):hasK D.rows 2 = D.tl:=by rw [<- tail_rows h,firstK_some]; rfl
theorem has4_D (h:FDok zs D bars):hasK D.rows 4 = D.bg:=by rw [<- bag_rows h,firstK_some]; rfl
theorem nms_P {xs:List Rw} (h:∀ r ∈ xs,r.k = 0\/r.k = 1):nms xs = (xs.filter fun r=>r.k == 1).map (·.z):=by
 unfold nms
 congr 1
 refine List.filter_congr fun r hr=>?_
 rcases h r hr with e | e <;> rw [e] <;> rfl
theorem nms_all {xs:List Rw} (h:∀ r ∈ xs,byNm r.k = true):nms xs = xs.map (·.z):=by
 unfold nms
 rw [filt_self h]
theorem nms_no {xs:List Rw} (h:∀ r ∈ xs,byNm r.k = false):nms xs = []:=by
 unfold nms
 rw [filt_nil h]
 rfl
theorem nmsG (h:FDok zs D bars):nms D.G = D.G.map (·.z):=nms_all fun r hr=>by rw [(h.g r hr).1]; rfl
theorem nms_dropD (h:FDok zs D bars) {m:Nat} (hm:m<=D.P.length):nms (D.rows.drop m) = nms (D.P.drop m) ++ nms D.G:=by
 unfold FD.rows
 rw [List.drop_append_of_le_length hm,nms_app,nms_app,nms_app,nms_no (xs:=D.T) (fun r hr=>by rw [(h.t r hr).1]; rfl),nms_no (xs:=D.B) (fun r hr=>by rw [(h.b r hr).1]; rfl)]
 simp
theorem nms_takeD (h:FDok zs D bars) {m:Nat} (hm:m<=D.P.length):nms (D.rows.take m) = nms (D.P.take m):=by
 unfold FD.rows
 rw [List.take_append_of_le_length hm]
theorem lack_D (h:FDok zs D bars) {m:Nat} (hm:m<=D.P.length):lackL D.rows m = (D.P.drop m ++ D.G).filter fun r=>!r.b:=by
 unfold lackL FD.rows
 rw [List.drop_append_of_le_length hm,List.filter_append,List.filter_append,List.filter_append,List.filter_append,filt_nil (xs:=D.T) (fun r hr=>by unfold frR; rw [(h.t r hr).1]; rfl),filt_nil (xs:=D.B) (fun r hr=>by unfold frR; rw [(h.b r hr).1]; rfl)]
 rw [List.nil_append,List.append_nil]
 congr 1
 ·refine List.filter_congr fun r hr=>?_
  unfold frR
  rcases (h.p r (List.mem_of_mem_drop hr)).1 with e | e <;> rw [e] <;> rfl
 ·refine List.filter_congr fun r hr=>?_
  unfold frR
  rw [(h.g r hr).1]
  rfl
theorem nd_D (h:FDok zs D bars) (m:Nat):(nms (D.P.take m) ++ (nms (D.P.drop m) ++ nms D.G) ++ bars).Nodup:=by
 rw [<- List.append_assoc,<- nms_app,List.take_append_drop]
 exact h.nd
theorem takes_le (h:FDok zs D bars) {m:Nat} (hm:m<=D.P.length) (names:List Str):takesF D.rows bars m names = acc (rowF D.rows bars m) names:=by
 have ndp:=nd_D h m
 have kA:∀ r ∈ D.P.drop m,r.k = 0\/r.k = 1:=fun r hr=>(h.p r (List.mem_of_mem_drop hr)).1
 have kL:∀ r ∈ D.P.take m,r.k = 0\/r.k = 1:=fun r hr=>(h.p r (List.mem_of_mem_take hr)).1
 have eL:lateF D.rows m = nms (D.P.drop m) ++ nms D.G:=by unfold lateF; rw [plcs_D h,tgs_D h,<- nms_P kA,nmsG h]
 have eG:goneF D.rows m = nms (D.P.take m):=by unfold goneF; rw [plcs_D h,<- nms_P kL]
 unfold takesF badN
 rw [plcs_D h,tgs_D h,has2_D h,has4_D h,pl_rows h,eL,eG,decide_eq_false (by omega)]
 unfold rowF
 rw [lack_D h hm,bag_rows h,nms_dropD h hm,nms_takeD h hm]
 generalize nms (D.P.drop m) ++ nms D.G = late at ndp |-
 have kk:∀ r ∈ D.P.drop m ++ D.G,byNm r.k = !(r.k == 0):=fun r hr=>by
  rcases List.mem_append.mp hr with hr | hr
  ·rcases kA r hr with e | e <;> rw [e] <;> rfl
  ·rw [(h.g r hr).1]; rfl
 rw [Bool.eq_iff_iff,Bool.and_eq_true,Bool.and_eq_true,List.all_eq_true,List.all_eq_true]
 have second:(∀ r ∈ D.P.drop m ++ D.G,(!badR names r) = true) ↔ (((D.P.drop m ++ D.G).filter fun r=>!r.b).any (fun r=>!byNm r.k) = false/\∀ z ∈ ((D.P.drop m ++ D.G).filter fun r=>!r.b).map (·.z),z ∈ names):=by
  constructor
  ·intro hh
   refine ⟨any_nil fun r hr=>?_,fun z hz=>?_⟩
   ·obtain ⟨hr,hb⟩:=List.mem_filter.mp hr
    have:=hh r hr
    unfold badR at this
    rw [hb,Bool.true_and] at this
    rw [kk r hr]
    cases e:(r.k == 0) with
    | true=>rw [e] at this; cases this
    | false=>rfl
   ·obtain ⟨r,hr,rfl⟩:=List.mem_map.mp hz
    obtain ⟨hr,hb⟩:=List.mem_filter.mp hr
    have:=hh r hr
    unfold badR at this
    rw [hb,Bool.true_and] at this
    by_cases e:r.z ∈ names
    ·exact e
    ·rw [decide_eq_true e,Bool.or_true] at this; cases this
  ·rintro ⟨h1,h2⟩ r hr
   unfold badR
   cases hb:r.b with
   | true=>rfl
   | false=>
    have hf:r ∈ (D.P.drop m ++ D.G).filter fun r=>!r.b:=List.mem_filter.mpr ⟨hr,by rw [hb]; rfl⟩
    have a:=List.any_eq_false.mp h1 r hf
    rw [kk r hr] at a
    have b:=h2 r.z (List.mem_map.mpr ⟨r,hf,rfl⟩)
    rw [decide_eq_false (not_not_intro b)]
    cases e:(r.k == 0) with
    | true=>rw [e] at a; exact absurd rfl a
    | false=>rfl
 rw [second]
 generalize (D.P.drop m ++ D.G).filter (fun r=>!r.b) = lk
 cases ha:lk.any (fun r=>!byNm r.k) with
 | true=>
  rw [if_pos rfl]
  exact ⟨(fun h=>by cases h.2.1),(fun h=>by cases h)⟩
 | false=>
  rw [if_neg Bool.false_ne_true]
  show _ ↔ ((sortS (lk.map (·.z))).all (fun z=>decide (z ∈ names)) && names.all (fun z=>if D.bg = true then decide (z ∉ _) else decide (z ∈ _))) = true
  rw [Bool.and_eq_true,List.all_eq_true,List.all_eq_true]
  have nn:(∀ z ∈ lk.map (·.z),z ∈ names) ↔ ∀ z ∈ sortS (lk.map (·.z)),decide (z ∈ names) = true:=⟨fun h z hz=>decide_eq_true (h z ((sortS_perm _).mem_iff.mp hz)),fun h z hz=>of_decide_eq_true (h z ((sortS_perm _).mem_iff.mpr hz))⟩
  rw [<- nn]
  have first:(∀ z ∈ names,(!(decide (z ∈ bars) || decide (z ∈ nms (D.P.take m)) || (decide (z ∉ late) && !D.bg))) = true) ↔ ∀ z ∈ names,(if D.bg = true then decide (z ∉ (if D.bg = true then sortS (bars ++ nms (D.P.take m)) else sortS late)) else decide (z ∈ (if D.bg = true then sortS (bars ++ nms (D.P.take m)) else sortS late))) = true:=by
   refine forall_congr' fun z=>forall_congr' fun hz=>?_
   cases D.bg with
   | true=>
    rw [if_pos rfl,if_pos rfl,decide_eq_true_iff,(sortS_perm _).mem_iff,List.mem_append]
    by_cases a:z ∈ bars <;> by_cases b:z ∈ nms (D.P.take m) <;> simp [a,b]
   | false=>
    rw [if_neg Bool.false_ne_true,if_neg Bool.false_ne_true,decide_eq_true_iff,(sortS_perm _).mem_iff]
    by_cases c:z ∈ late
    ·have a:z ∉ bars:=fun hb=>by
      have:=List.nodup_append.mp ndp
      exact this.2.2 z (List.mem_append.mpr (.inr c)) z hb rfl
     have b:z ∉ nms (D.P.take m):=fun hb=>by
      have:=List.nodup_append.mp (List.nodup_append.mp ndp).1
      exact this.2.2 z hb z c rfl
     simp [a,b,c]
    ·simp [c]
  rw [first]
  exact ⟨fun h=>⟨h.2.2,h.1.2⟩,fun h=>⟨⟨by simp,h.2⟩,rfl,h.1⟩⟩
end
section
variable {zs:List Str} {D D':FD} {bars bars':List Str}
theorem takes_acc (h:FDok zs D bars) (many:Nat) (names:List Str):takesF D.rows bars many names = acc (sF D bars many) names:=by
 unfold sF
 by_cases hm:many<=D.P.length
 ·rw [if_pos hm,takes_le h hm]
 ·rw [if_neg hm]
  cases ht:D.tl with
  | true=>
   rw [if_pos rfl,<- takes_le h (Nat.le_refl _)]
   have e1:(plcs D.rows).drop many = (plcs D.rows).drop D.P.length:=by rw [plcs_D h,List.drop_of_length_le (by omega),List.drop_of_length_le (Nat.le_refl _)]
   have e2:(plcs D.rows).take many = (plcs D.rows).take D.P.length:=by rw [plcs_D h,List.take_of_length_le (by omega),List.take_of_length_le (Nat.le_refl _)]
   unfold takesF badN lateF goneF
   rw [e1,e2,has2_D h,ht]
   simp
  | false=>
   rw [if_neg Bool.false_ne_true]
   unfold takesF
   rw [has2_D h,ht,pl_rows h,decide_eq_true (by omega)]
   rfl
theorem proper_row (h:FDok zs D bars) {m:Nat} (hm:m<=D.P.length) {n:List Str} {b:Bool} {X:List Str} (e:rowF D.rows bars m = some (n,b,X)):Proper zs n b X:=by
 have ndp:=nd_D h m
 unfold rowF at e
 rw [lack_D h hm,bag_rows h,nms_dropD h hm,nms_takeD h hm] at e
 split at e
 ·cases e
 next ha=>
 have ha:((D.P.drop m ++ D.G).filter fun r=>!r.b).any (fun r=>!byNm r.k) = false:=by simpa using ha
 have hall:∀ r ∈ (D.P.drop m ++ D.G).filter fun r=>!r.b,byNm r.k = true:=fun r hr=>by
  have:=List.any_eq_false.mp ha r hr
  simpa using this
 have sub:(((D.P.drop m ++ D.G).filter fun r=>!r.b).map (·.z)).Sublist (nms (D.P.drop m) ++ nms D.G):=by
  rw [<- nms_all hall,<- nms_app]
  unfold nms
  exact ((List.filter_sublist).filter _).map _
 have zin:∀ z ∈ nms (D.P.take m) ++ (nms (D.P.drop m) ++ nms D.G) ++ bars,z ∈ zs:=fun z hz=>by
  refine h.zn z ?_
  rwa [<- List.append_assoc,<- nms_app,List.take_append_drop] at hz
 obtain ⟨nd1,_,nd3⟩:=List.nodup_append.mp ndp
 obtain ⟨ndL,ndl,nd4⟩:=List.nodup_append.mp nd1
 have ndb:=(List.nodup_append.mp ndp).2.1
 have ss:∀ a:List Str,sortS (sortS a) = sortS a:=fun a=>sortS_eq.mpr (sortS_perm a)
 have nn:(sortS (((D.P.drop m ++ D.G).filter fun r=>!r.b).map (·.z))).Nodup:=(sortS_perm _).nodup_iff.mpr (sub.nodup ndl)
 have inl:∀ z ∈ sortS (((D.P.drop m ++ D.G).filter fun r=>!r.b).map (·.z)),z ∈ nms (D.P.drop m) ++ nms D.G:=fun z hz=>sub.subset ((sortS_perm _).mem_iff.mp hz)
 cases hb:D.bg with
 | true=>
  rw [hb,if_pos rfl] at e
  cases e
  refine ⟨ss _,ss _,nn,(sortS_perm _).nodup_iff.mpr (List.nodup_append.mpr ⟨ndb,ndL,fun a ha c hc e=>nd3 c (List.mem_append.mpr (.inl hc)) a ha e.symm⟩),fun z hz=>zin z (List.mem_append.mpr (.inl (List.mem_append.mpr (.inr (inl z hz))))),fun z hz=>?_,fun z hz=>?_⟩
  ·rcases List.mem_append.mp ((sortS_perm _).mem_iff.mp hz) with h | h
   ·exact zin z (List.mem_append.mpr (.inr h))
   ·exact zin z (List.mem_append.mpr (.inl (List.mem_append.mpr (.inl h))))
  ·refine propext ⟨fun hx=>?_,fun h=>by cases h⟩
   exfalso
   rcases List.mem_append.mp ((sortS_perm _).mem_iff.mp hx) with h | h
   ·exact nd3 z (List.mem_append.mpr (.inr (inl z hz))) z h rfl
   ·exact nd4 z h z (inl z hz) rfl
 | false=>
  rw [hb,if_neg Bool.false_ne_true] at e
  cases e
  exact ⟨ss _,ss _,nn,(sortS_perm _).nodup_iff.mpr ndl,fun z hz=>zin z (List.mem_append.mpr (.inl (List.mem_append.mpr (.inr (inl z hz))))),fun z hz=>zin z (List.mem_append.mpr (.inl (List.mem_append.mpr (.inr ((sortS_perm _).mem_iff.mp hz))))),fun z hz=>propext ⟨fun _=>rfl,fun _=>(sortS_perm _).mem_iff.mpr (inl z hz)⟩⟩
theorem proper_s (h:FDok zs D bars) {i:Nat} {n:List Str} {b:Bool} {X:List Str} (e:sF D bars i = some (n,b,X)):Proper zs n b X:=by
 unfold sF at e
 split at e
 next hi=>exact proper_row h hi e
 ·split at e
  ·exact proper_row h (Nat.le_refl _) e
  ·cases e
end
section
variable {zs:List Str} {D:FD} {bars:List Str}
theorem FDok.valid (h:FDok zs D bars) (hz:∀ z ∈ zs,nameB z = true) (lb:bars.length<=60):Valid D.rows bars:=by
 have ok4:∀ r ∈ D.rows,r.ok:=fun r hr=>by
  unfold FD.rows at hr
  rcases List.mem_append.mp hr with hr | hr
  ·obtain ⟨e,n⟩:=h.p r hr; exact ⟨by rcases e with e | e <;> omega,n⟩
  ·rcases List.mem_append.mp hr with hr | hr
   ·obtain ⟨e,n⟩:=h.t r hr; exact ⟨by omega,n⟩
   ·rcases List.mem_append.mp hr with hr | hr
    ·obtain ⟨e,n⟩:=h.g r hr; exact ⟨by omega,n⟩
    ·obtain ⟨e,n⟩:=h.b r hr; exact ⟨by omega,n⟩
 have enm:nms D.rows = nms D.P ++ nms D.G:=by have:=nms_dropD h (m:=0) (Nat.zero_le _); simpa using this
 refine ⟨ok4,?_,lb,ord_all (fun r hr=>by rcases (h.p r hr).1 with e | e <;> rw [e] <;> rfl) (fun r hr=>by rw [(h.t r hr).1]; rfl) h.lt (fun r hr=>by rw [(h.g r hr).1]; rfl) (fun r hr=>by rw [(h.b r hr).1]; rfl) h.lb,fun z hz'=>hz z (h.zn z (List.mem_append.mpr (.inr hz'))),by rw [enm]; exact h.nd⟩
 unfold FD.rows
 rw [List.length_append,List.length_append,List.length_append]
 have:=h.ln
 have:=h.lt
 have:=h.lb
 omega
theorem fd_of {rows:List Rw} {S:FS} (e:rows = S.rows) (M:FM 22 S) (hz:∀ z ∈ nms rows,z ∈ zs) (bd:bars.Nodup) (bz:∀ z ∈ bars,z ∈ zs) (bn:∀ z ∈ bars,z ∉ nms rows):∃ D:FD,rows = D.rows/\FDok zs D bars:=by
 have er:S.rows = FD.rows ⟨S.P,S.T,S.G,S.B⟩:=by unfold FS.rows FD.rows; simp
 have g0:∀ r ∈ S.P,r.k = 0\/r.k = 1:=fun r hr=>by
  obtain ⟨⟨h1,_⟩,h2⟩:=M.okP r hr
  rcases lt5 h1 with e | e | e | e | e <;> rw [e] at h2 |- <;> first | (exact .inl rfl) | (exact .inr rfl) | (exact absurd h2 (by decide))
 have gk:∀ {r:Rw} {g k:Nat},r.ok->grp r.k = g->(∀ j,j < 5->grp j = g->j = k)->r.k = k:=fun h1 h2 h3=>h3 _ h1.1 h2
 have enm:nms S.rows = nms S.P ++ nms S.G:=by
  unfold FS.rows
  rw [nms_app,nms_app,nms_app,nms_nil M.okT rfl,nms_nil M.okB rfl]
  simp
 rw [e,enm] at hz bn
 refine ⟨⟨S.P,S.T,S.G,S.B⟩,e.trans er,fun r hr=>⟨g0 r hr,(M.okP r hr).1.2⟩,fun r hr=>⟨gk (M.okT r hr).1 (M.okT r hr).2 (by decide),(M.okT r hr).1.2⟩,M.lT,fun r hr=>⟨gk (M.okG r hr).1 (M.okG r hr).2 (by decide),(M.okG r hr).1.2⟩,fun r hr=>⟨gk (M.okB r hr).1 (M.okB r hr).2 (by decide),(M.okB r hr).1.2⟩,M.lB,List.nodup_append.mpr ⟨M.nd,bd,fun a ha c hc e=>bn c hc (e ▸ ha)⟩,fun z hz'=>?_,by have:=M.ln; show S.P.length + S.G.length<=22; omega⟩
 rcases List.mem_append.mp hz' with h | h
 ·exact hz z h
 ·exact bz z h
end
def RowsAt (H:Hp) (la:Addr) (rows:List Rw):Prop:=∃ us:List Addr,H la = some (.lst (us.map V.ref))/\Paired (TAt H) us rows
theorem RowsAt.same {H H':Hp} {la:Addr} {rows:List Rw} (h:RowsAt H la rows) (s:Same H H'):RowsAt H' la rows:=let ⟨us,h1,h2⟩:=h; ⟨us,s _ _ h1,tats_same s h2⟩
def spLForm (c:C5) (CF:Addr):Sp:=fun vs H Q _=>∃ (la lb:Addr) (rows:List Rw) (bars:List Str),vs = [.ref la,.ref lb]/\RowsAt H la rows/\H lb = some (.lst (bars.map V.str))/\Valid rows bars/\∀ (f:Addr) (H':Hp),Same H H'->FormOk c CF H' f rows bars->Q (.ref f) H'
theorem PAt.upd {c:C5} {H:Hp} {v D:Addr} {r:Rw} {ys:List V} {o:HO} (h:PAt c H v r) (hD:H D = some (.lst ys)):PAt c (upd H D o) v r:=by
 obtain ⟨dx,h⟩:=h
 refine ⟨dx,?_⟩
 rw [upd_ne (fun e=>by rw [e,hD] at h; cases h)]
 exact h
section
variable {P:Program} {w:World} {K:PySem.W.Frag} {mg:Str->Option Value} {base:Heap} {f CF:Addr} {fd:FuncData} {c:C5}
end
end K81
namespace L2
open PySem PySem.Spec PyProof.Rows
def keyOf:Value->Str
 | .str z _=>z
 | _=>""
theorem nodup_len {α : Type} [DecidableEq α]:∀ (zs ys:List α),zs.Nodup->(∀ z ∈ zs,z ∈ ys)->zs.length<=ys.length
 | [],_,_,_=>Nat.zero_le _
 | z :: zs,ys,h,hs=>by
  have hz:z ∈ ys:=hs z List.mem_cons_self
  have e:(ys.erase z).length = ys.length - 1:=List.length_erase_of_mem hz
  have l0 : 0 < ys.length:=List.length_pos_of_mem hz
  rw [List.nodup_cons] at h
  have ih:=nodup_len zs (ys.erase z) h.2 fun y hy=>(List.mem_erase_of_ne (fun e:y = z=>h.1 (by rw [<- e]; exact hy))).mpr (hs y (List.mem_cons_of_mem _ hy))
  rw [List.length_cons]
  omega
theorem setO_len {P:Program} {w:World} {h:Heap} {a:Addr} {zs:List Str} {n:Nat} (hS:h.SetOf (strKind P w) a (fun z=>decide (z ∈ zs)) n) (nd:zs.Nodup):zs.length<=n:=by
 obtain ⟨o,es,ep,t,ho,hx,hd,he,hb,hf,hfi,hn⟩:=hS
 have:=nodup_len zs (es.toList.map fun e=>keyOf e.2) nd fun z hz=>by
  obtain ⟨e,hm,hk⟩:=(hb z).mp (decide_eq_true hz)
  refine List.mem_map.mpr ⟨e,hm,?_⟩
  obtain ⟨tk,e2⟩:=Value.isStrOf_shape hk
  rw [e2]
  rfl
 rw [List.length_map] at this
 have e3:es.toList.length = es.size:=rfl
 omega
theorem call_len_setN {X:Cx}:CallR X (.builtin "len") (fun xs H Q=>∃ (a:Addr) (zs:List Str) (n:Nat),xs = [.ref a]/\H a = some (setO X.prog X.w a (fun z=>decide (z ∈ zs)) n)/\zs.Nodup/\(zs.length<=n->Q (.int n) H)):=by
 intro pins s σ H xs us Q I r h
 obtain ⟨a,zs,n,rfl,e,nd,q⟩:=h
 refine call_len_setT pins s σ H _ us Q I r ⟨a,_,n,rfl,e,q ?_⟩
 exact setO_len (I.hok a _ e).1 nd
end L2
namespace K81
open PySem L2 PyProof.Rows
theorem row_at2 {r:Rw} (h:r.k = 0\/r.k = 1\/r.k = 3):atI (rv r) 2 = some (.bl r.b):=by
 obtain ⟨k,z,b⟩:=r
 rcases h with e | e | e <;> (cases e; rfl)
theorem in_sorts {k:Nat} (hk:k < 5):∀ {rows:List Rw},(∀ r ∈ rows,r.ok)->decide (kw k ∈ rows.map fun r=>kw r.k) = hasK rows k
 | [],_=>rfl
 | r :: rows,h=>by
  have ih:=in_sorts hk (rows:=rows) fun r hr=>h r (List.mem_cons_of_mem _ hr)
  have e:=kw_inj k hk r.k (h r List.mem_cons_self).1
  have e':decide (kw k = kw r.k) = (r.k == k):=by
   rw [<- e]
   by_cases z:kw k = kw r.k
   ·rw [decide_eq_true z,z,decide_eq_true rfl]
   ·rw [decide_eq_false z,decide_eq_false (fun c=>z (V.str.inj c).symm)]
  unfold hasK at ih |-
  rw [List.any_cons,<- ih,<- e',List.map_cons]
  by_cases a:kw k = kw r.k
  ·rw [a,decide_eq_true List.mem_cons_self,decide_eq_true rfl]; rfl
  ·by_cases b:kw k ∈ rows.map fun r=>kw r.k
   ·rw [decide_eq_true b,decide_eq_true (List.mem_cons_of_mem _ b),Bool.or_true]
   ·rw [decide_eq_false b,decide_eq_false a,decide_eq_false (fun c=>(List.mem_cons.mp c).elim a b)]; rfl
structure TxtT (mg:Str->Option Value):Prop where
 len:mg "len" = none
 set:mg "set" = none
def spTakes:Sp:=fun vs H Q _=>∃ (la lb ln:Addr) (many:Nat) (rows:List Rw) (bars names:List Str),vs = [.ref la,.ref lb,.int many,.ref ln]/\RowsAt H la rows/\(∀ r ∈ rows,r.ok)/\rows.length<=24/\H lb = some (.lst (bars.map V.str))/\H ln = some (.lst (names.map V.str))/\names.Nodup/\names.length<=30/\∀ H',Same H H'->Q (.bl (takesF rows bars many names)) H'
section
variable {P:Program} {w:World} {K:PySem.W.Frag} {mg:Str->Option Value} {base:Heap} {f:Addr} {fd:FuncData}
theorem lc_nmK {la D:Addr} {us:List Addr} {rows:List Rw} {σ : L2.St} {H:Hp} {Q:VK} {z:Str} (k:Nat) (hk:k < 5) (ez:kw k = z) (hla:H la = some (.lst (us.map V.ref))) (hu:Paired (TAt H) us rows) (hok:∀ r ∈ rows,r.ok) (hl:rows.length<=24) (hD:H D = none)
  (q:∀ H',Same H H'->H' D = some (.lst (((rows.filter fun r=>r.k == k).map (·.z)).map V.str))->Q (.ref D) H'):LCr (Itl K la) [none] (gName 0) (tTest (tOp rEq (tOp (rIxT K) (tVar 0) (tC (.int 0))) (tC (.str z)))) (tOp (rIxT K) (tVar 0) (tC (.int 1))) σ H Q D:=by
 refine lc_zip (K:=K) TAt (fun r=>r.k == k) (fun _ r=>.str r.z) hD hla hu (by omega) (fun i u r H' N S hu' hr' tr sH n1 s1=>?_) (fun H1 s1 hD1=>q H1 s1 ?_)
 ·have rk:=hok r (List.mem_of_getElem? hr')
  have tu:=sH _ _ tr
  refine ⟨_,rfl,u,_,0,_,rfl,rfl,SqT.of tu,row_at0 rk,rfl,_,rfl,?_⟩
  rw [<- ez,kw_inj k hk r.k rk.1]
  exact ⟨fun e=>⟨_,rfl,u,_,1,_,rfl,rfl,SqT.of tu,row_at1 rk,n1 _ (Same.refl _) e⟩,fun e=>s1 _ (Same.refl _) e⟩
 ·rw [hD1,zip_out hu (fun r=>r.k == k) (fun r=>V.str r.z),List.map_map]
  rfl
theorem lc_rfK {la D:Addr} {us:List Addr} {rows:List Rw} {σ : L2.St} {H:Hp} {Q:VK} {z:Str} (k:Nat) (hk:k < 5) (ez:kw k = z) (hla:H la = some (.lst (us.map V.ref))) (hu:Paired (TAt H) us rows) (hok:∀ r ∈ rows,r.ok) (hl:rows.length<=24) (hD:H D = none)
  (q:∀ H' vs,Same H H'->H' D = some (.lst (vs.map V.ref))->Paired (TAt H') vs (rows.filter fun r=>r.k == k)->Q (.ref D) H'):LCr (Itl K la) [none] (gName 0) (tTest (tOp rEq (tOp (rIxT K) (tVar 0) (tC (.int 0))) (tC (.str z)))) (tVar 0) σ H Q D:=by
 refine lc_zip (K:=K) TAt (fun r=>r.k == k) (fun u _=>.ref u) hD hla hu (by omega) (fun i u r H' N S hu' hr' tr sH n1 s1=>?_) (fun H1 s1 hD1=>?_)
 ·have rk:=hok r (List.mem_of_getElem? hr')
  have tu:=sH _ _ tr
  refine ⟨_,rfl,u,_,0,_,rfl,rfl,SqT.of tu,row_at0 rk,rfl,_,rfl,?_⟩
  rw [<- ez,kw_inj k hk r.k rk.1]
  exact ⟨fun e=>⟨_,rfl,n1 _ (Same.refl _) e⟩,fun e=>s1 _ (Same.refl _) e⟩
 ·obtain ⟨vs,ev,p⟩:=zip_sel (tats_same s1 hu) fun r=>r.k == k
  exact q H1 vs s1 (by rw [hD1,ev]) p
theorem scLTakes:FnScope ["_law_row_here","_law_bars_here","_law_many","_law_names","_law_one","_law_places","_law_sorts","_law_late","_law_gone","_law_name"] ["_law_row_here","_law_bars_here","_law_many","_law_names"] (defScope sLTakes):=⟨rfl,rfl,rfl,by decide +kernel,rfl,by decide +kernel,by decide +kernel⟩
theorem ok_takes (F:Fun K "_law_takes" "_law_takes" sLTakes f fd) (U:TxtT mg):FnOk P w K mg base CX0 1 f fd ["_law_row_here","_law_bars_here","_law_many","_law_names"] spTakes:=by
 refine F.ok scLTakes (fun vs H Q E h=>?_) (fun cdv A outer s H vs Q E hr h=>?_)
 ·obtain ⟨la,lb,ln,many,rows,bars,names,rfl,_⟩:=h
  rfl
 obtain ⟨la,lb,ln,many,rows,bars,names,rfl,⟨us,hla,hu⟩,hok,l24,hlb,hln,nd,l30,q⟩:=h
 refine pss_go (ps_lc (i:=5) [] ["_law_one"] [none] scLTakes.nd rfl (Or.inl rfl) rfl ⟨rfl,rfl,rfl,rfl⟩ (pi_list (pv 0)) (gown_name 0) rfl rfl rfl
   (fun pins fp s H C=>⟨pg_name (i:=0) ndOne rfl (Or.inl rfl) (.inr rfl),pif_one (pt_cmpR (r:=rIn K false) op_in_seq (pe_ix (r:=rIxT K) ix_tup (pv 0) pe_int (fun _ _=>rfl)) (pe_lst (ac pe_str (ac pe_str pa_nil))) (by with_unfolding_all rfl)),pv 0⟩)) ?_
 refine ⟨_,rfl,la,rfl,⟨_,SqL.of hla⟩,fun D5 hD5=>?_⟩
 refine lc_zip (K:=K) TAt (fun r=>byPl r.k) (fun u _=>.ref u) hD5 hla hu (by omega) (fun i u r H' N S hu' hr' tr sH n1 s1=>?_) (fun H1 s1 e1=>?_)
 ·have rk:=hok r (List.mem_of_getElem? hr')
  have tu:=sH _ _ tr
  refine ⟨_,rfl,u,_,0,_,rfl,rfl,SqT.of tu,row_at0 rk,(by show 2<=sizeLine; decide),fun l hl=>?_⟩
  have s2:=same_new hl (.lst [.str "seat",.str "both"])
  refine ⟨l,_,rfl,.inl (SqL.of upd_same),rfl,rfl,_,rfl,?_⟩
  rw [if_neg Bool.false_ne_true,in_pl' rk.1]
  exact ⟨fun e=>⟨_,rfl,n1 _ s2 e⟩,fun e=>s1 _ s2 e⟩
 obtain ⟨vs,ev,p1⟩:=zip_sel (tats_same s1 hu) fun r=>byPl r.k
 rw [ev] at e1
 have p1:Paired (TAt H1) vs (plcs rows):=p1
 have okp:∀ r ∈ plcs rows,r.ok/\(r.k = 0\/r.k = 1):=fun r hr=>by
  obtain ⟨a,b⟩:=List.mem_filter.mp hr
  refine ⟨hok r a,?_⟩
  unfold byPl at b
  rcases Bool.or_eq_true_iff.mp b with h | h
  ·exact .inl (by simpa using h)
  ·exact .inr (by simpa using h)
 have lp:(plcs rows).length<=24:=Nat.le_trans (List.length_filter_le _ _) l24
 have lv:vs.length = (plcs rows).length:=p1.length
 clear ev
 dsimp only [gName]
 refine pss_go (ps_lc (i:=6) [] ["_law_one"] [none] scLTakes.nd rfl (Or.inl rfl) rfl ⟨rfl,rfl,rfl,rfl⟩ (pi_list (pv 0)) (gown_name 0) rfl rfl rfl
   (fun pins fp s H C=>⟨pg_name (i:=0) ndOne rfl (Or.inl rfl) (.inr rfl),pif_nil,pe_ix (r:=rIxT K) ix_tup (pv 0) pe_int (fun _ _=>rfl)⟩)) ?_
 refine ⟨_,rfl,la,rfl,⟨_,SqL.of (s1 _ _ hla)⟩,fun D6 hD6=>?_⟩
 refine lc_zip (K:=K) TAt (fun _=>true) (fun _ r=>.str (kw r.k)) hD6 (s1 _ _ hla) (tats_same s1 hu) (by omega) (fun i u r H' N S hu' hr' tr sH n1 s1=>?_) (fun H2 s2 e2=>?_)
 ·exact ⟨fun _=>⟨_,rfl,u,_,0,_,rfl,rfl,SqT.of (sH _ _ tr),row_at0 (hok r (List.mem_of_getElem? hr')),n1 _ (Same.refl _) rfl⟩,fun e=>Bool.noConfusion e⟩
 rw [zip_out hu (fun _=>true) (fun r=>V.str (kw r.k)),List.filter_eq_self.mpr (fun _ _=>rfl),show rows.map (fun r=>V.str (kw r.k)) = (rows.map fun r=>kw r.k).map V.str by rw [List.map_map]; rfl] at e2
 have s12:=s1.trans s2
 have e1:=s2 _ _ e1
 have p1:=tats_same s2 p1
 dsimp only [gName]
 refine pss_go (ps_if (PW.pt (pw_or (pt_cmpR op_lt (cB call_len_setN U.len PySem.boot_len (ac (cTy (call_setT rfl) U.set PyProof.Rows.boot_set (ac (pv 3) pa_nil)) pa_nil)) (cB call_len_seq U.len PySem.boot_len (ac (pv 3) pa_nil)) (nomark _))
    (pw_or1 (PW.pt (pw_and (pt_cmpR op_gt (pv 2) (cB call_len_seq U.len PySem.boot_len (ac (pv 5) pa_nil)) (nomark _)) (pw_and1 (pt_cmpR op_notIn_seq pe_str (pv 6) (by with_unfolding_all rfl)))))))) (pss_one (ps_ret pe_bl)) pss_nil) ?_
 refine seq_via (fun σ' H'=>σ' = [some (.ref la),some (.ref lb),some (.int many),some (.ref ln),none,some (.ref D5),some (.ref D6),none,none,none]/\Same H2 H'/\(!(decide (plN rows < many) && !hasK rows 2)) = true) ?_ (fun key=>?_)
 rotate_left
 ·refine ⟨_,rfl,ln,_,rfl,SqL.of (s12 _ _ hln),by omega,fun l4 n4 hl4=>?_⟩
  have s4:=same_new hl4 (setO P w l4 (fun z=>decide (z ∈ names)) n4)
  refine ⟨l4,names,n4,rfl,upd_same,nd,fun l5=>?_⟩
  refine ⟨_,rfl,ln,_,rfl,.inl (SqL.of ((s12.trans s4) _ _ hln)),_,_,rfl,rfl,_,rfl,?_⟩
  refine iteC (decide_eq_false (by rw [List.length_map]; omega)) ?_
  refine ⟨_,rfl,_,rfl,D5,_,rfl,.inl (SqL.of (s4 _ _ e1)),_,_,rfl,rfl,_,rfl,?_⟩
  have el:(vs.map V.ref).length = plN rows:=by rw [List.length_map,lv]; rfl
  by_cases hm:plN rows < many
  ·refine iteB (decide_eq_true (by rw [el]; omega)) ?_
   refine ⟨_,rfl,D6,_,rfl,.inl (SqL.of (s4 _ _ e2)),rfl,flatStrs,_,rfl,?_⟩
   rw [if_pos rfl,inStrs,show decide (Str.ofString "tail" ∈ rows.map fun r=>kw r.k) = hasK rows 2 from in_sorts (k:=2) (by decide) hok]
   cases h2:hasK rows 2 with
   | true=>
    refine iteF ?_
    exact key _ _ ⟨rfl,s4,by rw [h2]; cases decide (plN rows < many) <;> rfl⟩
   | false=>
    refine iteT ?_
    have:=q _ (s12.trans s4)
    rw [show takesF rows bars many names = false by unfold takesF; rw [decide_eq_true hm,h2]; rfl] at this
    exact this
  ·refine iteC (decide_eq_false (by rw [el]; omega)) ?_
   refine iteF ?_
   exact key _ _ ⟨rfl,s4,by rw [decide_eq_false hm]; rfl⟩
 rintro σ3 H3 ⟨rfl,s3,first⟩
 have s13:=s12.trans s3
 have e1:=s3 _ _ e1
 have e2:=s3 _ _ e2
 have p1:=tats_same s3 p1
 have hu3:=tats_same s13 hu
 have okd:∀ r ∈ (plcs rows).drop many,r.ok:=fun r hr=>(okp r (List.mem_of_mem_drop hr)).1
 have okt:∀ r ∈ (plcs rows).take many,r.ok:=fun r hr=>(okp r (List.mem_of_mem_take hr)).1
 have ld:((plcs rows).drop many).length<=24:=by rw [List.length_drop]; omega
 have lt:((plcs rows).take many).length<=24:=by rw [List.length_take]; omega
 refine pss_go (ps_set (i:=7) scLTakes.nd rfl (Or.inl rfl) (pe_op op_cat (pe_lc [] ["_law_one"] [none] rfl ⟨rfl,rfl,rfl,rfl⟩ (pi_list (pe_slice sl_list (pv 5) (po_some (pv 2)) po_none)) (gown_name 0) rfl rfl rfl
   (fun pins fp s H C=>⟨pg_name (i:=0) ndOne rfl (Or.inl rfl) (.inr rfl),pif_one (pt_cmpR op_eq (pe_ix (r:=rIxT K) ix_tup (pv 0) pe_int (fun _ _=>rfl)) pe_str (nomark _)),pe_ix (r:=rIxT K) ix_tup (pv 0) pe_int (fun _ _=>rfl)⟩))
   (pe_lc [] ["_law_one"] [none] rfl ⟨rfl,rfl,rfl,rfl⟩ (pi_list (pv 0)) (gown_name 0) rfl rfl rfl
   (fun pins fp s H C=>⟨pg_name (i:=0) ndOne rfl (Or.inl rfl) (.inr rfl),pif_one (pt_cmpR op_eq (pe_ix (r:=rIxT K) ix_tup (pv 0) pe_int (fun _ _=>rfl)) pe_str (nomark _)),pe_ix (r:=rIxT K) ix_tup (pv 0) pe_int (fun _ _=>rfl)⟩)))) ?_
 refine ⟨_,rfl,_,rfl,_,rfl,D5,_,rfl,SqL.of e1,fun l4 hl4=>?_⟩
 rw [show cutV (vs.map V.ref) (some (many:Int)) none = (vs.drop many).map V.ref from cut_dropN.trans (List.map_drop ..).symm]
 have s4:=same_new hl4 (.lst ((vs.drop many).map V.ref))
 have g4:upd H3 l4 (.lst ((vs.drop many).map V.ref)) l4 = some (.lst ((vs.drop many).map V.ref)):=upd_same
 generalize upd H3 l4 (.lst ((vs.drop many).map V.ref)) = H4 at s4 g4 |-
 refine ⟨l4,rfl,⟨_,SqL.of g4⟩,fun Da hDa=>?_⟩
 refine lc_nmK 1 (by decide) rfl g4 (pairedDrop (tats_same s4 p1) many) okd ld hDa (fun H5 s5 ea=>?_)
 have s15:=s13.trans (s4.trans s5)
 refine ⟨_,rfl,la,rfl,⟨_,SqL.of (s15 _ _ hla)⟩,fun Db hDb=>?_⟩
 refine lc_nmK 3 (by decide) rfl (s15 _ _ hla) (tats_same s15 hu) hok l24 hDb (fun H6 s6 eb=>?_)
 refine ⟨Da,Db,_,_,rfl,rfl,s6 _ _ ea,eb,le1000 (by have h1:=List.length_filter_le (fun r:Rw=>r.k == 1) ((plcs rows).drop many); have h2:=List.length_filter_le (fun r:Rw=>r.k == 3) rows; simp only [List.length_map]; omega),fun D7 hD7=>?_⟩
 rw [<- List.map_append]
 have s7:=same_new hD7 (.lst ((lateF rows many).map V.str))
 have g7:upd H6 D7 (.lst ((lateF rows many).map V.str)) D7 = some (.lst ((lateF rows many).map V.str)):=upd_same
 change uAll _ _ _ _ (upd H6 D7 (.lst ((lateF rows many).map V.str)))
 generalize upd H6 D7 (.lst ((lateF rows many).map V.str)) = H7 at s7 g7 |-
 have s37:=s4.trans (s5.trans (s6.trans s7))
 have s17:=s13.trans s37
 have e1:=s37 _ _ e1
 have e2:=s37 _ _ e2
 have p1:=tats_same s37 p1
 refine pss_go (ps_lc (i:=8) [] ["_law_one"] [none] scLTakes.nd rfl (Or.inl rfl) rfl ⟨rfl,rfl,rfl,rfl⟩ (pi_list (pe_slice sl_list (pv 5) po_none (po_some (pv 2)))) (gown_name 0) rfl rfl rfl
   (fun pins fp s H C=>⟨pg_name (i:=0) ndOne rfl (Or.inl rfl) (.inr rfl),pif_one (pt_cmpR op_eq (pe_ix (r:=rIxT K) ix_tup (pv 0) pe_int (fun _ _=>rfl)) pe_str (nomark _)),pe_ix (r:=rIxT K) ix_tup (pv 0) pe_int (fun _ _=>rfl)⟩)) ?_
 refine ⟨_,rfl,_,rfl,_,rfl,D5,_,rfl,SqL.of e1,fun l8 hl8=>?_⟩
 rw [show cutV (vs.map V.ref) none (some (many:Int)) = (vs.take many).map V.ref from cut_takeN.trans (List.map_take ..).symm]
 have s8:=same_new hl8 (.lst ((vs.take many).map V.ref))
 have g8:upd H7 l8 (.lst ((vs.take many).map V.ref)) l8 = some (.lst ((vs.take many).map V.ref)):=upd_same
 generalize upd H7 l8 (.lst ((vs.take many).map V.ref)) = H8 at s8 g8 |-
 refine ⟨l8,rfl,⟨_,SqL.of g8⟩,fun D8 hD8=>?_⟩
 refine lc_nmK 1 (by decide) rfl g8 (pairedTake (tats_same s8 p1) many) okt lt hD8 (fun H9 s9 e8=>?_)
 have e8:H9 D8 = some (.lst ((goneF rows many).map V.str)):=e8
 have s79:=s8.trans s9
 have s19:=s17.trans s79
 have e1:=s79 _ _ e1
 have e2:=s79 _ _ e2
 have g7:=s79 _ _ g7
 have p1:=tats_same s79 p1
 clear s37 s17 s79 s8 s9 g8 hl8 hD8 s13 s12 s15 eb ea s4 s5 s6 s7 g4
 dsimp only [gName]
 have eT:takesF rows bars many names = ((!(decide (plN rows < many) && !hasK rows 2)) && names.all (fun z=>!badN rows bars many z) && ((plcs rows).drop many ++ tgs rows).all fun r=>!badR names r):=rfl
 rw [first,Bool.true_and] at eT
 have eB:∀ z,badN rows bars many z = (decide (z ∈ bars) || decide (z ∈ goneF rows many) || (decide (z ∉ lateF rows many) && !hasK rows 4)):=fun _=>rfl
 refine pss_go (ps_for PassesOwn.never rfl (pi_list (pv 3)) (pg_name (i:=9) scLTakes.nd rfl (Or.inl rfl))
   (pss_one (ps_if (PW.pt (pw_or (pt_cmpR op_in_seq (pv 9) (pv 1) (by with_unfolding_all rfl)) (pw_or (pt_cmpR op_in_seq (pv 9) (pv 8) (by with_unfolding_all rfl)) (pw_or1 (PW.pt (pw_and (pt_cmpR op_notIn_seq (pv 9) (pv 7) (by with_unfolding_all rfl)) (pw_and1 (pt_cmpR op_notIn_seq pe_str (pv 6) (by with_unfolding_all rfl))))))))) (pss_one (ps_ret pe_bl)) pss_nil))) ?_
 have hln9:=s19 _ _ hln
 have hlb9:=s19 _ _ hlb
 refine ⟨_,rfl,ln,rfl,⟨_,SqL.of hln9⟩,for_list (K:=K) (a:=ln) (xs:=names.map V.str) (fun i σ H'=>∃ v9,σ = [some (.ref la),some (.ref lb),some (.int many),some (.ref ln),none,some (.ref D5),some (.ref D6),some (.ref D7),some (.ref D8),v9]/\H' = H9/\(names.take i).all (fun z=>!badN rows bars many z) = true) ⟨_,rfl,rfl,rfl⟩ (fun i σ H' _ ⟨_,_,e,_⟩=>by rw [e]; exact SqL.of hln9) ?_ ?_⟩
 ·rintro i x σ H' hx ⟨v9,rfl,rfl,ha⟩
  obtain ⟨z,hz,rfl⟩:=strs_at hx
  have hi:i < names.length:=(List.getElem?_eq_some_iff.mp hz).1
  have ez:names[i] = z:=(List.getElem?_eq_some_iff.mp hz).2
  have bad:badN rows bars many z = true->Q (.bl false) H':=fun hb=>by
   have:=q H' s19
   rw [eT,show names.all (fun z=>!badN rows bars many z) = false from List.all_eq_false.mpr ⟨z,List.mem_of_getElem? hz,by rw [hb]; decide⟩] at this
   exact this
  have good:badN rows bars many z = false->(names.take (i + 1)).all (fun z=>!badN rows bars many z) = true:=fun hb=>by
   rw [List.take_succ_eq_append_getElem hi,ez,List.all_append,ha,List.all_cons,hb]
   rfl
  rw [eB] at bad good
  refine ⟨_,rfl,_,rfl,lb,_,rfl,.inl (SqL.of hlb9),rfl,flatStrs,_,rfl,?_⟩
  rw [if_neg Bool.false_ne_true,inStrs]
  cases h1:decide (z ∈ bars) with
  | true=>
   rw [h1] at bad
   refine iteT ?_
   refine iteT ?_
   exact bad rfl
  | false=>
  rw [h1,Bool.false_or] at bad good
  refine iteF ?_
  refine ⟨_,rfl,_,rfl,D8,_,rfl,.inl (SqL.of e8),rfl,flatStrs,_,rfl,?_⟩
  rw [if_neg Bool.false_ne_true,inStrs]
  cases h2:decide (z ∈ goneF rows many) with
  | true=>
   rw [h2] at bad
   refine iteT ?_
   refine iteT ?_
   exact bad rfl
  | false=>
  rw [h2,Bool.false_or] at bad good
  refine iteF ?_
  refine ⟨_,rfl,_,rfl,D7,_,rfl,.inl (SqL.of g7),rfl,flatStrs,_,rfl,?_⟩
  rw [if_pos rfl,inStrs]
  by_cases h3:z ∈ lateF rows many
  ·rw [decide_eq_true h3]
   rw [decide_eq_false (not_not_intro h3)] at good
   refine iteF ?_
   refine iteF ?_
   exact ⟨_,rfl,rfl,good rfl⟩
  ·rw [decide_eq_false h3]
   rw [decide_eq_true h3,Bool.true_and] at good bad
   refine iteT ?_
   refine ⟨_,rfl,D6,_,rfl,.inl (SqL.of e2),rfl,flatStrs,_,rfl,?_⟩
   rw [if_pos rfl,inStrs,show decide (Str.ofString "bag" ∈ rows.map fun r=>kw r.k) = hasK rows 4 from in_sorts (k:=4) (by decide) hok]
   cases h4:hasK rows 4 with
   | true=>
    rw [h4] at good
    refine iteF ?_
    exact ⟨_,rfl,rfl,good rfl⟩
   | false=>
    rw [h4] at bad
    refine iteT ?_
    exact bad rfl
 rintro σ H' ⟨v9,rfl,rfl,ha⟩
 rw [List.length_map,List.take_length] at ha
 rw [ha,Bool.true_and] at eT
 refine pss_go (ps_for PassesOwn.never rfl (pi_list (pe_op op_cat (pe_slice sl_list (pv 5) (po_some (pv 2)) po_none) (pe_lc [] ["_law_one"] [none] rfl ⟨rfl,rfl,rfl,rfl⟩ (pi_list (pv 0)) (gown_name 0) rfl rfl rfl
   (fun pins fp s H C=>⟨pg_name (i:=0) ndOne rfl (Or.inl rfl) (.inr rfl),pif_one (pt_cmpR op_eq (pe_ix (r:=rIxT K) ix_tup (pv 0) pe_int (fun _ _=>rfl)) pe_str (nomark _)),pv 0⟩)))) (pg_name (i:=4) scLTakes.nd rfl (Or.inl rfl))
   (pss_one (ps_if (PW.pt (pw_and (pt_not (pt_val (pe_ix (r:=rIxT K) ix_tup (pv 4) pe_int (fun _ _=>rfl)))) (pw_and1 (PW.pt (pw_or (pt_cmpR op_eq (pe_ix (r:=rIxT K) ix_tup (pv 4) pe_int (fun _ _=>rfl)) pe_str (nomark _)) (pw_or1 (pt_cmpR op_notIn_seq (pe_ix (r:=rIxT K) ix_tup (pv 4) pe_int (fun _ _=>rfl)) (pv 3) (by with_unfolding_all rfl)))))))) (pss_one (ps_ret pe_bl)) pss_nil))) ?_
 refine ⟨_,rfl,_,rfl,_,rfl,D5,_,rfl,SqL.of e1,fun l4 hl4=>?_⟩
 rw [show cutV (vs.map V.ref) (some (many:Int)) none = (vs.drop many).map V.ref from cut_dropN.trans (List.map_drop ..).symm]
 have s4:=same_new hl4 (.lst ((vs.drop many).map V.ref))
 have g4:upd H' l4 (.lst ((vs.drop many).map V.ref)) l4 = some (.lst ((vs.drop many).map V.ref)):=upd_same
 have p4:=pairedDrop (tats_same s4 p1) many
 generalize upd H' l4 (.lst ((vs.drop many).map V.ref)) = H4 at s4 g4 p4 |-
 have s14:=s19.trans s4
 refine ⟨_,rfl,la,rfl,⟨_,SqL.of (s14 _ _ hla)⟩,fun Db hDb=>?_⟩
 refine lc_rfK 3 (by decide) rfl (s14 _ _ hla) (tats_same s14 hu) hok l24 hDb (fun H6 ts s6 eb pb=>?_)
 have lts:ts.length<=24:=by rw [pb.length]; exact Nat.le_trans (List.length_filter_le _ _) l24
 refine ⟨l4,Db,_,_,rfl,rfl,s6 _ _ g4,eb,le1000 (by rw [List.length_map,List.length_map,List.length_drop]; omega),fun D9 hD9=>?_⟩
 rw [<- List.map_append]
 have s7:=same_new hD9 (.lst ((vs.drop many ++ ts).map V.ref))
 have g9:upd H6 D9 (.lst ((vs.drop many ++ ts).map V.ref)) D9 = some (.lst ((vs.drop many ++ ts).map V.ref)):=upd_same
 have pA:=tats_same s7 (paired_app (tats_same s6 p4) pb)
 generalize upd H6 D9 (.lst ((vs.drop many ++ ts).map V.ref)) = H7 at s7 g9 pA |-
 have s17:=s14.trans (s6.trans s7)
 have pA:Paired (TAt H7) (vs.drop many ++ ts) ((plcs rows).drop many ++ tgs rows):=pA
 have kA:∀ r ∈ (plcs rows).drop many ++ tgs rows,r.ok/\(r.k = 0\/r.k = 1\/r.k = 3):=fun r hr=>by
  rcases List.mem_append.mp hr with h | h
  ·obtain ⟨a,b⟩:=okp r (List.mem_of_mem_drop h)
   exact ⟨a,b.elim .inl fun e=>.inr (.inl e)⟩
  ·obtain ⟨a,b⟩:=List.mem_filter.mp h
   exact ⟨hok r a,.inr (.inr (by simpa using b))⟩
 have hln7:=s17 _ _ hln
 generalize vs.drop many ++ ts = us2 at g9 pA
 generalize (plcs rows).drop many ++ tgs rows = rs at pA kA eT
 refine ⟨D9,rfl,⟨_,SqL.of g9⟩,for_list (K:=K) (a:=D9) (xs:=us2.map V.ref) (fun i σ H'=>∃ v4,σ = [some (.ref la),some (.ref lb),some (.int many),some (.ref ln),v4,some (.ref D5),some (.ref D6),some (.ref D7),some (.ref D8),v9]/\H' = H7/\(rs.take i).all (fun r=>!badR names r) = true) ⟨_,rfl,rfl,rfl⟩ (fun i σ H' _ ⟨_,_,e,_⟩=>by rw [e]; exact SqL.of g9) ?_ ?_⟩
 ·rintro i x σ H' hx ⟨v4,rfl,rfl,ha⟩
  obtain ⟨u,hu',rfl⟩:=refs_at hx
  obtain ⟨r,hr',tr⟩:=paired_at pA hu'
  obtain ⟨rk,k3⟩:=kA r (List.mem_of_getElem? hr')
  have hi:i < rs.length:=(List.getElem?_eq_some_iff.mp hr').1
  have ez:rs[i] = r:=(List.getElem?_eq_some_iff.mp hr').2
  have eR:badR names r = (!r.b && (r.k == 0 || decide (r.z ∉ names))):=rfl
  have bad:badR names r = true->Q (.bl false) H':=fun hb=>by
   have:=q H' s17
   rw [eT,show rs.all (fun r=>!badR names r) = false from List.all_eq_false.mpr ⟨r,List.mem_of_getElem? hr',by rw [hb]; decide⟩] at this
   exact this
  have good:badR names r = false->(rs.take (i + 1)).all (fun r=>!badR names r) = true:=fun hb=>by
   rw [List.take_succ_eq_append_getElem hi,ez,List.all_append,ha,List.all_cons,hb]
   rfl
  rw [eR] at bad good
  refine ⟨_,rfl,u,_,2,_,rfl,rfl,SqT.of tr,row_at2 k3,_,rfl,?_⟩
  cases hb:r.b with
  | true=>
   rw [hb] at good
   refine iteF ?_
   refine iteF ?_
   exact ⟨_,rfl,rfl,good rfl⟩
  | false=>
  rw [hb] at good bad
  refine iteT ?_
  refine ⟨_,rfl,u,_,0,_,rfl,rfl,SqT.of tr,row_at0 rk,rfl,_,rfl,?_⟩
  rw [show decide (V.str (kw r.k) = V.str (Str.ofString "seat")) = (r.k == 0) from kw_inj 0 (by decide) r.k rk.1]
  cases h0:(r.k == 0) with
  | true=>
   rw [h0] at bad
   refine iteT ?_
   refine iteT ?_
   exact bad rfl
  | false=>
  rw [h0] at good bad
  refine iteF ?_
  refine ⟨_,rfl,u,_,1,_,rfl,rfl,SqT.of tr,row_at1 rk,_,rfl,ln,_,rfl,.inl (SqL.of hln7),rfl,flatStrs,_,rfl,?_⟩
  rw [if_pos rfl,inStrs]
  by_cases hn:r.z ∈ names
  ·rw [decide_eq_true hn]
   refine iteF ?_
   exact ⟨_,rfl,rfl,good (by rw [decide_eq_false (not_not_intro hn)]; rfl)⟩
  ·rw [decide_eq_false hn]
   refine iteT ?_
   exact bad (by rw [decide_eq_true hn]; rfl)
 rintro σ H' ⟨v4,rfl,rfl,ha2⟩
 rw [List.length_map,pA.length,List.take_length] at ha2
 rw [ha2] at eT
 rw [eT] at q
 exact ⟨_,pss_one (ps_ret pe_bl),q _ s17⟩
end
end K81
namespace L2
open PySem PySem.Spec PyProof.Rows
section
variable {prog:Program} {w:World} {κ : Type} [DecidableEq κ] {knd:HeapKind prog w κ} {A:Around} {E:Value->Shared->Prop} {s:Shared}
theorem setdef_heap {d a:Addr} {xs:List (κ × Addr × Value)} {k : κ} {v:Value} {Q:Value->Shared->Prop} (hu:knd.room A) (hkey:knd.is s.heap k a) (hm:s.heap.DictOfH knd d xs)
  (hthere:∀ p,atKey xs k = some p->Q p.2 { s with toks:=s.toks + knd.draws k })
  (hnew:atKey xs k = none->∀ h',h'.DictOfH knd d (storedH xs k a v)->Heap.SameBut d s.heap h'->Q v { s with heap:=h',toks:=s.toks + knd.draws k })
  (hsz:xs.length<=sizeLine):wpAny (model prog w) A (dictSetDefault d (.ref a) v) Q E s:=by
 obtain ⟨o,es,ep,ho,hc,hd,he,his,hn⟩:=hm
 unfold dictSetDefault
 try with_reducible refine wpAny_holding ?_
 refine wpAny_bind (knd.pyHash hu hkey ?_)
 refine wpAny_bind (wpAny_dictFind_heap (s:={ s with toks:=s.toks + knd.draws k }) hu hkey ho hd he his hn ?_ ?_)
 ·intro hno
  have hnot:k ∉ xs.map (·.1):=not_mem_keys_of_get hno
  have hst:=storedH_new (v:=v) (a:=a) (atKey_none_of_get hno)
  refine wpAny_bind (wpAny_rule (wpAny_bind (wpAny_updateDictKeys (hz:=by have e:=size_of_entries he; omega) (s:={ s with toks:=s.toks + knd.draws k }) ho hd (wpAny_pure (hnew (atKey_none_of_get hno) _ ⟨_,_,ep + 1,Heap.get?_update_self _ ho (Obj.isFreed_of_dict (Obj.data_mapDictKeys hd _)),
   hc.mapDictKeys _,Obj.data_mapDictKeys hd _,?_,?_,?_⟩ (Heap.SameBut.update ..))))))
  ·rw [storedH_new (atKey_none_of_get hno)]
   simp [he,entryOfKey]
  ·rw [storedH_new (atKey_none_of_get hno)]
   intro x hx
   rcases List.mem_append.mp hx with hx | hx
   ·exact knd.keeps (his x hx) ho hd (Heap.SameBut.update ..)
   ·simp only [List.mem_singleton] at hx
    subst hx
    exact knd.keeps hkey ho hd (Heap.SameBut.update ..)
  ·rw [storedH_new (atKey_none_of_get hno)]
   rw [List.map_append,List.nodup_append]
   refine ⟨hn,by simp,?_⟩
   intro x hx y hy
   simp only [List.map_cons,List.map_nil,List.mem_singleton] at hy
   subst hy
   exact fun e=>hnot (e ▸ hx)
 ·intro j p hj
  have ej:=entry_at he j
  rw [hj] at ej
  refine wpAny_bind (wpAny_dictEntries (s:={ s with toks:=s.toks + knd.draws k }) ho hd ?_)
  rw [ej]
  exact wpAny_bind (wpAny_rule (wpAny_pure (hthere p (atKey_of_get hn hj))))
theorem meetsH_setdef (knd:HeapKind prog w κ) (d a:Addr) (hd:(d == sysModules) = false) (dflt:Value) :
  MeetsIn prog w (Builtin.«dict.setdefault» ⟨[.ref d,.ref a,dflt],[]⟩) (fun A R s=>knd.room A.in1/\∃ k xs,knd.is s.heap k a/\s.heap.DictOfH knd d xs/\xs.length<=sizeLine/\
   (∀ p,atKey xs k = some p->R (.ok (.ret p.2)) { s with toks:=s.toks + knd.draws k })/\
   (atKey xs k = none->∀ h',h'.DictOfH knd d (storedH xs k a dflt)->Heap.SameBut d s.heap h'->R (.ok (.ret dflt)) { s with heap:=h',toks:=s.toks + knd.draws k })):=
 .of_wp fun A R s ⟨hu,k,xs,hkey,hm,hz,h1,h2⟩=>by
  unfold Builtin.«dict.setdefault»
  refine wpAny_bind ?_
  unfold Builtin.Dict.keyAndDefault
  refine wpAny_bind (wpAny_notOrdered_dict hm.typeIs ?_)
  show wpAny _ _ (pure (d,Value.ref a,some dflt)) _ _ s
  refine wpAny_pure ?_
  show wpAny _ _ (if (d == sysModules) = true then _ else (dictSetDefault d (.ref a) dflt >>= _)) _ _ s
  rw [if_neg (by rw [hd]; exact Bool.false_ne_true)]
  exact wpAny_bind (setdef_heap hu hkey hm (fun p hp=>wpAny_pure ⟨p.2,rfl,h1 p hp⟩) (fun hn h' hm' hs'=>wpAny_pure ⟨dflt,rfl,h2 hn h' hm' hs'⟩) hz)
end
theorem dB_ok {P:Program} {w:World} {H:Hp} {h:Heap} {a:Addr} {xs:List (List SB × Addr × Value)} (e:dBφ P w a xs h):ObjOk P w H h a (.ext (dBφ P w a xs)):=
 ⟨e,let ⟨o,_,_,h1,_⟩:=e; ⟨o,h1⟩,fun g1 g2 q k=>let ⟨o,es,ep,h1,c⟩:=q; ⟨o,es,ep,k o h1,c⟩⟩
def tD0B (P:Program) (w:World):TE:=fun _ H Q=>∀ a,H a = none->(a == sysModules) = false->Q (.ref a) (upd H a (.ext (dBφ P w a [])))
section
variable {X:Cx} {P:Program} {w:World} {pos:Pos}
theorem pe_d0B (hP:X.prog = P) (hw:X.w = w):PE X (.Dict [] [] pos) (tD0B P w):=by
 subst hP
 subst hw
 exact ⟨fun pins s σ H Q I h=>
 wpAny_Dict_empty ⟨.ref s.heap.objs.size,_,I.laid (a:=s.heap.objs.size) (o:=.ext (dBφ X.prog X.w s.heap.objs.size [])) (t':=s.toks) (fun _ _ q=>Heap.get?_push_of_some _ q) (Nat.le_refl _) (dB_ok ⟨_,#[],0,Heap.get?_push_size _ rfl,⟨rfl,rfl,rfl⟩,rfl,rfl,List.nodup_nil⟩),rfl,h _ (I.hok.fresh (Nat.le_refl _)) (beq_eq_false_iff_ne.mpr (Ne.symm (Nat.ne_of_lt I.big)))⟩⟩
def tSetB (P:Program) (w:World) (td:TE) (ta:TA):TE:=fun σ H Q=>td σ H fun x H1=>(∃ (a:Addr) (kvs:List (List SB × V)),x = .ref a/\DB P w H1 a kvs)/\ta σ H1 fun ys H2=>∃ (a b:Addr) (kvs:List (List SB × V)) (k:List SB) (v:V),x = .ref a/\ys = [.ref b,v]/\DB P w H2 a kvs/\(a == sysModules) = false/\kvs.length<=1000/\H2 b = some (.tup (k.map sbV))/\
 (∀ v',valV kvs k = some v'->Q v' H2)/\(valV kvs k = none->∀ H3,(∃ o,H3 = upd H2 a (.ext o))->DB P w H3 a (putK kvs k v)->Q v H3)
variable {o e1 e2:Expr} {td:TE} {ta:TA} {apos cpos:Pos}
theorem pe_setdB (hP:X.prog = P) (hw:X.w = w) (hu:X.A.units + 1 < cLine) (ho:PE X o td) (ha:PA X [e1,e2] ta)
  (hbase:attributeBase o "setdefault" X.env (eval o X.env) = eval o X.env:=by rfl)
  (hfew:((backTo cpos (starEach [e1,e2] X.env)).all (fun x=>!x.1) && (backToKw cpos (keywordEach [] X.env)).all (fun x=>x.1.isSome)
   && decide (([e1,e2]:List Expr).length + ([]:List Keyword).length + (if ([]:List Keyword).isEmpty then 0 else 1) < 30)) = true:=by rfl)
  (hline:(apos.endLine == cpos.line) = true:=by rfl) (hs:starEach [e1,e2] X.env = (false,eval e1 X.env) :: starEach [e2] X.env:=by rfl) (hplain:(backTo cpos (starEach [e2] X.env)).any (·.1) = false:=by rfl) :
  PE X (.Call (.Attribute o "setdefault" apos) [e1,e2] [] cpos) (tSetB P w td ta):=by
 subst hP
 subst hw
 refine ⟨?_⟩
 intro pins s σ H Q I h
 refine wpAny_Call_method_late hbase hfew hline rfl (thn (ho pins s σ H _ I h) fun u s1 ⟨x,H1,I1,r1,⟨a,kvs,ex,xs,exs,kb⟩,q1⟩=>?_)
 subst ex
 obtain rfl:u = Value.ref a:=r1
 have dd:=db_of I1.hok exs kb
 have nod:∀ b,Value.ref a = .ref b->∃ ob,s1.heap.get? b = some ob/\ob.dict = none:=fun b eb=>by
  cases eb
  obtain ⟨ob,_,_,g1,g2,_⟩:=dd
  exact ⟨ob,g1,g2.2.1⟩
 refine ⟨"dict","dict.setdefault",PySem.F.plainAttrs_dict,PySem.F.slot_dict_setdefault,PySem.F.type_dict_setdefault,dd.typeIs,nod,?_⟩
 have hA:=ha cpos pins s1 σ H1 _ I1 q1
 rw [hs] at hA |-
 refine Calls.callWith_builtin (by show (false || (backTo cpos (starEach [e2] X.env)).any (·.1)) = false; rw [hplain] <;> rfl) (Calls.evalArgs_plain ?_)
 refine thn hA fun us s2 ⟨vs,H2,I2,r2,a',b,kvs2,k,v,ea,ey,db2,hsys,l1000,hb,q2,q3⟩=>?_
 cases ea
 subst ey
 obtain ⟨u1,u2,rfl,ru1,ru2⟩:=vals2 r2
 obtain rfl:u1 = Value.ref b:=ru1
 obtain ⟨xs2,exs2,kb2⟩:=db2
 have dd2:=db_of I2.hok exs2 kb2
 have hval:=kb2.val k
 have lz:xs2.length<=sizeLine:=by
  have e1:=kb2.length
  have e2 : 1000<=sizeLine:=by decide
  omega
 refine call_meetsIn PySem.F.slot_dict_setdefault dd2.typeIs PySem.F.entry_dict_setdefault (PySem.F.args_dict_setdefault_3 _ _ _) (meetsH_setdef (tupleKind (sbKind X.prog X.w)) a b hsys u2) ⟨tupleKind_room_in1 hu,k,xs2,sb_key I2.hok hb,dd2,lz,fun p hp=>?_,fun hn h' hm' hs'=>?_⟩
 ·rw [hp] at hval
  cases ev:valV kvs2 k with
  | none=>rw [ev] at hval; exact absurd hval id
  | some v'=>
   rw [ev] at hval
   exact ⟨v',H2,I2.tok _,hval,q2 v' ev⟩
 ·rw [hn] at hval
  have ev:valV kvs2 k = none:=by
   cases ev:valV kvs2 k with
   | none=>rfl
   | some v'=>rw [ev] at hval; exact absurd hval id
  have kb3:=kb2.put k hb ru2
  have hφ : dBφ X.prog X.w a (storedH xs2 k b u2) h':=by
   obtain ⟨ob,es,ep,g1,g2,g3,g4,g5,g6⟩:=hm'
   exact ⟨ob,es,ep,g1,g2,g3,g4,g6⟩
  refine ⟨v,upd H2 a (.ext (dBφ X.prog X.w a (storedH xs2 k b u2))),?_,ru2,q3 ev _ ⟨_,rfl⟩ ⟨_,upd_same,Paired.mapP kb3 fun _ q z=>⟨z.1,?_,z.2.2⟩⟩⟩
  ·exact I2.write (x:=a) (e:=a) (by rw [exs2]; exact True.intro) (.inl rfl) (fun b' q' hb' z=>(hs'.2 b' hb').trans z) (let ⟨ob,_,_,g1,_⟩:=hφ; ⟨ob,g1⟩) (dB_ok hφ)
  ·rw [upd_ne (fun e=>by have:=z.2.1; rw [e,exs2] at this; cases this)]
   exact z.2.1
end
end L2
namespace K81
open PySem L2 PyProof.Rows
def rowK (r:Rw):List SB:=match r.k with
 | 0=>[.inl "seat",.inl r.z,.inr r.b] | 1=>[.inl "both",.inl r.z,.inr r.b] | 2=>[.inl "tail",.inl r.z] | 3=>[.inl "tag",.inl r.z,.inr r.b] | _=>[.inl "bag",.inl r.z]
theorem rowK_V {r:Rw}:(rowK r).map sbV = rv r:=by
 obtain ⟨k,z,b⟩:=r
 match k with
 | 0=>rfl
 | 1=>rfl
 | 2=>rfl
 | 3=>rfl
 | n + 4=>rfl
theorem kw_sb:∀ i:Nat,i < 5->∀ j:Nat,j < 5->kw i = kw j->i = j:=by decide +kernel
theorem rowK_hd {r:Rw}:(rowK r)[0]? = some (.inl (kw r.k)):=by
 obtain ⟨k,z,b⟩:=r
 match k with
 | 0=>rfl
 | 1=>rfl
 | 2=>rfl
 | 3=>rfl
 | n + 4=>rfl
theorem rowK_nm {r:Rw}:(rowK r)[1]? = some (.inl r.z):=by
 obtain ⟨k,z,b⟩:=r
 match k with
 | 0=>rfl
 | 1=>rfl
 | 2=>rfl
 | 3=>rfl
 | n + 4=>rfl
def sbB:Option SB->Bool
 | some (.inr b)=>b
 | _=>true
theorem rowK_fr {r:Rw}:fr r.k r.b = sbB ((rowK r)[2]?):=by
 obtain ⟨k,z,b⟩:=r
 match k with
 | 0=>rfl
 | 1=>rfl
 | 2=>rfl
 | 3=>rfl
 | n + 4=>rfl
theorem rowK_pat {c:C5} {H:Hp} {p:Addr} {r r':Rw} (h:rowK r = rowK r') (o:r.ok) (o':r'.ok) (hp:PAt c H p r'):PAt c H p r:=by
 have e1:kw r.k = kw r'.k:=by
  have h1:=rowK_hd (r:=r)
  rw [h,rowK_hd] at h1
  exact (Sum.inl.inj (Option.some.inj h1)).symm
 have e2:r.z = r'.z:=by
  have h1:=rowK_nm (r:=r)
  rw [h,rowK_nm] at h1
  exact (Sum.inl.inj (Option.some.inj h1)).symm
 have e3:fr r.k r.b = fr r'.k r'.b:=by rw [rowK_fr,rowK_fr,h]
 have ek:=kw_sb _ o.1 _ o'.1 e1
 obtain ⟨dx,hp⟩:=hp
 exact ⟨dx,by show H p = some (.ins (c.at r.k) dx (pf (kw r.k) (.str r.z) (fr r.k r.b))); rw [e3,e2,ek]; exact hp⟩
theorem PAt.ext {c:C5} {H:Hp} {v a:Addr} {r:Rw} {x:Heap->Prop} {o:HO} (h:PAt c H v r) (hD:H a = some (.ext x)):PAt c (L2.upd H a o) v r:=by
 obtain ⟨dx,h⟩:=h
 refine ⟨dx,?_⟩
 rw [upd_ne (fun e=>by rw [e,hD] at h; cases h)]
 exact h
theorem db_upd {P:Program} {w:World} {H:Hp} {a D:Addr} {ys:List V} {o:HO} {kvs:List (List SB × V)} (h:DB P w H a kvs) (hD:H D = some (.lst ys)):DB P w (L2.upd H D o) a kvs:=by
 obtain ⟨xs,e,kb⟩:=h
 refine ⟨xs,by rw [upd_ne (fun z=>by rw [z,hD] at e; cases e)]; exact e,Paired.mapP kb fun _ _ z=>⟨z.1,?_,z.2.2⟩⟩
 rw [upd_ne (fun e'=>by have:=z.2.1; rw [e',hD] at this; cases this)]
 exact z.2.1
theorem valV_putN {kvs:List (List SB × V)} {k k':List SB} {v v':V} (hn:valV kvs k = none) (h:valV (putK kvs k v) k' = some v'):valV kvs k' = some v'\/(k' = k/\v' = v):=by
 rw [putK_new v hn] at h
 unfold valV at h |-
 rw [List.find?_append] at h
 cases e:kvs.find? fun kv=>decide (kv.1 = k') with
 | some p=>rw [e] at h; exact .inl h
 | none=>
  rw [e] at h
  by_cases ek:k = k'
  ·rw [List.find?_cons_of_pos (by simpa using ek)] at h
   cases h
   exact .inr ⟨ek.symm,rfl⟩
  ·rw [List.find?_cons_of_neg (by simpa using ek)] at h
   cases h
theorem put_len {kvs:List (List SB × V)} {k:List SB} {v:V} (hn:valV kvs k = none):(putK kvs k v).length = kvs.length + 1:=by rw [putK_new v hn,List.length_append]; rfl
section
variable {P:Program} {w:World} {K:PySem.W.Frag} {mg:Str->Option Value} {base:Heap} {f CF:Addr} {fd:FuncData} {c:C5}
theorem ndOK:([Str.ofString "_law_one",Str.ofString "_law_kept"]:List Str).Nodup:=by decide +kernel
theorem scLForm:FnScope ["_law_row_here","_law_bars_here","_law_kept"] ["_law_row_here","_law_bars_here"] (defScope sForm):=⟨rfl,rfl,rfl,by decide +kernel,rfl,by decide +kernel,by decide +kernel⟩
theorem ok_lform {gF g1:Addr} {eF e1:FuncData} (F:Fun K "_law_form" "_law_form" sForm f fd) (hlst:mg "list" = none) (mCF:mg "Form" = some (.ref CF)) (MF:Mk K CF gF) (GF:FnOk P w K mg base CX0 3 gF eF ["self","parameters","bars"] (spFI c CF)) (bF:Binds K eF ["self","parameters","bars"] []) (cP:Callee P w K mg base 5 "parameter_of" g1 e1 ["told"] (spPof K c)):FnOk P w K mg base CX0 6 f fd ["_law_row_here","_law_bars_here"] (spLForm c CF):=by
 refine F.ok scLForm (fun vs H Q E h=>?_) (fun cdv A outer s H vs Q E hr h=>?_)
 ·obtain ⟨la,lb,rows,bars,rfl,_⟩:=h
  rfl
 obtain ⟨la,lb,rows,bars,rfl,⟨us,hla,hu⟩,hlb,V1,q⟩:=h
 have hr4:Room 4 _:=hr.mono (by decide)
 have hu1:=hu_of hr
 have lu:us.length = rows.length:=hu.length
 have l24:=V1.l24
 have l60:=V1.l60
 refine pss_go (ps_set (i:=2) scLForm.nd rfl (Or.inr rfl) (pe_d0B (P:=P) (w:=w) rfl rfl)) ?_
 intro kd hkd hsys
 dsimp only [gName]
 have s1:=same_new hkd (.ext (dBφ P w kd []))
 have g1:upd H kd (.ext (dBφ P w kd [])) kd = some (.ext (dBφ P w kd [])):=upd_same
 generalize upd H kd (.ext (dBφ P w kd [])) = H1 at s1 g1 |-
 have hla1:=s1 _ _ hla
 refine ⟨_,pss_one (ps_ret (pe_make MF GF hr4 rfl mCF bF .nil pass0 (ac (pe_lc ["_law_kept"] ["_law_one","_law_kept"] [none,some 2] rfl ⟨rfl,rfl,rfl,rfl⟩ (pi_list (pv 0)) (gown_name 0) rfl rfl rfl
   (fun pins fp s H C=>⟨pg_name (i:=0) ndOK rfl (Or.inl rfl) (.inr rfl),pif_nil,pe_setdB (P:=P) (w:=w) rfl rfl hu1 (pv 1) (ac (pv 0) (ac (cF cP hr (ac (pv 0) pa_nil)) pa_nil))⟩)) (ac (cTy call_list_of hlst PyProof.Rows.boot_list (ac (pv 1) pa_nil)) pa_nil)))),?_⟩
 refine ⟨_,rfl,la,rfl,⟨_,SqL.of hla1⟩,fun D hD=>?_⟩
 have neD:D ≠ kd:=fun e=>by rw [e,g1] at hD; cases hD
 have nD:H D = none:=s1.free hD
 refine lc_list (K:=K) (xs:=us.map V.ref) (fun i ys H'=>∃ (ps:List Addr) (kvs:List (List SB × V)),ys = ps.map V.ref/\Same H H'/\H' D = some (.lst ys)/\Paired (PAt c H') ps (rows.take i)/\DB P w H' kd kvs/\kvs.length<=i/\∀ k v,valV kvs k = some v->∃ r pa,r.ok/\k = rowK r/\v = .ref pa/\PAt c H' pa r)
  ⟨[],[],rfl,s1.trans (same_new hD _),upd_same,.nil,⟨[],by rw [upd_ne neD.symm]; exact g1,.nil⟩,Nat.le_refl _,(fun k v h=>by cases h)⟩ (fun i ys H' ⟨_,_,_,sH,_⟩=>SqL.of (sH _ _ hla)) ?_ ?_
 ·rintro i x ys H2 hi hx ⟨ps,kvs,rfl,s2,hD2,hp2,db2,lk,hv2⟩
  obtain ⟨u,hu',rfl⟩:=refs_at hx
  obtain ⟨r,hr',tr⟩:=paired_at hu hu'
  have rk:=V1.ok r (List.mem_of_getElem? hr')
  have hil:i < rows.length:=(List.getElem?_eq_some_iff.mp hr').1
  have er:rows[i] = r:=(List.getElem?_eq_some_iff.mp hr').2
  have lps:ps.length<=i:=by rw [hp2.length,List.length_take]; omega
  refine ⟨fun _=>?_,fun e=>Bool.noConfusion e⟩
  refine ⟨_,rfl,⟨kd,kvs,rfl,db2⟩,_,rfl,_,rfl,u,r.k,.str r.z,r.b,rfl,rk.1,s2 _ _ tr,.inl ⟨r.z,rfl,nameB_ok rk.2⟩,rk.2,fun pa dx H3 s3 ho=>?_⟩
  have pa3:PAt c H3 pa r:=⟨dx,ho⟩
  have s23:=s2.trans s3
  have db3:=db2.same s3
  refine ⟨kd,u,kvs,rowK r,.ref pa,rfl,rfl,db3,hsys,by omega,by rw [rowK_V]; exact s23 _ _ tr,fun v' hv'=>?_,fun hn H4 ⟨o4,e4⟩ db4=>?_⟩
  ·obtain ⟨r',pa',rk',ek,ev,hp'⟩:=hv2 _ _ hv'
   subst ev
   have hq:PAt c H3 pa' r:=(rowK_pat ek rk rk' hp').same s3
   refine lcN.mk hi (le1000 (by rw [List.length_map]; omega)) (s3 _ _ hD2) (by rw [List.length_map]; exact lps) ⟨ps ++ [pa'],kvs,by rw [List.map_append]; rfl,same_upd2 s23 nD,upd_same,?_,?_,by omega,fun k v hkv=>?_⟩
   ·rw [List.take_succ_eq_append_getElem hil,er]
    exact Paired.snoc (Paired.imp' (fun _ _ z=>PAt.upd (z.same s3) (s3 _ _ hD2)) hp2) (PAt.upd hq (s3 _ _ hD2))
   ·exact db_upd db3 (s3 _ _ hD2)
   ·obtain ⟨r1,p1,a1,a2,a3,a4⟩:=hv2 k v hkv
    exact ⟨r1,p1,a1,a2,a3,PAt.upd (a4.same s3) (s3 _ _ hD2)⟩
  ·obtain ⟨xs3,ex3,_⟩:=id db3
   have s4:Same H H4:=by rw [e4]; exact same_upd2 s23 hkd
   have hD4:H4 D = some (.lst (ps.map V.ref)):=by rw [e4,upd_ne neD]; exact s3 _ _ hD2
   have ups:∀ {v:Addr} {r:Rw},PAt c H3 v r->PAt c H4 v r:=fun z=>by rw [e4]; exact PAt.ext z ex3
   refine lcN.mk hi (le1000 (by rw [List.length_map]; omega)) hD4 (by rw [List.length_map]; exact lps) ⟨ps ++ [pa],_,by rw [List.map_append]; rfl,same_upd2 s4 nD,upd_same,?_,db_upd db4 hD4,by rw [put_len hn]; omega,fun k v hkv=>?_⟩
   ·rw [List.take_succ_eq_append_getElem hil,er]
    exact Paired.snoc (Paired.imp' (fun _ _ z=>PAt.upd (ups (z.same s3)) hD4) hp2) (PAt.upd (ups pa3) hD4)
   ·rcases valV_putN hn hkv with h | ⟨h1,h2⟩
    ·obtain ⟨r1,p1,a1,a2,a3,a4⟩:=hv2 k v h
     exact ⟨r1,p1,a1,a2,a3,PAt.upd (ups (a4.same s3)) hD4⟩
    ·exact ⟨r,pa,rk,h1,h2,PAt.upd (ups pa3) hD4⟩
 ·rintro ys H2 ⟨ps,kvs,rfl,s2,hD2,hp2,db2,lk,hv2⟩
  rw [List.length_map,lu,List.take_length] at hp2
  refine ⟨_,rfl,lb,_,rfl,.inl (SqL.of (s2 _ _ hlb)),fun l2 hl2=>?_⟩
  have s3:=same_new hl2 (.lst (bars.map V.str))
  have g2:upd H2 l2 (.lst (bars.map V.str)) l2 = some (.lst (bars.map V.str)):=upd_same
  have e2:=s3 _ _ hD2
  have p2:=pats_same s3 hp2
  have s02:=s2.trans s3
  generalize upd H2 l2 (.lst (bars.map V.str)) = H3 at s3 g2 e2 p2 s02 |-
  intro x dx hx hdx hne
  have smk:Same H3 (upd (upd H3 dx (.own x)) x (.ins CF dx [])):=same_make0 hx hdx
  have hx1:upd (upd H3 dx (.own x)) x (.ins CF dx []) x = some (.ins CF dx []):=upd_same
  generalize upd (upd H3 dx (.own x)) x (.ins CF dx []) = H5 at smk hx1 |-
  refine ⟨x,D,dx,.ref l2,ps,rows,bars,rfl,hx1,smk _ _ e2,pats_same smk p2,.inr ⟨l2,rfl,smk _ _ g2⟩,V1,fun H6 sx F6 L6=>?_⟩
  exact ⟨rfl,q x H6 (fun b' u e=>sx b' u (smk _ _ (s02 _ _ e)) (ne_of_none (s02 _ _ e) hx)) ⟨let ⟨dx,fs,lr,lb,ld,ps,h1,h2,h3,h4,h5,h6,_,_⟩:=F6; ⟨dx,fs,lr,lb,ld,ps,h1,h2,h3,h4,h5,h6⟩,by omega,by omega,V1.ok⟩⟩
end
theorem acc_more {zs n X:List Str} {b:Bool} {z:Str} (h:Proper zs n b X):acc (some (n,b,X)) (n ++ [z]) = (decide (z ∈ X) != b):=by
 show (n.all (fun y=>decide (y ∈ n ++ [z])) && (n ++ [z]).all (fun y=>if b = true then decide (y ∉ X) else decide (y ∈ X))) = _
 rw [List.all_append,List.all_eq_true.mpr (fun y hy=>decide_eq_true (List.mem_append_left _ hy)),Bool.true_and]
 have e:n.all (fun z=>if b = true then decide (z ∉ X) else decide (z ∈ X)) = true:=List.all_eq_true.mpr fun y hy=>by
  have:=h.in_ y hy
  cases b with
  | true=>rw [if_pos rfl]; exact decide_eq_true (by rw [this]; exact fun e=>by cases e)
  | false=>rw [if_neg Bool.false_ne_true]; exact decide_eq_true (by rw [this])
 rw [e,Bool.true_and,List.all_cons,List.all_nil,Bool.and_true]
 by_cases hz:z ∈ X <;> cases b <;> simp [hz]
def ToldAt (K:PySem.W.Frag) (H:Hp) (t:Addr) (n:List Str) (b:Bool) (X:List Str):Prop:=∃ l0 l2:Addr,SqT K H t [.ref l0,.bl b,.ref l2]/\H l0 = some (.lst (n.map V.str))/\H l2 = some (.lst (X.map V.str))
theorem ToldAt.same {K:PySem.W.Frag} {H H':Hp} {t:Addr} {n:List Str} {b:Bool} {X:List Str} (h:ToldAt K H t n b X) (s:Same H H'):ToldAt K H' t n b X:=let ⟨l0,l2,h1,h2,h3⟩:=h; ⟨l0,l2,s.sqT h1,s _ _ h2,s _ _ h3⟩
def spMay (K:PySem.W.Frag):Sp:=fun vs H Q _=>∃ (la lb t pa:Addr) (many:Nat) (D:FD) (bars zs n X:List Str) (b:Bool),vs = [.ref la,.ref lb,.int many,.ref t,.ref pa]/\RowsAt H la D.rows/\H lb = some (.lst (bars.map V.str))/\ToldAt K H t n b X/\H pa = some (.lst (zs.map V.str))/\zs.length<=26/\FDok zs D bars/\(∀ r ∈ D.rows,r.ok)/\D.rows.length<=24/\n.length<=26/\Proper zs n b X/\(∀ names,takesF D.rows bars many names = acc (some (n,b,X)) names)/\∀ H',Same H H'->Q (.bl true) H'
section
variable {P:Program} {w:World} {K:PySem.W.Frag} {mg:Str->Option Value} {base:Heap} {f:Addr} {fd:FuncData}
theorem scMay:FnScope ["_law_row_here","_law_bars_here","_law_many","_law_told","_law_pool_here","_law_name","_law_comes"] ["_law_row_here","_law_bars_here","_law_many","_law_told","_law_pool_here"] (defScope sMay):=⟨rfl,rfl,rfl,by decide +kernel,rfl,by decide +kernel,by decide +kernel⟩
theorem ok_may {g1:Addr} {e1:FuncData} (F:Fun K "_law_may_come" "_law_may_come" sMay f fd) (cT:Callee P w K mg base 1 "_law_takes" g1 e1 ["_law_row_here","_law_bars_here","_law_many","_law_names"] spTakes):FnOk P w K mg base CX0 2 f fd ["_law_row_here","_law_bars_here","_law_many","_law_told","_law_pool_here"] (spMay K):=by
 refine F.ok scMay (fun vs H Q E h=>?_) (fun cdv A outer s H vs Q E hr h=>?_)
 ·obtain ⟨la,lb,t,pa,many,D,bars,zs,n,X,b,rfl,_⟩:=h
  rfl
 obtain ⟨la,lb,t,pa,many,D,bars,zs,n,X,b,rfl,hla,hlb,⟨l0,l2,ht,h0,h2⟩,hpa,z26,fd,hok,l24,n24,pr,htk,q⟩:=h
 refine pss_go (ps_for PassesOwn.never rfl (pi_list (pe_op op_cat (pv 4) (pe_lst (ac pe_str pa_nil)))) (pg_name (i:=5) scMay.nd rfl (Or.inl rfl))
  (pss_one (ps_if (pt_cmpR op_notIn_seq (pv 5) (pe_ix (r:=rIxT K) ix_tup (pv 3) pe_int (fun _ _=>rfl)) (by with_unfolding_all rfl)) (pss_cons (ps_set (i:=6) scMay.nd rfl (Or.inl rfl) (pe_cmpR op_ne (pe_cmpR (r:=rIn K false) op_in_seq (pv 5) (pe_ix (r:=rIxT K) ix_tup (pv 3) pe_int (fun _ _=>rfl)) (by with_unfolding_all rfl)) (pe_ix (r:=rIxT K) ix_tup (pv 3) pe_int (fun _ _=>rfl)) (nomark _)))
   (pss_one (ps_if (pt_cmpR op_ne (cF cT hr (ac (pv 0) (ac (pv 1) (ac (pv 2) (ac (pe_op op_cat (pe_ix (r:=rIxT K) ix_tup (pv 3) pe_int (fun _ _=>rfl)) (pe_lst (ac (pv 5) pa_nil))) pa_nil))))) (pv 6) (nomark _)) (pss_one (ps_ret pe_bl)) pss_nil))) pss_nil))) ?_
 refine ⟨_,rfl,(by show 1<=sizeLine; decide),fun l5 hl5=>?_⟩
 have s1:=same_new hl5 (.lst [.str (Str.ofString "strange")])
 refine ⟨pa,l5,_,_,rfl,rfl,s1 _ _ hpa,upd_same,le1000 (by rw [List.length_map]; show zs.length + 1<=1000; omega),fun l6 hl6=>?_⟩
 rw [show zs.map V.str ++ [.str (Str.ofString "strange")] = (zs ++ [Str.ofString "strange"]).map V.str by rw [List.map_append]; rfl]
 have s2:=same_new hl6 (.lst ((zs ++ [Str.ofString "strange"]).map V.str))
 have g2:upd (upd H l5 (.lst [.str (Str.ofString "strange")])) l6 (.lst ((zs ++ [Str.ofString "strange"]).map V.str)) l6 = some (.lst ((zs ++ [Str.ofString "strange"]).map V.str)):=upd_same
 have s02:=s1.trans s2
 generalize upd (upd H l5 (.lst [.str (Str.ofString "strange")])) l6 (.lst ((zs ++ [Str.ofString "strange"]).map V.str)) = H2 at s2 g2 s02 |-
 generalize zs ++ [Str.ofString "strange"] = ws at g2 |-
 refine ⟨l6,rfl,⟨_,SqL.of g2⟩,for_list (K:=K) (a:=l6) (xs:=ws.map V.str) (fun i σ H'=>∃ (v5 v6:Option V),σ = [some (.ref la),some (.ref lb),some (.int many),some (.ref t),some (.ref pa),v5,v6]/\Same H2 H') ⟨_,_,rfl,Same.refl _⟩ (fun i σ H' _ ⟨_,_,_,sH⟩=>SqL.of (sH _ _ g2)) ?_ ?_⟩
 ·rintro i x σ H3 hx ⟨v5,v6,rfl,s3⟩
  obtain ⟨z,hz,rfl⟩:=strs_at hx
  have s03:=s02.trans s3
  refine ⟨_,rfl,_,rfl,t,_,0,.ref l0,rfl,rfl,s03.sqT ht,rfl,l0,_,rfl,.inl (SqL.of (s03 _ _ h0)),rfl,flatStrs,_,rfl,?_⟩
  rw [if_pos rfl,inStrs]
  by_cases hn:z ∈ n
  ·rw [decide_eq_true hn]
   refine iteF ?_
   exact ⟨_,_,rfl,s3⟩
  rw [decide_eq_false hn]
  refine iteT ?_
  refine ⟨_,rfl,_,rfl,t,_,2,.ref l2,rfl,rfl,s03.sqT ht,rfl,l2,_,rfl,.inl (SqL.of (s03 _ _ h2)),rfl,flatStrs,?_⟩
  rw [if_neg Bool.false_ne_true,inStrs]
  refine ⟨_,rfl,t,_,1,.bl b,rfl,rfl,s03.sqT ht,rfl,rfl,?_⟩
  dsimp only [gName]
  refine ⟨_,rfl,_,rfl,_,rfl,_,rfl,t,_,0,.ref l0,rfl,rfl,s03.sqT ht,rfl,_,rfl,(by show 1<=sizeLine; decide),fun l7 hl7=>?_⟩
  have s4:=same_new hl7 (.lst [.str z])
  refine ⟨l0,l7,_,_,rfl,rfl,(s03.trans s4) _ _ h0,upd_same,le1000 (by rw [List.length_map]; show n.length + 1<=1000; omega),fun l8 hl8=>?_⟩
  rw [show n.map V.str ++ [.str z] = (n ++ [z]).map V.str by rw [List.map_append]; rfl]
  have s5:=same_new hl8 (.lst ((n ++ [z]).map V.str))
  have s05:=s03.trans (s4.trans s5)
  refine ⟨la,lb,l8,many,D.rows,bars,n ++ [z],rfl,hla.same s05,hok,l24,s05 _ _ hlb,upd_same,List.nodup_append.mpr ⟨pr.dn,by simp,fun x hx y hy e=>hn (by rw [<- List.mem_singleton.mp hy,<- e]; exact hx)⟩,by rw [List.length_append]; show n.length + 1<=30; omega,fun H6 s6=>?_⟩
  rw [htk,acc_more pr]
  refine ⟨_,rfl,rfl,_,rfl,?_⟩
  refine iteC ?_ ⟨_,_,rfl,s3.trans (s4.trans (s5.trans s6))⟩
  by_cases hX:z ∈ X <;> cases b <;> simp [hX]
 ·rintro σ H3 ⟨v5,v6,rfl,s3⟩
  exact ⟨_,pss_one (ps_ret pe_bl),q _ (s02.trans s3)⟩
end
section
variable {K:PySem.W.Frag} {ok:Addr->Prop} {H:Hp}
theorem says_strT {n:Nat} {x:V} {z:Str} (h:Says K ok H n x (.str z)):x = .str z:=by
 have fl:FlatD x (.str z)->x = .str z:=fun h=>by cases x <;> first | exact h.elim | exact congrArg V.str h
 cases n with
 | zero=>exact fl h
 | succ n=>
  rcases h with h | ⟨a,xs,ds,_,e,_⟩ | ⟨a,xs,ds,_,e,_⟩
  ·exact fl h
  ·cases e
  ·cases e
theorem says_bl {n:Nat} {x:V} {z:Bool} (h:Says K ok H n x (.bl z)):x = .bl z:=by
 have fl:FlatD x (.bl z)->x = .bl z:=fun h=>by cases x <;> first | exact h.elim | exact congrArg V.bl h
 cases n with
 | zero=>exact fl h
 | succ n=>
  rcases h with h | ⟨a,xs,ds,_,e,_⟩ | ⟨a,xs,ds,_,e,_⟩
  ·exact fl h
  ·cases e
  ·cases e
theorem says_non {n:Nat} {x:V} (h:Says K ok H n x .non):x = .non:=by
 have fl:FlatD x .non->x = .non:=fun h=>by cases x <;> first | exact h.elim | rfl
 cases n with
 | zero=>exact fl h
 | succ n=>
  rcases h with h | ⟨a,xs,ds,_,e,_⟩ | ⟨a,xs,ds,_,e,_⟩
  ·exact fl h
  ·cases e
  ·cases e
theorem says_strs {n:Nat}:∀ {zs:List Str} {vs:List V},Paired (Says K ok H n) vs (zs.map Dt.str)->vs = zs.map V.str
 | [],_,.nil=>rfl
 | _ :: _,_,.cons h t=>by rw [says_strT h,says_strs t]; rfl
theorem says_lstT {n:Nat} {x:V} {zs:List Str} (h:Says K ok H (n + 1) x (.lst (zs.map Dt.str))):∃ l,x = .ref l/\ok l/\H l = some (.lst (zs.map V.str)):=by
 rcases h with h | ⟨a,xs,ds,_,e,_⟩ | ⟨a,xs,ds,ex,e,oa,ha,p⟩
 ·cases x <;> exact h.elim
 ·cases e
 ·cases e
  rw [says_strs p] at ha
  exact ⟨a,ex,oa,ha⟩
theorem told_of {m:Nat} {v:V} {n X:List Str} {b:Bool} (h:Says K ok H (m + 2) v (rowD (some (n,b,X)))):∃ t l0 l2,v = .ref t/\SqT K H t [.ref l0,.bl b,.ref l2]/\ok l0/\ok l2/\H l0 = some (.lst (n.map V.str))/\H l2 = some (.lst (X.map V.str)):=by
 rcases h with h | ⟨a,xs,ds,ex,e,hs,p⟩ | ⟨a,xs,ds,_,e,_⟩
 ·cases v <;> exact h.elim
 ·cases e
  cases p with
  | cons h1 p=>cases p with
   | cons h2 p=>cases p with
    | cons h3 p=>
     cases p
     obtain ⟨l0,e0,o0,g0⟩:=says_lstT h1
     have e1:=says_bl h2
     obtain ⟨l2,e2,o2,g2⟩:=says_lstT h3
     subst e0 e1 e2
     exact ⟨a,l0,l2,ex,hs,o0,o2,g0,g2⟩
 ·cases e
end
def spCopied (K:PySem.W.Frag):Sp:=fun vs H Q _=>∃ (lr:Addr) (ws:List V) (rs:List TR) (ok:Addr->Prop),vs = [.ref lr]/\H lr = some (.lst ws)/\Paired (Says K ok H 2) ws (rs.map rowD)/\rs.length<=30/\
 ∀ (l:Addr) (vs':List V) (H':Hp),Same H H'->H l = none->H' l = some (.lst vs')->Paired (Says K (fun a=>a ≠ l/\H a = none) H' 2) vs' (rs.map rowD)->Q (.ref l) H'
section
variable {P:Program} {w:World} {K:PySem.W.Frag} {mg:Str->Option Value} {base:Heap} {f:Addr} {fd:FuncData}
theorem scCopied:FnScope ["_law_rows","_law_found","_law_told"] ["_law_rows"] (defScope sCopied):=⟨rfl,rfl,rfl,by decide +kernel,rfl,by decide +kernel,by decide +kernel⟩
theorem ok_copied (F:Fun K "_law_copied" "_law_copied" sCopied f fd) (hls:mg "list" = none):FnOk P w K mg base CX0 1 f fd ["_law_rows"] (spCopied K):=by
 refine F.ok scCopied (fun vs H Q E h=>?_) (fun cdv A outer s H vs Q E hr h=>?_)
 ·obtain ⟨lr,ws,rs,ok,rfl,_⟩:=h
  rfl
 obtain ⟨lr,ws,rs,ok,rfl,hlr,hp,l30,q⟩:=h
 have lw:ws.length = rs.length:=by rw [hp.length,List.length_map]
 refine pss_go (ps_set (i:=1) scCopied.nd rfl (Or.inl rfl) (pe_lst pa_nil)) ?_
 refine ⟨(by show 0<=sizeLine; decide),fun lf hlf=>?_⟩
 have s1:=same_new hlf (.lst [])
 have g1:upd H lf (.lst []) lf = some (.lst []):=upd_same
 generalize upd H lf (.lst []) = H1 at s1 g1 |-
 dsimp only [gName]
 refine pss_go (ps_for PassesOwn.never rfl (pi_list (pv 0)) (pg_name (i:=2) scCopied.nd rfl (Or.inl rfl))
  (pss_one (ps_if (pt_cmp (pc_isN (pv 2))) (pss_one (ps_expr (pe_bm PySem.F.plainAttrs_list PySem.F.slot_list_append PySem.F.type_list_append mt_append (pv 1) (ac pe_non pa_nil))))
   (pss_one (ps_expr (pe_bm PySem.F.plainAttrs_list PySem.F.slot_list_append PySem.F.type_list_append mt_append (pv 1) (ac (pe_tup (ac (cTy call_list_of hls PyProof.Rows.boot_list (ac (pe_ix (r:=rIxT K) ix_tup (pv 2) pe_int (fun _ _=>rfl)) pa_nil)) (ac (pe_ix (r:=rIxT K) ix_tup (pv 2) pe_int (fun _ _=>rfl)) (ac (cTy call_list_of hls PyProof.Rows.boot_list (ac (pe_ix (r:=rIxT K) ix_tup (pv 2) pe_int (fun _ _=>rfl)) pa_nil)) pa_nil)))) pa_nil))))))) ?_
 refine ⟨_,rfl,lr,rfl,⟨_,SqL.of (s1 _ _ hlr)⟩,for_list (K:=K) (a:=lr) (xs:=ws) (fun i σ H'=>∃ (v2:Option V) (vs:List V),σ = [some (.ref lr),some (.ref lf),v2]/\Same H H'/\H' lf = some (.lst vs)/\Paired (Says K (fun a=>a ≠ lf/\H a = none) H' 2) vs ((rs.take i).map rowD)) ⟨_,[],rfl,s1,g1,.nil⟩ (fun i σ H' _ ⟨_,_,_,sH,_⟩=>SqL.of (sH _ _ hlr)) ?_ ?_⟩
 ·rintro i x σ H2 hx ⟨v2,vs,rfl,s2,hl2,pv2⟩
  obtain ⟨d,hd,sx⟩:=Paired.get hp hx
  rw [List.getElem?_map] at hd
  obtain ⟨r,hr',rfl⟩:=Option.map_eq_some_iff.mp hd
  have hi:i < rs.length:=(List.getElem?_eq_some_iff.mp hr').1
  have er:rs[i] = r:=(List.getElem?_eq_some_iff.mp hr').2
  have lv:vs.length<=i:=by rw [pv2.length,List.length_map,List.length_take]; omega
  have tk:(rs.take (i + 1)).map rowD = (rs.take i).map rowD ++ [rowD r]:=by rw [List.take_succ_eq_append_getElem hi,er,List.map_append]; rfl
  cases r with
  | none=>
   have ex:=says_non sx
   subst ex
   refine ⟨_,rfl,_,rfl,?_⟩
   refine iteB (decide_eq_true rfl) ?_
   refine ⟨_,rfl,.inl ⟨rfl,_,SqL.of hl2⟩,lf,_,_,rfl,rfl,hl2,small1000 (by omega),?_⟩
   refine ⟨_,vs ++ [.non],rfl,same_upd2 s2 hlf,upd_same,?_⟩
   rw [tk]
   exact Paired.snoc (Paired.imp' (fun _ _ z=>says_grow hl2 (fun b o=>⟨o,o.1⟩) z) pv2) Says.non
  | some v=>
   obtain ⟨n,b,X⟩:=v
   obtain ⟨t,l0,l2,ex,ht,_,_,h0,h2⟩:=told_of (m:=0) sx
   subst ex
   refine ⟨_,rfl,_,rfl,?_⟩
   refine iteC (decide_eq_false (fun c=>by cases c)) ?_
   refine ⟨_,rfl,.inl ⟨rfl,_,SqL.of hl2⟩,_,rfl,t,_,0,.ref l0,rfl,rfl,s2.sqT ht,rfl,l0,_,rfl,.inl (SqL.of (s2 _ _ h0)),fun n0 hn0=>?_⟩
   have s3:=same_new hn0 (.lst (n.map V.str))
   have g3:upd H2 n0 (.lst (n.map V.str)) n0 = some (.lst (n.map V.str)):=upd_same
   have s03:=s2.trans s3
   have e0:n0 ≠ lf/\H n0 = none:=⟨fun e=>(by rw [e,hl2] at hn0; cases hn0),s2.free hn0⟩
   generalize upd H2 n0 (.lst (n.map V.str)) = H3 at s3 g3 s03 |-
   refine ⟨_,rfl,t,_,1,.bl b,rfl,rfl,s03.sqT ht,rfl,_,rfl,t,_,2,.ref l2,rfl,rfl,s03.sqT ht,rfl,l2,_,rfl,.inl (SqL.of (s03 _ _ h2)),fun n2 hn2=>?_⟩
   have s4:=same_new hn2 (.lst (X.map V.str))
   have g4:upd H3 n2 (.lst (X.map V.str)) n2 = some (.lst (X.map V.str)):=upd_same
   have s04:=s03.trans s4
   have e2:n2 ≠ lf/\H n2 = none:=⟨fun e=>(by rw [e,s3 _ _ hl2] at hn2; cases hn2),s03.free hn2⟩
   generalize upd H3 n2 (.lst (X.map V.str)) = H4 at s4 g4 s04 |-
   refine ⟨(by show 3<=sizeLine; decide),fun tt htt=>?_⟩
   have s5:=same_new htt (.tup [.ref n0,.bl b,.ref n2])
   have g5:upd H4 tt (.tup [.ref n0,.bl b,.ref n2]) tt = some (.tup [.ref n0,.bl b,.ref n2]):=upd_same
   have s05:=s04.trans s5
   have s25:=s3.trans (s4.trans s5)
   have g3:=(s4.trans s5) _ _ g3
   have g4:=s5 _ _ g4
   generalize upd H4 tt (.tup [.ref n0,.bl b,.ref n2]) = H5 at s5 g5 s05 s25 g3 g4 |-
   have hl5:=s25 _ _ hl2
   refine ⟨lf,_,_,rfl,rfl,hl5,small1000 (by omega),?_⟩
   refine ⟨_,vs ++ [.ref tt],rfl,same_upd2 s05 hlf,upd_same,?_⟩
   rw [tk]
   refine Paired.snoc (Paired.imp' (fun _ _ z=>says_grow hl5 (fun b o=>⟨o,o.1⟩) (z.same s25)) pv2) (says_grow hl5 (fun b o=>⟨o,o.1⟩) ?_)
   exact Says.tup (SqT.of g5) (.cons (Says.lst e0 g3 (strs_says _)) (.cons Says.bl (.cons (Says.lst e2 g4 (strs_says _)) .nil)))
 ·rintro σ H2 ⟨v2,vs,rfl,s2,hl2,pv2⟩
  rw [lw,List.take_length] at pv2
  exact ⟨_,pss_one (ps_ret (pv 1)),_,rfl,q lf vs H2 s2 hlf hl2 pv2⟩
end
def spFits (K:PySem.W.Frag) (c:C5) (CF:Addr):Sp:=fun vs H Q _=>∃ (f a:Addr) (rows:List Rw) (bars:List Str) (ct:List Item),vs = [.ref f,.ref a]/\FormOk c CF H f rows bars/\CallOk K H a ct/\∀ (H':Hp),Same H H'->Q (.bl (missC rows bars ct).isEmpty) H'
section
variable {P:Program} {w:World} {K:PySem.W.Frag} {mg:Str->Option Value} {base:Heap} {f CF:Addr} {fd:FuncData} {c:C5} {m:MA}
theorem scFits:FnScope ["form","call"] ["form","call"] (defScope sFits):=⟨rfl,rfl,rfl,by decide +kernel,rfl,by decide +kernel,by decide +kernel⟩
theorem ok_fits {g1:Addr} {d1:FuncData} (F:Fun K "fits" "fits" sFits f fd) (c1:Callee P w K mg base 5 "misfits" g1 d1 ["form","call"] (spMis K c CF)):FnOk P w K mg base CX0 6 f fd ["form","call"] (spFits K c CF):=by
 refine F.ok scFits (fun vs H Q E h=>?_) (fun cdv A outer s H vs Q E hr h=>?_)
 ·obtain ⟨f,a,rows,bars,ct,rfl,_⟩:=h
  rfl
 obtain ⟨f,a,rows,bars,ct,rfl,hF,hC,q⟩:=h
 have hU:=hr.units
 have hU0:=hr.units0
 refine ⟨_,pss_one (ps_ret (pe_cmpR (OpR.or (op_eqS hU) (op_eqLen hU0)) (cF c1 hr (ac (pv 0) (ac (pv 1) pa_nil))) (pe_lst pa_nil) (nomark _))),?_⟩
 refine ⟨_,rfl,_,rfl,f,a,rows,bars,ct,rfl,hF,hC,fun l H1 s1 ⟨us,nl,el,ml⟩=>?_⟩
 refine ⟨(by show 0<=sizeLine; decide),fun l2 hl2=>?_⟩
 have s2:=same_new hl2 (.lst [])
 have lu:=ml.length
 cases e:missC rows bars ct with
 | nil=>
  rw [e] at ml
  cases ml
  refine .inl ⟨l,l2,0,.lst [],fun _=>True,fun _=>True,rfl,rfl,by decide,Says.lst True.intro (s2 _ _ el) .nil,Says.lst True.intro upd_same .nil,?_⟩
  have:=q _ (s1.trans s2)
  rw [e] at this
  exact this
 | cons x xs=>
  refine .inr ⟨l,l2,_,_,rfl,rfl,s2 _ _ el,upd_same,(by rw [List.length_map,lu,e]; exact Nat.succ_ne_zero _),?_⟩
  have:=q _ (s1.trans s2)
  rw [e] at this
  exact this
end
theorem val_put {κ : Type} [DecidableEq κ] {kvs:List (κ × V)} {k k' : κ} {v:V}:valV (putK kvs k v) k' = if k' = k then some v else valV kvs k':=valV_put kvs k k' v
theorem nms_cons (r:Rw) (rs:List Rw):nms (r :: rs) = (if byNm r.k = true then [r.z] else []) ++ nms rs:=by
 have:=nms_app [r] rs
 rw [nms_one] at this
 exact this
theorem doors_no {z:Str}:∀ (rows:List Rw) (i:Nat) (acc:List (Key × V)),z ∉ nms rows->valV (doorsF i acc rows) (.inr z) = valV acc (.inr z)
 | [],_,_,_=>rfl
 | r :: rs,i,acc,h=>by
  rw [nms_cons] at h
  have h2:z ∉ nms rs:=fun e=>h (List.mem_append_right _ e)
  show valV (doorsF (i + 1) _ rs) (.inr z) = _
  rw [doors_no rs (i + 1) _ h2]
  split
  next e=>
   rw [val_put,if_neg]
   intro e2
   rw [if_pos e] at h
   exact h (by rw [Sum.inr.inj e2]; exact List.mem_append_left _ (List.mem_singleton.mpr rfl))
  ·rfl
theorem doors_at {r:Rw} (hb:byNm r.k = true):∀ (rows:List Rw) (i j:Nat) (acc:List (Key × V)),rows[j]? = some r->(nms rows).Nodup->valV (doorsF i acc rows) (.inr r.z) = some (.int ((i + j:Nat):Int))
 | [],_,_,_,h,_=>by simp at h
 | y :: ys,i,0,acc,h,nd=>by
  have e:y = r:=by simpa using h
  subst e
  rw [nms_cons,if_pos hb] at nd
  have hz:y.z ∉ nms ys:=(List.nodup_cons.mp nd).1
  show valV (doorsF (i + 1) (if byNm y.k = true then putK acc (.inr y.z) (.int i) else acc) ys) (.inr y.z) = _
  rw [doors_no ys (i + 1) _ hz,if_pos hb,val_put,if_pos rfl]
  rfl
 | y :: ys,i,j + 1,acc,h,nd=>by
  rw [nms_cons] at nd
  have nd2:=(List.nodup_append.mp nd).2.1
  show valV (doorsF (i + 1) _ ys) (.inr r.z) = _
  rw [doors_at hb ys (i + 1) j _ (by simpa using h) nd2,show i + 1 + j = i + (j + 1) by omega]
theorem val_app {a b:List (Str × Nat)} {z:Str} {v:V} (h:valV (kvP a) (.inr z) = some v):valV (kvP (a ++ b)) (.inr z) = some v:=by
 unfold valV at h |-
 unfold kvP at h |-
 rw [List.map_append,List.find?_append]
 cases e:(a.map fun p=>((Sum.inr p.1:Key),V.int (p.2:Nat))).find? fun kv=>decide (kv.1 = .inr z) with
 | none=>rw [e] at h; cases h
 | some kv=>rw [e] at h; exact h
theorem val_new {a:List (Str × Nat)} {z:Str} {i:Nat} (h:(a.any fun p=>decide (p.1 = z)) = false):valV (kvP (a ++ [(z,i)])) (.inr z) = some (.int (i:Nat)):=by
 have e0:valV (kvP a) (.inr z) = none:=by
  rw [<- kvP_any] at h
  exact Option.not_isSome_iff_eq_none.mp (by rw [h]; exact Bool.false_ne_true)
 unfold valV at e0 |-
 unfold kvP at e0 |-
 rw [List.map_append,List.find?_append]
 cases e:(a.map fun p=>((Sum.inr p.1:Key),V.int (p.2:Nat))).find? fun kv=>decide (kv.1 = .inr z) with
 | none=>
  rw [Option.none_or,List.map_cons,List.find?_cons,decide_eq_true rfl]
  rfl
 | some kv=>rw [e] at e0; cases e0
theorem val_fp {z:Str} {v:V}:∀ (zs:List Str) (i:Nat) (acc:List (Str × Nat)),valV (kvP acc) (.inr z) = some v->valV (kvP (fpF i acc zs)) (.inr z) = some v
 | [],_,_,h=>h
 | y :: ys,i,acc,h=>by
  show valV (kvP (fpF (i + 1) (if (acc.any fun p=>decide (p.1 = y)) = true then acc else acc ++ [(y,i)]) ys)) _ = _
  split
  ·exact val_fp ys (i + 1) acc h
  ·exact val_fp ys (i + 1) _ (val_app h)
theorem any_mem {acc:List (Str × Nat)} {z:Str}:(acc.any fun p=>decide (p.1 = z)) = decide (z ∈ acc.map (·.1)):=by
 rw [Bool.eq_iff_iff,List.any_eq_true,decide_eq_true_eq,List.mem_map]
 exact ⟨fun ⟨p,h1,h2⟩=>⟨p,h1,of_decide_eq_true h2⟩,fun ⟨p,h1,h2⟩=>⟨p,h1,decide_eq_true h2⟩⟩
theorem fp_app:∀ (a b:List Str) (j:Nat) (acc:List (Str × Nat)),fpF j acc (a ++ b) = fpF (j + a.length) (fpF j acc a) b
 | [],_,_,_=>rfl
 | z :: zs,b,j,acc=>by
  show fpF (j + 1) _ (zs ++ b) = fpF (j + (zs.length + 1)) (fpF (j + 1) _ zs) b
  rw [fp_app zs b (j + 1),show j + 1 + zs.length = j + (zs.length + 1) by omega]
theorem fp_lt:∀ (zs:List Str) (j:Nat) (acc:List (Str × Nat)),(∀ p ∈ acc,p.2 < j)->∀ p ∈ fpF j acc zs,p.2 < j + zs.length
 | [],_,_,h,p,hp=>h p hp
 | z :: zs,j,acc,h,p,hp=>by
  have h2:=fp_lt zs (j + 1) _ (fun q hq=>?_) p hp
  ·rw [List.length_cons]; omega
  ·split at hq
   ·have:=h q hq; omega
   ·rcases List.mem_append.mp hq with hq | hq
    ·have:=h q hq; omega
    ·rw [List.mem_singleton.mp hq]; exact Nat.lt_succ_self _
theorem take_snocS {zs:List Str} {i:Nat} {z:Str} (h:zs[i]? = some z):zs.take (i + 1) = zs.take i ++ [z]:=by
 have hi:i < zs.length:=(List.getElem?_eq_some_iff.mp h).1
 have e:zs[i] = z:=(List.getElem?_eq_some_iff.mp h).2
 rw [List.take_succ_eq_append_getElem hi,e]
theorem fp_snoc {zs:List Str} {i:Nat} {z:Str} (h:zs[i]? = some z):fpF 0 [] (zs.take (i + 1)) = if ((fpF 0 [] (zs.take i)).any fun p=>decide (p.1 = z)) = true then fpF 0 [] (zs.take i) else fpF 0 [] (zs.take i) ++ [(z,i)]:=by
 have hi:i < zs.length:=(List.getElem?_eq_some_iff.mp h).1
 rw [take_snocS h,fp_app]
 have el : 0 + (zs.take i).length = i:=by rw [List.length_take]; omega
 rw [el]
 rfl
theorem dbl_is {zs:List Str} {i:Nat} {z:Str} (h:zs[i]? = some z):decide (valV (kvP (fpZ zs)) (.inr z) = some (.int (i:Nat))) = !((fpF 0 [] (zs.take i)).any fun p=>decide (p.1 = z)):=by
 have hi:i < zs.length:=(List.getElem?_eq_some_iff.mp h).1
 have e:fpZ zs = fpF (i + 1) (fpF 0 [] (zs.take (i + 1))) (zs.drop (i + 1)):=by
  unfold fpZ
  conv=>lhs; rw [<- List.take_append_drop (i + 1) zs,fp_app]
  rw [show 0 + (zs.take (i + 1)).length = i + 1 by rw [List.length_take]; omega]
 cases hb:(fpF 0 [] (zs.take i)).any fun p=>decide (p.1 = z) with
 | true=>
  have hs:(valV (kvP (fpF 0 [] (zs.take i))) (.inr z)).isSome = true:=by rw [kvP_any]; exact hb
  obtain ⟨v,hv⟩:=Option.isSome_iff_exists.mp hs
  obtain ⟨z',j,ez,ev,hm⟩:=kvP_val hv
  have hj:=fp_lt (zs.take i) 0 [] (fun p hp=>by cases hp) _ hm
  rw [List.length_take] at hj
  have h2:=fp_snoc h
  rw [hb,if_pos rfl] at h2
  have h3:=val_fp (z:=z) (v:=v) (zs.drop (i + 1)) (i + 1) (fpF 0 [] (zs.take (i + 1))) (by rw [h2]; exact hv)
  rw [e,h3,ev]
  refine decide_eq_false fun e2=>?_
  have:(j:Int) = (i:Int):=V.int.inj (Option.some.inj e2)
  have hj':j < 0 + min i zs.length:=hj
  omega
 | false=>
  have h2:=fp_snoc h
  rw [hb,if_neg (by decide)] at h2
  have h3:=val_fp (z:=z) (v:=.int (i:Nat)) (zs.drop (i + 1)) (i + 1) (fpF 0 [] (zs.take (i + 1))) (by rw [h2]; exact val_new hb)
  rw [e,h3]
  exact decide_eq_true rfl
def wrongW (rows:List Rw) (bars:List Str) (many:Nat) (z:Str):Str:=(unwW rows bars many z).getD ""
theorem wrong_at {rows:List Rw} {bars:List Str} {many:Nat} {z:Str} (nd:(nms rows).Nodup) (h:z ∉ bars) {l:Nat} {r:Rw} (hl:rows[l]? = some r) (hb:byNm r.k = true) (he:r.z = z):wrongW rows bars many z = if l < min many (plN rows) then "again" else "":=by
 have hv:=doors_at hb rows 0 l [] hl nd
 rw [he] at hv
 have e1:unwW.lastD' z rows = some l:=by unfold unwW.lastD'; rw [hv,Nat.zero_add]; rfl
 unfold wrongW unwW
 rw [if_neg h,e1]
 show (if l < plN rows/\l < many then some ("again" : Str) else none).getD "" = _
 by_cases hc:l < plN rows/\l < many
 ·rw [if_pos hc,if_pos (by omega)]; rfl
 ·rw [if_neg hc,if_neg (by omega)]; rfl
theorem unw_words {rows:List Rw} {bars:List Str} {many:Nat} {z:Str}:unwW rows bars many z = if wrongW rows bars many z = "" then none else some (wrongW rows bars many z):=by
 unfold wrongW
 cases h:unwW rows bars many z with
 | none=>rfl
 | some x=>
  have hx:x ≠ "":=by
   unfold unwW at h
   split at h
   ·cases h; decide +kernel
   ·split at h
    ·split at h
     ·cases h
     ·cases h; decide +kernel
    ·split at h
     ·cases h; decide +kernel
     ·cases h
  rw [if_neg (show ¬ (some x).getD "" = "" from hx)]
  rfl
theorem lack_is {r:Rw} {i many:Nat} {fk:List (Key × V)}:isLack r i many fk = (!fr r.k r.b && !(byPl r.k && decide (i < many)) && !(byNm r.k && (valV fk (.inr r.z)).isSome)):=by
 unfold isLack oneE
 by_cases h1:byPl r.k = true/\i < many
 ·rw [if_pos h1,h1.1,decide_eq_true h1.2]
  have e:L2.eqT [.str "place",.int (i:Nat)] [.str "free"] = false:=rfl
  rw [e]
  simp
 ·rw [if_neg h1]
  have hn:(byPl r.k && decide (i < many)) = false:=by
   cases hp:byPl r.k with
   | false=>rfl
   | true=>exact decide_eq_false fun h=>h1 ⟨hp,h⟩
  rw [hn]
  by_cases h2:byNm r.k = true/\(valV fk (.inr r.z)).isSome = true
  ·rw [if_pos h2,h2.1,h2.2]
   have e:∀ v,L2.eqT [.str "name",v] [.str "free"] = false:=fun v=>by unfold L2.eqT; simp
   rw [e]
   simp
  ·rw [if_neg h2]
   have hn2:(byNm r.k && (valV fk (.inr r.z)).isSome) = false:=by
    cases hp:byNm r.k with
    | false=>rfl
    | true=>
     cases hq:(valV fk (.inr r.z)).isSome with
     | false=>rfl
     | true=>exact absurd ⟨hp,hq⟩ h2
   rw [hn2]
   have e:L2.eqT [.str "free"] [.str "free"] = true:=by unfold L2.eqT; simp [List.range_succ,eqV]
   rw [e]
   simp
theorem fpZ_has {zs:List Str} {z:Str}:(valV (kvP (fpZ zs)) (.inr z)).isSome = decide (z ∈ zs):=by
 rw [kvP_any,Bool.eq_iff_iff,decide_eq_true_eq]
 constructor
 ·intro h
  have key:∀ (zs:List Str) (i:Nat) (acc:List (Str × Nat)),((fpF i acc zs).any fun p=>decide (p.1 = z)) = true->(acc.any fun p=>decide (p.1 = z)) = true\/z ∈ zs:=by
   intro zs
   induction zs with
   | nil=>exact fun i acc h=>.inl h
   | cons y ys ih=>
    intro i acc h
    rcases ih (i + 1) _ h with h | h
    ·split at h
     ·exact .inl h
     ·rw [List.any_append,Bool.or_eq_true] at h
      rcases h with h | h
      ·exact .inl h
      ·right
       simp at h
       rw [h]
       exact List.mem_cons_self
    ·exact .inr (List.mem_cons_of_mem _ h)
  rcases key zs 0 [] h with h | h
  ·simp at h
  ·exact h
 ·exact fun h=>fp_mem zs 0 [] h
theorem fpF_fst {zs:List Str} {z:Str}:z ∈ (fpZ zs).map (·.1) ↔ z ∈ zs:=by
 have h1:((fpZ zs).any fun p=>decide (p.1 = z)) = decide (z ∈ zs):=by rw [<- kvP_any,fpZ_has]
 rw [any_mem,Bool.eq_iff_iff,decide_eq_true_eq,decide_eq_true_eq] at h1
 exact h1
theorem unw_nil {rows:List Rw} {bars:List Str} {many:Nat} {zs:List Str}:unwF rows bars many (fpZ zs) = [] ↔ ∀ z ∈ zs,unwW rows bars many z = none:=by
 unfold unwF
 rw [List.filterMap_eq_nil_iff]
 constructor
 ·intro h z hz
  obtain ⟨p,hp,rfl⟩:=List.mem_map.mp (fpF_fst.mpr hz)
  have:=h p hp
  rwa [Option.map_eq_none_iff] at this
 ·intro h p hp
  rw [Option.map_eq_none_iff]
  exact h _ (fpF_fst.mp (List.mem_map.mpr ⟨p,hp,rfl⟩))
theorem dblF_nil {fk:List (Key × V)}:∀ (zs:List Str) (i:Nat),dblF fk i zs = [] ↔ ∀ j z,zs[j]? = some z->valV fk (.inr z) = some (.int ((i + j:Nat):Int))
 | [],i=>by simp [dblF]
 | y :: ys,i=>by
  show (if valV fk (.inr y) = some (.int (i:Nat)) then [] else [(("doubled" : Str),i)]) ++ dblF fk (i + 1) ys = [] ↔ _
  rw [List.append_eq_nil_iff,dblF_nil ys (i + 1)]
  constructor
  ·rintro ⟨h1,h2⟩ j z hj
   cases j with
   | zero=>
    have:y = z:=by simpa using hj
    subst this
    split at h1
    next e=>exact e
    ·cases h1
   | succ j=>
    have:=h2 j z (by simpa using hj)
    rw [this]
    congr 3
    omega
  ·intro h
   refine ⟨?_,fun j z hj=>?_⟩
   ·have h0:=h 0 y rfl
    rw [Nat.add_zero] at h0
    rw [if_pos h0]
   ·have:=h (j + 1) z (by simpa using hj)
    rw [this]
    congr 3
    omega
theorem fpT {zs:List Str} {z:Str}:((fpF 0 [] zs).any fun p=>decide (p.1 = z)) = decide (z ∈ zs):=by
 have:=fpZ_has (zs:=zs) (z:=z)
 rw [kvP_any] at this
 exact this
theorem dbl_nil {zs:List Str}:dblF (kvP (fpZ zs)) 0 zs = [] ↔ zs.Nodup:=by
 rw [dblF_nil,List.nodup_iff_pairwise_ne]
 constructor
 ·intro h
  rw [List.pairwise_iff_getElem]
  intro i j hi hj hij e
  have h1:=dbl_is (zs:=zs) (i:=j) (z:=zs[j]) (List.getElem?_eq_getElem hj)
  have h2:=h j _ (List.getElem?_eq_getElem hj)
  rw [Nat.zero_add] at h2
  rw [decide_eq_true h2,fpT] at h1
  have hm:zs[j] ∈ zs.take j:=by
   rw [<- e]
   rw [List.mem_iff_getElem]
   exact ⟨i,by rw [List.length_take]; omega,by rw [List.getElem_take]⟩
  rw [decide_eq_true hm] at h1
  cases h1
 ·intro h j z hj
  have h1:=dbl_is hj
  rw [fpT] at h1
  have hn:z ∉ zs.take j:=by
   intro hm
   obtain ⟨i,hi,e⟩:=List.mem_iff_getElem.mp hm
   rw [List.length_take] at hi
   rw [List.getElem_take] at e
   have hjl:j < zs.length:=(List.getElem?_eq_some_iff.mp hj).1
   have:=(List.pairwise_iff_getElem.mp h) i j (by omega) hjl (by omega)
   rw [List.getElem?_eq_getElem hjl] at hj
   exact this (e.trans (Option.some.inj hj).symm)
  rw [decide_eq_false hn] at h1
  rw [Nat.zero_add]
  exact of_decide_eq_true h1
theorem over_nil {rows:List Rw} {many:Nat}:overF rows many = [] ↔ ((firstK 2 0 rows).isSome = true\/many<=plN rows):=by
 unfold overF
 split
 next h=>simp [h]
 next h=>
  rw [List.map_eq_nil_iff,List.range_eq_nil]
  constructor
  ·intro e; right; omega
  ·rintro (e | e)
   ·exact absurd e h
   ·omega
theorem lackF_nil {many:Nat} {fk:List (Key × V)}:∀ (rows:List Rw) (i:Nat),lackF many fk i rows = [] ↔ ∀ j r,rows[j]? = some r->isLack r (i + j) many fk = false
 | [],i=>by simp [lackF]
 | y :: ys,i=>by
  show (if isLack y i many fk = true then [(("lacking" : Str),i)] else []) ++ lackF many fk (i + 1) ys = [] ↔ _
  rw [List.append_eq_nil_iff,lackF_nil ys (i + 1)]
  constructor
  ·rintro ⟨h1,h2⟩ j z hj
   cases j with
   | zero=>
    have:y = z:=by simpa using hj
    subst this
    split at h1
    ·cases h1
    next e=>exact Bool.eq_false_iff.mpr e
   | succ j=>
    have:=h2 j z (by simpa using hj)
    rw [show i + (j + 1) = i + 1 + j by omega]
    exact this
  ·intro h
   refine ⟨?_,fun j z hj=>?_⟩
   ·have:=h 0 y rfl
    rw [Nat.add_zero] at this
    rw [if_neg (by rw [this]; decide)]
   ·have:=h (j + 1) z (by simpa using hj)
    rw [show i + 1 + j = i + (j + 1) by omega]
    exact this
theorem unw_door {rows:List Rw} {bars:List Str} {many:Nat} {z:Str} (V1:Valid rows bars) {l:Nat} {r:Rw} (hl:rows[l]? = some r) (hb:byNm r.k = true) (he:r.z = z) (hn:¬ (l < plN rows/\l < many)):unwW rows bars many z = none:=by
 have nd:(nms rows).Nodup:=(List.nodup_append.mp V1.nd).1
 have hm:z ∈ nms rows:=by
  unfold nms
  exact List.mem_map.mpr ⟨r,List.mem_filter.mpr ⟨List.mem_of_getElem? hl,hb⟩,he⟩
 have hz:z ∉ bars:=fun h=>(List.nodup_append.mp V1.nd).2.2 z hm z h rfl
 rw [unw_words,wrong_at nd hz hl hb he,if_neg (show ¬ l < min many (plN rows) by omega),if_pos rfl]
theorem fit_miss {rows:List Rw} {bars names:List Str} {many:Nat} (h1:names.Nodup) (h2:(firstK 2 0 rows).isSome = true\/many<=plN rows) (h3:∀ z ∈ names,unwW rows bars many z = none) (h4:∀ (i:Nat) (r:Rw),rows[i]? = some r->fr r.k r.b = true\/(byPl r.k = true/\i < many)\/(byNm r.k = true/\r.z ∈ names)):missF rows bars many names = []:=by
 unfold missF
 rw [List.append_eq_nil_iff,List.append_eq_nil_iff,List.append_eq_nil_iff,dbl_nil,over_nil,unw_nil,lackF_nil]
 refine ⟨⟨⟨h1,h2⟩,h3⟩,fun i r hr=>?_⟩
 rw [lack_is,fpZ_has,Nat.zero_add]
 rcases h4 i r hr with h | ⟨h,h'⟩ | ⟨h,h'⟩
 ·rw [h]; rfl
 ·rw [h,decide_eq_true h']; simp
 ·rw [h,decide_eq_true h']; simp
theorem nms_at {rows:List Rw} {z:Str} (h:z ∈ nms rows):∃ (l:Nat) (r:Rw),rows[l]? = some r/\byNm r.k = true/\r.z = z:=by
 unfold nms at h
 obtain ⟨r,hr,rfl⟩:=List.mem_map.mp h
 rw [List.mem_filter] at hr
 obtain ⟨l,hl⟩:=List.mem_iff_getElem?.mp hr.1
 exact ⟨l,r,hl,hr.2,rfl⟩
theorem unw_no {rows:List Rw} {bars:List Str} {many:Nat} {z:Str} (h:z ∉ bars) (hk:z ∉ nms rows):unwW rows bars many z = if (firstK 4 0 rows).isSome = true then none else some ("strange" : Str):=by
 have hv:=doors_no (z:=z) rows 0 [] hk
 have e1:unwW.lastD' z rows = none:=by unfold unwW.lastD'; rw [hv]; rfl
 unfold unwW
 rw [if_neg h,e1]
section
variable {zs:List Str} {D:FD} {bars:List Str}
theorem takes_fits (h:FDok zs D bars) (V1:Valid D.rows bars) {many:Nat} {names:List Str} (nd:names.Nodup) (ht:takesF D.rows bars many names = true):missF D.rows bars many names = []:=by
 unfold takesF at ht
 rw [Bool.and_eq_true,Bool.and_eq_true,List.all_eq_true,List.all_eq_true] at ht
 obtain ⟨⟨t1,t2⟩,t3⟩:=ht
 rw [has2_D h] at t1
 have lenP:plN D.rows = D.P.length:=pl_rows h
 have er:D.rows = D.P ++ (D.T ++ (D.G ++ D.B)):=rfl
 rw [plcs_D h,tgs_D h] at t3
 have grp:∀ {i:Nat} {r:Rw},D.rows[i]? = some r->(i < D.P.length/\D.P[i]? = some r)\/(D.P.length<=i/\(r ∈ D.T\/r ∈ D.G\/r ∈ D.B)):=fun {i r} hi=>by
  by_cases hp:i < D.P.length
  ·rw [er,List.getElem?_append_left hp] at hi
   exact .inl ⟨hp,hi⟩
  ·rw [er,List.getElem?_append_right (by omega)] at hi
   have:=List.mem_of_getElem? hi
   refine .inr ⟨by omega,?_⟩
   rcases List.mem_append.mp this with m | m
   ·exact .inl m
   ·exact .inr (List.mem_append.mp m)
 have good:∀ r ∈ D.P.drop many ++ D.G,r.b = true\/(r.k ≠ 0/\r.z ∈ names):=fun r hr=>by
  have:=t3 r hr
  unfold badR at this
  cases hb:r.b with
  | true=>exact .inl rfl
  | false=>
   right
   rw [hb] at this
   constructor
   ·intro e; rw [e] at this; cases this
   ·refine Decidable.by_contra fun hn=>?_
    rw [decide_eq_true hn,Bool.or_true] at this
    cases this
 have frG:∀ {r:Rw},(r.k = 0\/r.k = 1\/r.k = 3)->fr r.k r.b = r.b:=fun {r} e=>by rcases e with e | e | e <;> rw [e] <;> rfl
 refine fit_miss nd ?_ (fun z hz=>?_) (fun i r hr=>?_)
 ·by_cases hm:plN D.rows < many
  ·left
   rw [tail_rows h]
   rw [decide_eq_true hm,Bool.true_and,Bool.not_not] at t1
   exact t1
  ·exact .inr (by omega)
 ·have bz:=t2 z hz
  unfold badN at bz
  rw [Bool.not_eq_true',Bool.or_eq_false_iff,Bool.or_eq_false_iff] at bz
  obtain ⟨⟨b1,b2⟩,b3⟩:=bz
  have b1:=of_decide_eq_false b1
  have b2:=of_decide_eq_false b2
  by_cases hl:∃ (l:Nat) (r:Rw),D.rows[l]? = some r/\byNm r.k = true/\r.z = z/\¬ (l < plN D.rows/\l < many)
  ·obtain ⟨l,r,h1,h2,h3,h4⟩:=hl
   exact unw_door V1 h1 h2 h3 h4
  have hnn:z ∉ nms D.rows:=fun hm=>by
   obtain ⟨l,r,h1,h2,h3⟩:=nms_at hm
   have hlt:l < plN D.rows/\l < many:=Decidable.by_contra fun hn=>hl ⟨l,r,h1,h2,h3,hn⟩
   refine b2 ?_
   rcases grp h1 with ⟨hp,hi⟩ | ⟨hp,_⟩
   ·have k1:r.k = 1:=by
     rcases (h.p r (List.mem_of_getElem? hi)).1 with e | e
     ·rw [e] at h2; cases h2
     ·exact e
    unfold goneF
    rw [plcs_D h]
    refine List.mem_map.mpr ⟨r,List.mem_filter.mpr ⟨List.mem_of_getElem? (i:=l) ?_,by rw [k1]; rfl⟩,h3⟩
    rw [List.getElem?_take,if_pos hlt.2]
    exact hi
   ·rw [lenP] at hlt
    omega
  rw [unw_no b1 hnn,bag_rows h,<- has4_D h]
  have hnl:z ∉ lateF D.rows many:=fun hm=>by
   unfold lateF at hm
   rw [plcs_D h,tgs_D h] at hm
   refine hnn ?_
   unfold nms
   rcases List.mem_append.mp hm with m | m
   ·obtain ⟨r,hr,e⟩:=List.mem_map.mp m
    obtain ⟨hr,k⟩:=List.mem_filter.mp hr
    exact List.mem_map.mpr ⟨r,List.mem_filter.mpr ⟨by rw [er]; exact List.mem_append_left _ (List.mem_of_mem_drop hr),by rw [show r.k = 1 by simpa using k]; rfl⟩,e⟩
   ·obtain ⟨r,hr,e⟩:=List.mem_map.mp m
    exact List.mem_map.mpr ⟨r,List.mem_filter.mpr ⟨by rw [er]; exact List.mem_append_right _ (List.mem_append_right _ (List.mem_append_left _ hr)),by rw [(h.g r hr).1]; rfl⟩,e⟩
  rw [decide_eq_true hnl,Bool.true_and,Bool.not_eq_false'] at b3
  rw [b3,if_pos rfl]
 ·rcases grp hr with ⟨hp,hi⟩ | ⟨hp,hT | hG | hB⟩
  ·have kr:=(h.p r (List.mem_of_getElem? hi)).1
   by_cases hm:i < many
   ·exact .inr (.inl ⟨by rcases kr with e | e <;> rw [e] <;> rfl,hm⟩)
   ·have hd:r ∈ D.P.drop many:=by
     refine List.mem_of_getElem? (i:=i - many) ?_
     rw [List.getElem?_drop,show many + (i - many) = i by omega]
     exact hi
    rcases good r (List.mem_append_left _ hd) with e | ⟨e1,e2⟩
    ·exact .inl (by rw [frG (by rcases kr with e | e; exact .inl e; exact .inr (.inl e))]; exact e)
    ·refine .inr (.inr ⟨?_,e2⟩)
     rcases kr with e | e
     ·exact absurd e e1
     ·rw [e]; rfl
  ·exact .inl (by rw [(h.t r hT).1]; rfl)
  ·have kr:=(h.g r hG).1
   rcases good r (List.mem_append_right _ hG) with e | ⟨e1,e2⟩
   ·exact .inl (by rw [frG (.inr (.inr kr))]; exact e)
   ·exact .inr (.inr ⟨by rw [kr]; rfl,e2⟩)
  ·exact .inl (by rw [(h.b r hB).1]; rfl)
end
theorem popR_len:∀ (l:List TR),(popR l).length<=l.length
 | []=>Nat.le_refl _
 | [_]=>Nat.le_refl _
 | x :: y :: l=>by
  unfold popR
  split
  ·exact Nat.le_trans (popR_len (y :: l)) (Nat.le_succ _)
  ·exact Nat.le_refl _
section
variable {zs:List Str} {D:FD} {bars:List Str}
structure TabOk (D:FD) (bars:List Str) (rs:List TR) (g:Bool):Prop where
 tl:g = D.tl
 ne:rs ≠ []
 le:rs.length<=D.P.length + 1
 eq:g = false->rs.length = D.P.length + 1
 trim:g = true->∀ x y c,rs.reverse = x :: y :: c->x ≠ y
 at_:∀ k,(g = true\/k < rs.length)->rs[min k (rs.length - 1)]? = some (sF D bars k)
theorem tab_ok (h:FDok zs D bars):TabOk D bars (tabF D.rows bars).1 (tabF D.rows bars).2:=by
 have hs:=tab_seq h
 have lr:((List.range (plN D.rows + 1)).map (rowF D.rows bars)).length = D.P.length + 1:=by rw [List.length_map,List.length_range,pl_rows h]
 have nr:(List.range (plN D.rows + 1)).map (rowF D.rows bars) ≠ []:=fun e=>by rw [e] at lr; cases lr
 have e:tabF D.rows bars = if (firstK 2 0 D.rows).isSome = true then ((popR ((List.range (plN D.rows + 1)).map (rowF D.rows bars)).reverse).reverse,true) else ((List.range (plN D.rows + 1)).map (rowF D.rows bars),false):=rfl
 rw [tail_rows h] at e
 generalize tabF D.rows bars = T at hs e
 obtain ⟨rs,g⟩:=T
 generalize (List.range (plN D.rows + 1)).map (rowF D.rows bars) = r0 at lr nr e
 have nn:rs ≠ []:=by
  cases ht:D.tl with
  | true=>rw [ht,if_pos rfl] at e; cases e; simpa using popR_ne (by simpa using nr)
  | false=>rw [ht,if_neg Bool.false_ne_true] at e; cases e; exact nr
 have l0 : 0 < rs.length:=List.length_pos_iff.mpr nn
 refine ⟨?_,nn,?_,fun hg=>?_,fun hg=>?_,fun k hk=>?_⟩
 ·cases ht:D.tl with
  | true=>rw [ht,if_pos rfl] at e; cases e; rfl
  | false=>rw [ht,if_neg Bool.false_ne_true] at e; cases e; rfl
 ·cases ht:D.tl with
  | true=>
   rw [ht,if_pos rfl] at e; cases e
   have:=popR_len r0.reverse
   rw [List.length_reverse] at this
   show (popR r0.reverse).reverse.length<=_
   rw [List.length_reverse]; omega
  | false=>rw [ht,if_neg Bool.false_ne_true] at e; cases e; exact Nat.le_of_eq lr
 ·cases ht:D.tl with
  | true=>rw [ht,if_pos rfl] at e; cases e; cases hg
  | false=>rw [ht,if_neg Bool.false_ne_true] at e; cases e; exact lr
 ·cases ht:D.tl with
  | true=>
   rw [ht,if_pos rfl] at e; cases e
   intro x y c he
   rw [List.reverse_reverse] at he
   exact popR_trim _ x y c he
  | false=>rw [ht,if_neg Bool.false_ne_true] at e; cases e; cases hg
 ·have:=hs k
  unfold seqT at this
  show rs[min k (rs.length - 1)]? = _
  by_cases hl:k < rs.length
  ·rw [if_pos hl,List.getElem?_eq_getElem hl] at this
   rw [Nat.min_eq_left (by omega),List.getElem?_eq_getElem hl,<- this]
   rfl
  ·have hg:g = true:=hk.elim id fun h=>absurd h hl
   have this:(if k < rs.length then (rs[k]?).getD none else if g = true then ext rs k else none) = sF D bars k:=hs k
   rw [if_neg hl,if_pos hg] at this
   unfold ext at this
   rw [<- this,List.getElem?_eq_getElem (by omega)]
   rfl
end
theorem acc_self {zs n X:List Str} {b:Bool} (h:Proper zs n b X):acc (some (n,b,X)) n = true:=by
 show (n.all (fun y=>decide (y ∈ n)) && n.all (fun y=>if b = true then decide (y ∉ X) else decide (y ∈ X))) = true
 rw [Bool.and_eq_true]
 refine ⟨List.all_eq_true.mpr fun y hy=>decide_eq_true hy,List.all_eq_true.mpr fun y hy=>?_⟩
 have:=h.in_ y hy
 cases b with
 | true=>rw [if_pos rfl]; exact decide_eq_true (by rw [this]; exact fun e=>by cases e)
 | false=>rw [if_neg Bool.false_ne_true]; exact decide_eq_true (by rw [this])
theorem acc_lack {n X names:List Str} {b:Bool} {z:Str} (hz:z ∈ n) (hn:z ∉ names):acc (some (n,b,X)) names = false:=by
 show (n.all (fun y=>decide (y ∈ names)) && _) = false
 rw [List.all_eq_false.mpr ⟨z,hz,by rw [decide_eq_false hn]; exact Bool.false_ne_true⟩,Bool.false_and]
theorem in_eq {zs n X:List Str} {b:Bool} {z:Str} (h:Proper zs n b X) (hz:z ∈ n):(decide (z ∈ X) == b) = false:=by
 have:=h.in_ z hz
 cases b with
 | true=>rw [decide_eq_false (by rw [this]; exact fun e=>by cases e)]; rfl
 | false=>rw [decide_eq_true (by rw [this])]; rfl
section
variable {zs:List Str} {D:FD} {bars:List Str}
theorem late_nd (h:FDok zs D bars) (many:Nat):(lateF D.rows many).Nodup:=by
 have e:lateF D.rows many = nms (D.P.drop many) ++ nms D.G:=by
  unfold lateF
  rw [plcs_D h,tgs_D h,<- nms_P fun r hr=>(h.p r (List.mem_of_mem_drop hr)).1,nmsG h]
 rw [e]
 have:=nd_D h many
 rw [List.append_assoc] at this
 exact (List.nodup_append.mp (List.nodup_append.mp this).2.1).1
theorem late_len (h:FDok zs D bars) (many:Nat):(lateF D.rows many).length<=22:=by
 unfold lateF
 rw [plcs_D h,tgs_D h,List.length_append,List.length_map,List.length_map]
 have h1:=List.length_filter_le (fun r:Rw=>r.k == 1) (D.P.drop many)
 rw [List.length_drop] at h1
 have:=h.ln
 omega
theorem none_no (h:FDok zs D bars) {k:Nat} (e:sF D bars k = none) (names:List Str):takesF D.rows bars k names = false:=by rw [takes_acc h,e]; rfl
theorem some_acc (h:FDok zs D bars) {k:Nat} {n X:List Str} {b:Bool} (e:sF D bars k = some (n,b,X)) (names:List Str):takesF D.rows bars k names = acc (some (n,b,X)) names:=by rw [takes_acc h,e]
theorem some_bag (h:FDok zs D bars) {k:Nat} {n X:List Str} {b:Bool} (e:sF D bars k = some (n,b,X)):b = D.bg:=by
 have key:∀ {m:Nat},rowF D.rows bars m = some (n,b,X)->b = D.bg:=fun {m} hm=>by
  unfold rowF at hm
  split at hm
  ·cases hm
  ·cases hm; exact bag_rows h
 unfold sF at e
 split at e
 ·exact key e
 ·split at e
  ·exact key e
  ·cases e
end
theorem ints_says {K:PySem.W.Frag} {ok:Addr->Prop} {H:Hp} {n:Nat}:∀ (ts:List Int),Paired (Says K ok H n) (ts.map V.int) (ts.map Dt.int)
 | []=>.nil
 | _ :: ts=>.cons .int (ints_says ts)
def spIsN:Sp:=fun vs H Q _=>∃ (l pa:Addr) (n zs:List Str),vs = [.ref l,.ref pa]/\H l = some (.lst (n.map V.str))/\H pa = some (.lst (zs.map V.str))/\sortS n = n/\n.Nodup/\(∀ z ∈ n,z ∈ zs)/\zs.length<=26/\∀ H',Same H H'->Q (.bl true) H'
def RowAt (K:PySem.W.Frag) (H:Hp) (v:V) (r:TR):Prop:=match r with
 | none=>v = .non
 | some (n,b,X)=>∃ t,v = .ref t/\ToldAt K H t n b X
def spRight (K:PySem.W.Frag) (c:C5) (CF:Addr):Sp:=fun vs H Q _=>∃ (f pa:Addr) (many:Nat) (v:V) (D:FD) (bars zs:List Str),vs = [.ref f,.int many,v,.ref pa]/\FormOk c CF H f D.rows bars/\Valid D.rows bars/\FDok zs D bars/\H pa = some (.lst (zs.map V.str))/\zs.length<=26/\many<=40/\RowAt K H v (sF D bars many)/\∀ H',Same H H'->Q (.bl true) H'
structure TxtQ (mg:Str->Option Value):Prop where
 len:mg "len" = none
 isi:mg "isinstance" = none
 tuple:mg "tuple" = none
 bool:mg "bool" = none
 list:mg "list" = none
 range:mg "range" = none
section
variable {P:Program} {w:World} {K:PySem.W.Frag} {mg:Str->Option Value} {base:Heap} {f CF:Addr} {fd:FuncData} {c:C5}
theorem ndNm1:([Str.ofString "_law_name"]:List Str).Nodup:=by decide +kernel
theorem ndON:([Str.ofString "_law_other",Str.ofString "_law_name"]:List Str).Nodup:=by decide +kernel
theorem scRight:FnScope ["_law_form_here","_law_many","_law_told","_law_pool_here","_law_row_here","_law_bars_here","_law_places","_law_late","_law_name","_law_others"] ["_law_form_here","_law_many","_law_told","_law_pool_here"] (defScope sRight):=⟨rfl,rfl,rfl,by decide +kernel,rfl,by decide +kernel,by decide +kernel⟩
theorem ok_right {g1 g2 g3 g4 gO:Addr} {e1 e2 e3 e4 eO:FuncData} (F:Fun K "_law_row_right" "_law_row_right" sRight f fd) (U:TxtQ mg) (T:Txt1 K mg) (FK:FC K CF) (mO:Meth K CF "told" gO) (GO:FnOk P w K mg base CX0 3 gO eO ["self"] (spFTold c CF)) (bO:Binds K eO ["self"] []) (cT:Callee P w K mg base 1 "_law_takes" g1 e1 ["_law_row_here","_law_bars_here","_law_many","_law_names"] spTakes) (cI:Callee P w K mg base 1 "_law_is_names" g2 e2 ["_law_found","_law_pool_here"] spIsN) (cF':Callee P w K mg base 6 "fits" g3 e3 ["form","call"] (spFits K c CF)) (cM:Callee P w K mg base 2 "_law_may_come" g4 e4 ["_law_row_here","_law_bars_here","_law_many","_law_told","_law_pool_here"] (spMay K)):FnOk P w K mg base CX0 7 f fd ["_law_form_here","_law_many","_law_told","_law_pool_here"] (spRight K c CF):=by
 refine F.ok scRight (fun vs H Q E h=>?_) (fun cdv A outer s H vs Q E hr h=>?_)
 ·obtain ⟨f,pa,many,v,D,bars,zs,rfl,_⟩:=h
  rfl
 obtain ⟨f,pa,many,v,D,bars,zs,rfl,hF,V1,fD,hpa,z26,m40,hv,q⟩:=h
 have hr1:Room 1 _:=hr.mono (by decide)
 have hr2:Room 2 _:=hr.mono (by decide)
 have hr3:Room 3 _:=hr.mono (by decide)
 have l24:=V1.l24
 have hok:=V1.ok
 obtain ⟨dx,fs,lr',lb',ld',pps,h1,h2',h3',h4',h5',h6'⟩:=id hF.at_
 refine pss_go (ps_asg (pe_meth0 (pv 0) FK.cl mO GO hr3 bO .nil pass0) (pg_tup rfl (pgs_cons (pg_name (i:=4) scRight.nd rfl (Or.inl rfl)) (pgs_cons (pg_name (i:=5) scRight.nd rfl (Or.inl rfl)) pgs_nil)))) ?_
 refine ⟨_,rfl,f,dx,fs,rfl,h1,h2'.no _ (by decide +kernel),f,D.rows,bars,rfl,hok,by omega,hF.at_,fun t la lb us H1 s1 _ _ _ ht hla hu hlb=>?_⟩
 refine ⟨t,_,rfl,SqT.of ht,rfl,_,_,rfl,_,_,rfl,rfl,?_⟩
 have hpa1:=s1 _ _ hpa
 have hv1:RowAt K H1 v (sF D bars many):=by
  cases e:sF D bars many with
  | none=>rw [e] at hv; exact hv
  | some w=>
   obtain ⟨n,b,X⟩:=w
   rw [e] at hv
   obtain ⟨t,ev,ht⟩:=hv
   exact ⟨t,ev,ht.same s1⟩
 have hF1:=hF.same s1
 dsimp only [gName]
 refine pss_go (ps_lc (i:=6) [] ["_law_one"] [none] scRight.nd rfl (Or.inl rfl) rfl ⟨rfl,rfl,rfl,rfl⟩ (pi_list (pv 4)) (gown_name 0) rfl rfl rfl
   (fun pins fp s H C=>⟨pg_name (i:=0) ndOne rfl (Or.inl rfl) (.inr rfl),pif_one (pt_cmpR (r:=rIn K false) op_in_seq (pe_ix (r:=rIxT K) ix_tup (pv 0) pe_int (fun _ _=>rfl)) (pe_lst (ac pe_str (ac pe_str pa_nil))) (by with_unfolding_all rfl)),pv 0⟩)) ?_
 refine ⟨_,rfl,la,rfl,⟨_,SqL.of hla⟩,fun D5 hD5=>?_⟩
 refine lc_zip (K:=K) TAt (fun r=>byPl r.k) (fun u _=>.ref u) hD5 hla hu (by omega) (fun i u r H' N S hu' hr' tr sH n1 s1=>?_) (fun H2 s2 e2=>?_)
 ·have rk:=hok r (List.mem_of_getElem? hr')
  have tu:=sH _ _ tr
  refine ⟨_,rfl,u,_,0,_,rfl,rfl,SqT.of tu,row_at0 rk,(by show 2<=sizeLine; decide),fun l hl=>?_⟩
  have s2:=same_new hl (.lst [.str "seat",.str "both"])
  refine ⟨l,_,rfl,.inl (SqL.of upd_same),rfl,rfl,_,rfl,?_⟩
  rw [if_neg Bool.false_ne_true,in_pl' rk.1]
  exact ⟨fun e=>⟨_,rfl,n1 _ s2 e⟩,fun e=>s1 _ s2 e⟩
 obtain ⟨vs,ev,p2⟩:=zip_sel (tats_same s2 hu) fun r=>byPl r.k
 rw [ev] at e2
 have p2:Paired (TAt H2) vs (plcs D.rows):=p2
 have okp:∀ r ∈ plcs D.rows,r.ok:=fun r hr=>hok r (List.mem_filter.mp hr).1
 have lp:(plcs D.rows).length<=24:=Nat.le_trans (List.length_filter_le _ _) l24
 clear ev
 have hu2:=tats_same s2 hu
 have hla2:=s2 _ _ hla
 dsimp only [gName]
 refine pss_go (ps_set (i:=7) scRight.nd rfl (Or.inl rfl) (pe_op op_cat (pe_lc [] ["_law_one"] [none] rfl ⟨rfl,rfl,rfl,rfl⟩ (pi_list (pe_slice sl_list (pv 6) (po_some (pv 1)) po_none)) (gown_name 0) rfl rfl rfl
   (fun pins fp s H C=>⟨pg_name (i:=0) ndOne rfl (Or.inl rfl) (.inr rfl),pif_one (pt_cmpR op_eq (pe_ix (r:=rIxT K) ix_tup (pv 0) pe_int (fun _ _=>rfl)) pe_str (nomark _)),pe_ix (r:=rIxT K) ix_tup (pv 0) pe_int (fun _ _=>rfl)⟩))
   (pe_lc [] ["_law_one"] [none] rfl ⟨rfl,rfl,rfl,rfl⟩ (pi_list (pv 4)) (gown_name 0) rfl rfl rfl
   (fun pins fp s H C=>⟨pg_name (i:=0) ndOne rfl (Or.inl rfl) (.inr rfl),pif_one (pt_cmpR op_eq (pe_ix (r:=rIxT K) ix_tup (pv 0) pe_int (fun _ _=>rfl)) pe_str (nomark _)),pe_ix (r:=rIxT K) ix_tup (pv 0) pe_int (fun _ _=>rfl)⟩)))) ?_
 refine ⟨_,rfl,_,rfl,_,rfl,D5,_,rfl,SqL.of e2,fun l4 hl4=>?_⟩
 rw [show cutV (vs.map V.ref) (some (many:Int)) none = (vs.drop many).map V.ref from cut_dropN.trans (List.map_drop ..).symm]
 have s4:=same_new hl4 (.lst ((vs.drop many).map V.ref))
 have g4:upd H2 l4 (.lst ((vs.drop many).map V.ref)) l4 = some (.lst ((vs.drop many).map V.ref)):=upd_same
 generalize upd H2 l4 (.lst ((vs.drop many).map V.ref)) = H4 at s4 g4 |-
 refine ⟨l4,rfl,⟨_,SqL.of g4⟩,fun Da hDa=>?_⟩
 refine lc_nmK 1 (by decide) rfl g4 (pairedDrop (tats_same s4 p2) many) (fun r hr=>okp r (List.mem_of_mem_drop hr)) (by rw [List.length_drop]; omega) hDa (fun H5 s5 ea=>?_)
 have s25:=s4.trans s5
 refine ⟨_,rfl,la,rfl,⟨_,SqL.of (s25 _ _ hla2)⟩,fun Db hDb=>?_⟩
 refine lc_nmK 3 (by decide) rfl (s25 _ _ hla2) (tats_same s25 hu2) hok l24 hDb (fun H6 s6 eb=>?_)
 refine ⟨Da,Db,_,_,rfl,rfl,s6 _ _ ea,eb,le1000 (by have h1:=List.length_filter_le (fun r:Rw=>r.k == 1) ((plcs D.rows).drop many); have h2:=List.length_filter_le (fun r:Rw=>r.k == 3) D.rows; simp only [List.length_map]; rw [List.length_drop] at h1; omega),fun D7 hD7=>?_⟩
 rw [<- List.map_append]
 have s7:=same_new hD7 (.lst ((lateF D.rows many).map V.str))
 have g7:upd H6 D7 (.lst ((lateF D.rows many).map V.str)) D7 = some (.lst ((lateF D.rows many).map V.str)):=upd_same
 change uAll _ _ _ _ (upd H6 D7 (.lst ((lateF D.rows many).map V.str)))
 generalize upd H6 D7 (.lst ((lateF D.rows many).map V.str)) = H7 at s7 g7 |-
 have s17:=s2.trans (s25.trans (s6.trans s7))
 have s07:=s1.trans s17
 have hR:RowsAt H7 la D.rows:=⟨us,s17 _ _ hla,tats_same s17 hu⟩
 have hlb:=s17 _ _ hlb
 have hpa:=s17 _ _ hpa1
 have hF:=hF1.same s17
 have nl:=late_nd fD many
 have ll:=late_len fD many
 clear hla2 hu2 g4 e2 p2 ea eb hD7 hDb hDa hl4 s25 s6 s7 s5 s4 s2
 refine pss_go (ps_if (pt_cmp (pc_isN (pv 2))) (pss_one (ps_ret (pe_not (cF cT hr1 (ac (pv 4) (ac (pv 5) (ac (pv 1) (ac (pv 7) pa_nil)))))))) pss_nil) ?_
 cases eS:sF D bars many with
 | none=>
  rw [eS] at hv
  have hv:v = .non:=hv
  subst hv
  refine ⟨_,rfl,_,rfl,?_⟩
  refine iteB (decide_eq_true rfl) ?_
  refine ⟨_,rfl,_,rfl,_,rfl,_,rfl,la,lb,D7,many,D.rows,bars,lateF D.rows many,rfl,hR,hok,l24,hlb,g7,nl,by omega,fun H8 s8=>?_⟩
  rw [none_no fD eS]
  exact ⟨_,rfl,q _ (s07.trans s8)⟩
 | some w=>
  obtain ⟨n,b,X⟩:=w
  rw [eS] at hv1
  obtain ⟨t,ev,ht⟩:=hv1
  subst ev
  have pr:=proper_s fD eS
  have htk:=some_acc fD eS
  have hbg:=some_bag fD eS
  have ht:=ht.same s17
  refine ⟨_,rfl,_,rfl,?_⟩
  refine iteC (decide_eq_false (fun c=>by cases c)) ?_
  obtain ⟨l0,l2,htt,h0,h2⟩:=id ht
  have n26:n.length<=26:=Nat.le_trans (nodup_len n zs pr.dn pr.zn) z26
  have X26:X.length<=26:=Nat.le_trans (nodup_len X zs pr.dX pr.zX) z26
  refine pss_go (ps_if (PW.pt (pw_or (pt_not (pt_val (cB call_isinstT U.isi boot_isinstance (ac (pv 2) (ac (pe_bltn (v:=.ty "tuple") rfl U.tuple PyProof.Rows.boot_tuple rfl) pa_nil))))) (pw_or (pt_cmpR op_ne (cB call_len_seq U.len PySem.boot_len (ac (pv 2) pa_nil)) pe_int (nomark _)) (pw_or1 (pt_not (pt_val (cB call_isinst U.isi boot_isinstance (ac (pe_ix (r:=rIxT K) ix_tup (pv 2) pe_int (fun _ _=>rfl)) (ac (pe_bltn (v:=.ty "bool") rfl U.bool PyProof.Rows.boot_bool rfl) pa_nil))))))))) (pss_one (ps_ret pe_bl)) pss_nil) ?_
  refine ⟨_,rfl,t,_,_,_,rfl,htt,kt_tuple_tuple K,_,rfl,?_⟩
  refine iteF ?_
  refine ⟨_,rfl,t,_,rfl,.inr htt,rfl,_,rfl,?_⟩
  refine iteF ?_
  refine ⟨_,rfl,t,_,1,.bl b,rfl,rfl,htt,rfl,_,_,_,_,rfl,.bl _,T.bBl,_,rfl,?_⟩
  refine iteF ?_
  refine pss_go (ps_if (PW.pt (pw_or (pt_not (pt_val (cF cI hr1 (ac (pe_ix (r:=rIxT K) ix_tup (pv 2) pe_int (fun _ _=>rfl)) (ac (pv 3) pa_nil))))) (pw_or1 (pt_not (pt_val (cF cI hr1 (ac (pe_ix (r:=rIxT K) ix_tup (pv 2) pe_int (fun _ _=>rfl)) (ac (pv 3) pa_nil)))))))) (pss_one (ps_ret pe_bl)) pss_nil) ?_
  refine ⟨_,rfl,t,_,0,.ref l0,rfl,rfl,htt,rfl,_,rfl,l0,pa,n,zs,rfl,h0,hpa,pr.sn,pr.dn,pr.zn,z26,fun H8 s8=>?_⟩
  refine ⟨_,rfl,?_⟩
  refine iteF ?_
  refine ⟨_,rfl,t,_,2,.ref l2,rfl,rfl,s8.sqT htt,rfl,_,rfl,l2,pa,X,zs,rfl,s8 _ _ h2,s8 _ _ hpa,pr.sX,pr.dX,pr.zX,z26,fun H9 s9=>?_⟩
  refine ⟨_,rfl,?_⟩
  refine iteF ?_
  have s79:=s8.trans s9
  have htt:=s79.sqT htt
  have h0:=s79 _ _ h0
  have h2:=s79 _ _ h2
  have hpa:=s79 _ _ hpa
  have hR:=hR.same s79
  have hlb:=s79 _ _ hlb
  have g7:=s79 _ _ g7
  have hF:=hF.same s79
  have s09:=s07.trans s79
  clear s79 s8 s9 s07 s17 ht
  refine pss_go (ps_if (PW.pt (pw_or (pt_cmpR op_ne (pe_ix (r:=rIxT K) ix_tup (pv 2) pe_int (fun _ _=>rfl)) (pe_cmpR (r:=rIn K false) op_in_seq pe_str (pe_lc [] ["_law_one"] [none] rfl ⟨rfl,rfl,rfl,rfl⟩ (pi_list (pv 4)) (gown_name 0) rfl rfl rfl
   (fun pins fp s H C=>⟨pg_name (i:=0) ndOne rfl (Or.inl rfl) (.inr rfl),pif_nil,pe_ix (r:=rIxT K) ix_tup (pv 0) pe_int (fun _ _=>rfl)⟩)) (by with_unfolding_all rfl)) (nomark _)) (pw_or1 (pt_not (pt_val (cF cT hr1 (ac (pv 4) (ac (pv 5) (ac (pv 1) (ac (pe_ix (r:=rIxT K) ix_tup (pv 2) pe_int (fun _ _=>rfl)) pa_nil)))))))))) (pss_one (ps_ret pe_bl)) pss_nil) ?_
  obtain ⟨us9,hla9,hu9⟩:=id hR
  refine ⟨_,rfl,t,_,1,.bl b,rfl,rfl,htt,rfl,_,rfl,la,rfl,⟨_,SqL.of hla9⟩,fun Dc hDc=>?_⟩
  refine lc_zip (K:=K) TAt (fun _=>true) (fun _ r=>.str (kw r.k)) hDc hla9 hu9 (by omega) (fun i u r H' N S hu' hr' tr sH n1 s1=>?_) (fun H10 s10 e10=>?_)
  ·exact ⟨fun _=>⟨_,rfl,u,_,0,_,rfl,rfl,SqT.of (sH _ _ tr),row_at0 (hok r (List.mem_of_getElem? hr')),n1 _ (Same.refl _) rfl⟩,fun e=>Bool.noConfusion e⟩
  rw [zip_out hu9 (fun _=>true) (fun r=>V.str (kw r.k)),List.filter_eq_self.mpr (fun _ _=>rfl),show D.rows.map (fun r=>V.str (kw r.k)) = (D.rows.map fun r=>kw r.k).map V.str by rw [List.map_map]; rfl] at e10
  refine ⟨Dc,_,rfl,.inl (SqL.of e10),rfl,flatStrs,?_⟩
  rw [if_neg Bool.false_ne_true,inStrs,show decide (Str.ofString "bag" ∈ D.rows.map fun r=>kw r.k) = hasK D.rows 4 from in_sorts (k:=4) (by decide) hok,has4_D fD,<- hbg]
  refine ⟨rfl,_,rfl,?_⟩
  refine iteC (by rw [decide_eq_true rfl]; rfl) ?_
  refine ⟨_,rfl,_,rfl,_,rfl,_,rfl,t,_,0,.ref l0,rfl,rfl,s10.sqT htt,rfl,la,lb,l0,many,D.rows,bars,n,rfl,hR.same s10,hok,l24,s10 _ _ hlb,s10 _ _ h0,pr.dn,by omega,fun H11 s11=>?_⟩
  rw [htk,acc_self pr]
  refine ⟨_,rfl,?_⟩
  refine iteF ?_
  have sB:=s10.trans s11
  have htt:=sB.sqT htt
  have h0:=sB _ _ h0
  have h2:=sB _ _ h2
  have hpa:=sB _ _ hpa
  have hR:=hR.same sB
  have hlb:=sB _ _ hlb
  have g7:=sB _ _ g7
  have hF:=hF.same sB
  have s0B:=s09.trans sB
  clear sB s10 s11 e10 hla9 hu9 s09
  refine pss_go (ps_if (pt_not (pt_val (cF cF' hr (ac (pv 0) (ac (pe_lst (ac (pe_tup (ac pe_str (ac (cTy (call_listR rfl) U.list PyProof.Rows.boot_list (ac (cTy call_rng U.range PyProof.Rows.boot_range (ac (pv 1) pa_nil)) pa_nil)) pa_nil))) (ac (pe_tup (ac pe_str (ac (pe_lc [] ["_law_name"] [none] rfl ⟨rfl,rfl,rfl,rfl⟩ (pi_list (pe_ix (r:=rIxT K) ix_tup (pv 2) pe_int (fun _ _=>rfl))) (gown_name 0) rfl rfl rfl
   (fun pins fp s H C=>⟨pg_name (i:=0) ndNm1 rfl (Or.inl rfl) (.inr rfl),pif_nil,pe_tup (ac (pv 0) (ac pe_int pa_nil))⟩)) pa_nil))) pa_nil))) pa_nil))))) (pss_one (ps_ret pe_bl)) pss_nil) ?_
  refine ⟨_,rfl,_,rfl,many,rfl,fun pr1 hpr1=>?_⟩
  have sC:=same_new hpr1 (.rng 0 (many:Nat))
  refine ⟨pr1,many,rfl,upd_same,by omega,fun lr hlr=>?_⟩
  have sD:=same_new hlr (.lst ((intsTo many).map V.int))
  have gD:upd (upd H11 pr1 (.rng 0 (many:Nat))) lr (.lst ((intsTo many).map V.int)) lr = some (.lst ((intsTo many).map V.int)):=upd_same
  have sBD:=sC.trans sD
  refine ⟨(by show 2<=sizeLine; decide),fun t1 ht1=>?_⟩
  have sE:=same_new ht1 (.tup [.str (Str.ofString "row"),.ref lr])
  have sBE:=sBD.trans sE
  have gE:=sE _ _ gD
  have gT:upd (upd (upd H11 pr1 (.rng 0 (many:Nat))) lr (.lst ((intsTo many).map V.int))) t1 (.tup [.str (Str.ofString "row"),.ref lr]) t1 = some (.tup [.str (Str.ofString "row"),.ref lr]):=upd_same
  generalize upd (upd (upd H11 pr1 (.rng 0 (many:Nat))) lr (.lst ((intsTo many).map V.int))) t1 (.tup [.str (Str.ofString "row"),.ref lr]) = HE at sE sBE gE gT |-
  refine ⟨_,rfl,t,_,0,.ref l0,rfl,rfl,sBE.sqT htt,rfl,l0,rfl,⟨_,SqL.of (sBE _ _ h0)⟩,fun Dd hDd=>?_⟩
  refine lc_saysl (K:=K) (m:=1) (fun i=>pairD (n.getD i "",0)) hDd (SqL.of (sBE _ _ h0)) (by rw [List.length_map]; omega) (fun i x H' Qf Qs hx sH qf=>?_) (fun ws HF sF' eF pF=>?_)
  ·obtain ⟨z,hz,rfl⟩:=strs_at hx
   refine ⟨fun _=>?_,fun e=>Bool.noConfusion e⟩
   refine ⟨_,rfl,(by show 2<=sizeLine; decide),fun p hp=>?_⟩
   refine qf _ _ (same_new hp _) ?_
   show Says K _ _ 1 _ (.tup [.str (n.getD i ""),.int 0])
   rw [List.getD_eq_getElem?_getD,hz]
   exact Says.tup (SqT.of upd_same) (.cons .str (.cons .int .nil))
  have epd:(List.range (n.map V.str).length).map (fun i=>pairD (n.getD i "",0)) = (n.map fun z=>(z,(0:Int))).map pairD:=by
   rw [List.length_map,List.map_map]
   refine List.ext_getElem (by simp) fun i h1 h2=>?_
   simp at h1 h2
   simp [h1]
  rw [epd] at pF
  refine ⟨(by show 2<=sizeLine; decide),fun t2 ht2=>?_⟩
  have sG:=same_new ht2 (.tup [.str (Str.ofString "book"),.ref Dd])
  have gG:upd HF t2 (.tup [.str (Str.ofString "book"),.ref Dd]) t2 = some (.tup [.str (Str.ofString "book"),.ref Dd]):=upd_same
  have sEG:=sF'.trans sG
  have eF:=sG _ _ eF
  have gT:=sEG _ _ gT
  have gE:=sEG _ _ gE
  have pF:=Paired.imp' (fun _ _ z=>z.same sG) pF
  have sBG:=sBE.trans sEG
  generalize upd HF t2 (.tup [.str (Str.ofString "book"),.ref Dd]) = HG at sG gG sEG eF gT gE pF sBG |-
  refine ⟨(by show 2<=sizeLine; decide),fun lc hlc=>?_⟩
  have sH:=same_new hlc (.lst [.ref t1,.ref t2])
  have gH:upd HG lc (.lst [.ref t1,.ref t2]) lc = some (.lst [.ref t1,.ref t2]):=upd_same
  have gG:=sH _ _ gG
  have eF:=sH _ _ eF
  have gT:=sH _ _ gT
  have gE:=sH _ _ gE
  have pF:=Paired.imp' (fun _ _ z=>z.same sH) pF
  have sBH:=sBG.trans sH
  generalize upd HG lc (.lst [.ref t1,.ref t2]) = HH at sH gH gG eF gT gE pF sBH |-
  have lint:(intsTo many).length = many:=by unfold intsTo; rw [List.length_map,List.length_range]
  have c1:laidT [.row (intsTo many),.book (n.map fun z=>(z,(0:Int)))] = intsTo many:=by simp [laidT,itT]
  have c2:laidP [.row (intsTo many),.book (n.map fun z=>(z,(0:Int)))] = n.map fun z=>(z,(0:Int)):=by simp [laidP,itP]
  have c3:namesOf [.row (intsTo many),.book (n.map fun z=>(z,(0:Int)))] = n:=by unfold namesOf; rw [c2,List.map_map]; show n.map id = n; exact List.map_id n
  have c4:(missC D.rows bars [.row (intsTo many),.book (n.map fun z=>(z,(0:Int)))]).isEmpty = true:=by
   unfold missC
   rw [c1,c3,lint,takes_fits fD V1 pr.dn (by rw [htk,acc_self pr])]
   rfl
  refine ⟨f,lc,D.rows,bars,[.row (intsTo many),.book (n.map fun z=>(z,(0:Int)))],rfl,hF.same sBH,⟨⟨_,SqL.of gH,.cons (Says.tup (SqT.of gT) (.cons .str (.cons (Says.lst trivial gE ?_) .nil))) (.cons (Says.tup (SqT.of gG) (.cons .str (.cons (Says.lst trivial eF ?_) .nil))) .nil)⟩,by rw [c1,lint]; omega,by rw [c2,List.length_map]; omega⟩,fun HI sI=>?_⟩
  ·exact ints_says _
  ·exact Paired.imp' (fun _ _ z=>says_ok (fun _ _ _=>trivial) z) pF
  rw [c4]
  refine ⟨_,rfl,?_⟩
  refine iteF ?_
  have sBI:=sBH.trans sI
  have htt:=sBI.sqT htt
  have h0:=sBI _ _ h0
  have h2:=sBI _ _ h2
  have hpa:=sBI _ _ hpa
  have hR:=hR.same sBI
  have hlb:=sBI _ _ hlb
  have g7:=sBI _ _ g7
  have s0I:=s0B.trans sBI
  clear sBI sI sBH sH sBG sEG sG sF' sBE sE sBD sD sC gH gG eF gT gE pF gD hF
  refine pss_go (ps_for PassesOwn.never rfl (pi_list (pe_ix (r:=rIxT K) ix_tup (pv 2) pe_int (fun _ _=>rfl))) (pg_name (i:=8) scRight.nd rfl (Or.inr rfl)) pss_all) ?_
  refine ⟨_,rfl,t,_,0,.ref l0,rfl,rfl,htt,rfl,l0,rfl,⟨_,SqL.of h0⟩,for_list (K:=K) (a:=l0) (xs:=n.map V.str) (fun i σ H'=>∃ (v8 v9:Option V),σ = [some (.ref f),some (.int many),some (.ref t),some (.ref pa),some (.ref la),some (.ref lb),some (.ref D5),some (.ref D7),v8,v9]/\Same HI H') ⟨_,_,rfl,Same.refl _⟩ (fun i σ H' _ ⟨_,_,_,sH⟩=>SqL.of (sH _ _ h0)) ?_ ?_⟩
  ·rintro i x σ HJ hx ⟨v8,v9,rfl,sJ⟩
   obtain ⟨z,hz,rfl⟩:=strs_at hx
   have hzn:=List.mem_of_getElem? hz
   have s0J:=s0I.trans sJ
   dsimp only [gName]
   refine pss_go (ps_lc (i:=9) ["_law_name"] ["_law_other","_law_name"] [none,some 8] scRight.nd rfl (Or.inl rfl) rfl ⟨rfl,rfl,rfl,rfl⟩ (pi_list (pv 7)) (gown_name 0) rfl rfl rfl
    (fun pins fp s H C=>⟨pg_name (i:=0) ndON rfl (Or.inl rfl) (.inr rfl),pif_one (pt_cmpR op_ne (pv 0) (pv 1) (nomark _)),pv 0⟩)) ?_
   refine ⟨_,rfl,D7,rfl,⟨_,SqL.of (sJ _ _ g7)⟩,fun Do hDo=>?_⟩
   refine lc_sel (K:=K) (xs:=(lateF D.rows many).map V.str) (lateF D.rows many) (fun y=>!decide (y = z)) V.str hDo (SqL.of (sJ _ _ g7)) (by rw [List.length_map]) (by rw [List.length_map]; omega) (fun i x y H' N S hx' hy sH n1 s1=>?_) (fun HK sK eK=>?_)
   ·obtain ⟨y',hy',rfl⟩:=strs_at hx'
    rw [hy] at hy'
    cases hy'
    refine ⟨_,rfl,_,rfl,rfl,_,rfl,?_⟩
    have e:(!decide (V.str y = V.str z)) = !decide (y = z):=by
     by_cases c:y = z
     ·rw [decide_eq_true c,decide_eq_true (by rw [c])]
     ·rw [decide_eq_false c,decide_eq_false (fun k=>c (V.str.inj k))]
    rw [e]
    exact ⟨fun e=>⟨_,rfl,n1 _ (Same.refl _) e⟩,fun e=>s1 _ (Same.refl _) e⟩
   have eK:HK Do = some (.lst (((lateF D.rows many).filter fun y=>!decide (y = z)).map V.str)):=eK
   have sIK:=sJ.trans sK
   have ndo:((lateF D.rows many).filter fun y=>!decide (y = z)).Nodup:=List.Sublist.nodup List.filter_sublist nl
   have lo:((lateF D.rows many).filter fun y=>!decide (y = z)).length<=22:=Nat.le_trans (List.length_filter_le _ _) ll
   have no:z ∉ (lateF D.rows many).filter fun y=>!decide (y = z):=fun hm=>by
    have:=(List.mem_filter.mp hm).2
    rw [decide_eq_true rfl] at this
    cases this
   generalize (lateF D.rows many).filter (fun y=>!decide (y = z)) = oth at eK ndo lo no
   dsimp only [gName]
   refine ⟨_,pss_one (ps_if (PW.pt (pw_or (pt_cmpR op_eq (pe_cmpR (r:=rIn K false) op_in_seq (pv 8) (pe_ix (r:=rIxT K) ix_tup (pv 2) pe_int (fun _ _=>rfl)) (by with_unfolding_all rfl)) (pe_ix (r:=rIxT K) ix_tup (pv 2) pe_int (fun _ _=>rfl)) (nomark _)) (pw_or1 (pt_val (cF cT hr1 (ac (pv 4) (ac (pv 5) (ac (pv 1) (ac (pv 9) pa_nil))))))))) (pss_one (ps_ret pe_bl)) pss_nil),?_⟩
   refine ⟨_,rfl,_,rfl,t,_,2,.ref l2,rfl,rfl,sIK.sqT htt,rfl,l2,_,rfl,.inl (SqL.of (sIK _ _ h2)),rfl,flatStrs,?_⟩
   rw [if_neg Bool.false_ne_true,inStrs]
   refine ⟨_,rfl,t,_,1,.bl b,rfl,rfl,sIK.sqT htt,rfl,rfl,_,rfl,?_⟩
   refine iteC (by
    have:=in_eq pr hzn
    exact decide_eq_false (fun c=>by rw [V.bl.inj c] at this; simp at this)) ?_
   refine ⟨_,rfl,_,rfl,_,rfl,_,rfl,la,lb,Do,many,D.rows,bars,oth,rfl,hR.same sIK,hok,l24,sIK _ _ hlb,eK,ndo,by omega,fun HL sL=>?_⟩
   rw [htk,acc_lack hzn no]
   refine ⟨_,rfl,?_⟩
   refine iteF ?_
   exact ⟨_,_,rfl,sIK.trans sL⟩
  ·rintro σ HJ ⟨v8,v9,rfl,sJ⟩
   refine ⟨_,pss_one (ps_ret (cF cM hr2 (ac (pv 4) (ac (pv 5) (ac (pv 1) (ac (pv 2) (ac (pv 3) pa_nil))))))),?_⟩
   exact ⟨_,rfl,_,rfl,_,rfl,_,rfl,_,rfl,la,lb,t,pa,many,D,bars,zs,n,X,b,rfl,hR.same sJ,sJ _ _ hlb,⟨l0,l2,sJ.sqT htt,sJ _ _ h0,sJ _ _ h2⟩,sJ _ _ hpa,z26,fD,hok,l24,n26,pr,htk,fun HK sK=>q _ (s0I.trans (sJ.trans sK))⟩
end
end K81
namespace L2
open PySem PySem.Spec PyProof.Rows
def byTx (w:World):Bool:=w.params.followText "set-order"
def Gd (w:World) (es:Array (Int × Value)) (t:SetTable):Prop:=(es.toList.map fun e=>keyOf e.2).Nodup/\(byTx w = true\/t.led = true)/\(t.plain = true->es.size = 0)
def SetW (P:Program) (w:World) (h:Heap) (a:Addr) (S:Str->Bool) (n:Nat):Prop:=
 ∃ o es ep t,h.get? a = some o/\o.ExactSet/\o.data = .set es ep t/\ElemsOf (PySem.strKind P w) es.toList/\(∀ k,S k = true ↔ ∃ e ∈ es.toList,(PySem.strKind P w).is k e.2 = true)
 /\es.size < scanBound/\t.fits es.size = true/\es.size = n/\Gd w es t
theorem layNew_led (t:SetTable) (es:Array (Int × Value)) (h:Int) (x:Value):(layNew t es h x).2.1.led = t.led:=by
 unfold layNew
 split
 ·rename_i slot wd _
  show ((t.put slot).1.orStandIn _).led = t.led
  unfold SetTable.orStandIn
  split <;> rfl
 ·rfl
theorem relayAll_led (t:SetTable) (es:Array (Int × Value)) (k:Nat):(relayAll t es k).2.1.led = t.led:=by
 unfold relayAll
 split
 ·rename_i t' order hr
  dsimp only
  split
  ·unfold SetTable.relaid SetTable.laid at hr
   cases hq:SetTable.layClean (SetTable.sizeAbove k - 1) (es.map (·.1)) with
   | none=>rw [hq] at hr; cases hr
   | some ow=>rw [hq] at hr; injection hr with hr; injection hr with h1 h2; rw [<- h1]
  ·rfl
 ·rfl
theorem relayAll_plain (t:SetTable) (es:Array (Int × Value)) (k:Nat) (h:t.plain = false):(relayAll t es k).2.1.plain = false:=by
 unfold relayAll
 split
 ·rename_i t' order hr
  dsimp only
  split
  ·unfold SetTable.relaid SetTable.laid at hr
   cases hq:SetTable.layClean (SetTable.sizeAbove k - 1) (es.map (·.1)) with
   | none=>rw [hq] at hr; cases hr
   | some ow=>rw [hq] at hr; injection hr with hr; injection hr with h1 h2; rw [<- h1]; exact h
  ·rfl
 ·rfl
section
variable {P:Program} {w:World} {A:Around} {E:Value->Shared->Prop} {s:Shared}
theorem addTailW {g:Bool->Sem Unit} (hg:∀ (b:Bool) (s₁:Shared) (Q':Unit->Shared->Prop),Q' () s₁->wpAny (model P w) A (g b) Q' E s₁)
  {a:Addr} {o:Obj} {es:Array (Int × Value)} {ep:Nat} {t:SetTable} (ho:s.heap.get? a = some o) (hex:o.ExactSet) (hd:o.data = .set es ep t)
  {es1:Array (Int × Value)} {t2:SetTable} {S':Str->Bool} (hel1:ElemsOf (PySem.strKind P w) es1.toList) (hmem1:∀ k',S' k' = true ↔ ∃ e ∈ es1.toList,(PySem.strKind P w).is k' e.2 = true)
  (hb1:es1.size < scanBound) (hf2:t2.fits es1.size = true) (hnd:(es1.toList.map fun e=>keyOf e.2).Nodup) (hld:byTx w = true\/t2.led = true) (hpl:t2.plain = false) {wasDummy:Bool} {R:Option Bool->Shared->Prop}
  (h:∀ h',Heap.SameBut a s.heap h'->SetW P w h' a S' es1.size->R (some true) { s with heap:=h' }) :
  wpAny (model P w) A (do
    storeSet a es1 t2
    if (!wasDummy && t2.tooFull) = true then do
      g (relayAll t2 es1 (SetTable.grown es1.size)).2.2
      storeSet a (relayAll t2 es1 (SetTable.grown es1.size)).1 (relayAll t2 es1 (SetTable.grown es1.size)).2.1
      pure (some true)
     else pure (some true)) R E s:=by
 refine wpAny_bind (wpAny_storeSet_of ho hd ?_ (fits_of_scanBound hb1))
 obtain ⟨ho1,hS1⟩:=SetOf_store (knd:=PySem.strKind P w) ho hex hd hel1 hmem1 hb1 hf2
 have hsb1:=Heap.SameBut.update s.heap a (Obj.putSet es1 t2)
 split
 ·have hp:=relayAll_perm t2 es1 (SetTable.grown es1.size)
  have hfr:=relayAll_fits t2 es1 (SetTable.grown es1.size)
  have hl:=relayAll_led t2 es1 (SetTable.grown es1.size)
  have hpp:=relayAll_plain t2 es1 (SetTable.grown es1.size) hpl
  generalize hRl:relayAll t2 es1 (SetTable.grown es1.size) = Rl at hp hfr hl hpp |-
  obtain ⟨es2,t3,gave2⟩:=Rl
  dsimp only at hp hfr hl hpp |-
  have hel2:ElemsOf (PySem.strKind P w) es2.toList:=hel1.perm hp
  have hmem2:∀ k',S' k' = true ↔ ∃ e ∈ es2.toList,(PySem.strKind P w).is k' e.2 = true:=fun k'=>(hmem1 k').trans ⟨fun ⟨e,he,q⟩=>⟨e,hp.mem_iff.mpr he,q⟩,fun ⟨e,he,q⟩=>⟨e,hp.mem_iff.mp he,q⟩⟩
  have hsz:es2.size = es1.size:=by rw [<- Array.length_toList,hp.length_eq,Array.length_toList]
  have hb2:es2.size < scanBound:=by rw [hsz]; exact hb1
  refine wpAny_bind (hg _ _ _ ?_)
  refine wpAny_bind (wpAny_storeSet_of ho1 rfl ?_ (fits_of_scanBound hb2))
  obtain ⟨hg2,_⟩:=SetOf_store (knd:=PySem.strKind P w) ho1 hex rfl hel2 hmem2 hb2 hfr
  exact wpAny_pure (h _ (hsb1.trans (Heap.SameBut.update _ a _)) ⟨_,es2,_,t3,hg2,hex,rfl,hel2,hmem2,hb2,hfr,hsz,(hp.map _).nodup_iff.mpr hnd,by rw [hl]; exact hld,fun e=>by rw [hpp] at e; cases e⟩)
 ·exact wpAny_pure (h _ hsb1 ⟨_,es1,_,t2,ho1,hex,rfl,hel1,hmem1,hb1,hf2,rfl,hnd,hld,fun e=>by rw [hpl] at e; cases e⟩)
theorem setAddW {a:Addr} {S:Str->Bool} {n:Nat} {z:Str} {tk:Tok} {Q:Bool->Shared->Prop} (hS:SetW P w s.heap a S n)
  (hroom:n + 1 < scanBound)
  (h:∀ h',Heap.SameBut a s.heap h'->SetW P w h' a (fun k'=>S k' || decide (k' = z)) (if S z then n else n + 1)->Q (!S z) { s with heap:=h' }) :
  wpAny (model P w) A (setAddHashed a (.str z tk) ((PySem.strKind P w).hash z)) Q E s:=by
 have hkey:(PySem.strKind P w).is z (.str z tk) = true:=strKind_is _ _ _ _
 have hsc:(Value.str z tk).scannable = true:=rfl
 obtain ⟨o,es,ep,t,ho,hex,hd,hel,hmem,hb,hf,hn,hnd,hld,hpl⟩:=hS
 have hb1:es.size + 1 < scanBound:=by rw [hn]; exact hroom
 unfold setAddHashed setAddHashedIn
 refine wpAny_holding (wpAny_bind (wpAny_setState_of ho hd hf ?_))
 dsimp only
 rw [byScan_of hsc hb hel]
 simp only [↓reduceIte]
 unfold setAddByScan
 refine wpAny_bind ?_
 refine wpAny_bind (wpAny_rule ?_)
 refine wpAny_bind (wpAny_setScan_of hkey ho hd hf hel ?_)
 cases hr:List.findIdx? (fun e=>(PySem.strKind P w).is z e.2) es.toList with
 | some j=>
  dsimp only
  obtain ⟨hj,hpj,_⟩:=List.findIdx?_eq_some_iff_getElem.mp hr
  have hSk:S z = true:=(hmem z).mpr ⟨es.toList[j],List.getElem_mem hj,hpj⟩
  refine wpAny_pure (wpAny_pure ?_)
  have e:s = { s with heap:=s.heap }:=by cases s; rfl
  have:=h s.heap (Heap.SameBut.refl a s.heap) ⟨o,es,ep,t,ho,hex,hd,hel,fun k'=>by
   rw [Bool.or_eq_true,decide_eq_true_eq,<- hmem k']
   exact ⟨fun hk=>hk.elim id (fun e=>e ▸ hSk),.inl⟩,hb,hf,by rw [hSk]; exact hn,hnd,hld,hpl⟩
  rw [hSk] at this; rw [e]; exact this
 | none=>
  dsimp only
  have hSk:S z = false:=by
   cases hk:S z with
   | false=>rfl
   | true=>obtain ⟨e,he,hp⟩:=(hmem z).mp hk; have:=List.findIdx?_eq_none_iff.mp hr e he; rw [hp] at this; exact Bool.noConfusion this
  have hgw:∀ (b:Bool) {s₁:Shared} {Q':Unit->Shared->Prop},Q' () s₁->wpAny (model P w) A (match b with | true=>rule "set.scan.the-table-gave-way" | false=>pure ()) Q' E s₁:=
   fun b s₁ Q' hq=>by cases b <;> first | exact wpAny_pure hq | exact wpAny_rule hq
  have hperm:=layNew_perm t es ((PySem.strKind P w).hash z) (.str z tk)
  have hfits:=layNew_fits t es ((PySem.strKind P w).hash z) (.str z tk)
  have hled:=layNew_led t es ((PySem.strKind P w).hash z) (.str z tk)
  generalize hL:layNew t es ((PySem.strKind P w).hash z) (.str z tk) = L at hperm hfits hled |-
  obtain ⟨es1,t1,wasDummy,gave⟩:=L
  dsimp only at hperm hfits hled |-
  rw [Array.toList_push] at hperm
  have hel1:ElemsOf (PySem.strKind P w) es1.toList:=(hel.push hkey hsc).perm hperm
  have hmem1:∀ k',(S k' || decide (k' = z)) = true ↔ ∃ e ∈ es1.toList,(PySem.strKind P w).is k' e.2 = true:=mem_push_iff hkey hmem hperm
  have hb1':es1.size < scanBound:=by rw [<- Array.length_toList,hperm.length_eq,List.length_append,Array.length_toList]; simpa using hb1
  have hnd1:(es1.toList.map fun e=>keyOf e.2).Nodup:=by
   refine (hperm.map _).nodup_iff.mpr ?_
   rw [List.map_append,List.nodup_append]
   refine ⟨hnd,List.nodup_cons.mpr ⟨List.not_mem_nil,List.nodup_nil⟩,fun x hx y hy e=>?_⟩
   obtain ⟨e1,he1,rfl⟩:=List.mem_map.mp hx
   have hy:y = z:=by simpa [keyOf] using hy
   obtain ⟨⟨k1,hk1,_⟩,_⟩:=hel e1 he1
   obtain ⟨tk1,e3⟩:=Value.isStrOf_shape hk1
   have h2:(PySem.strKind P w).is z e1.2 = true:=by
    rw [e3] at e |-
    have:k1 = z:=e.trans hy
    rw [this]
    exact strKind_is _ _ _ _
   have h3:=List.findIdx?_eq_none_iff.mp hr e1 he1
   rw [h2] at h3
   cases h3
  refine wpAny_bind (hgw _ ?_)
  have hsz1:es1.size = n + 1:=by rw [<- Array.length_toList,hperm.length_eq,List.length_append,Array.length_toList,hn]; rfl
  have hend:∀ h',Heap.SameBut a s.heap h'->SetW P w h' a (fun k'=>S k' || decide (k' = z)) es1.size->Q true { s with heap:=h' }:=by
   intro h' hsb hS'; have:=h h' hsb; rw [hSk] at this; rw [hsz1] at hS'; exact this hS'
  split
  ·refine wpAny_bind ?_
   rw [hashByValue_scannable 8 hsc]
   refine wpAny_pure ?_
   refine addTailW ?_ ho hex hd hel1 hmem1 hb1' ?_ hnd1 ?_ ?_ ?_
   ·intro b s₁ Q' hq; cases b <;> first | exact wpAny_pure hq | exact wpAny_rule hq
   ·split
    ·exact hfits
    ·exact SetTable.fits_plain_off hfits
   ·split <;> (rw [show (byTx w = true\/_) = _ from rfl]; exact hld.imp id fun e=>by simpa [hled] using e)
   ·rw [if_neg (show ¬ (plainKind (Value.str z tk) = true) from Bool.false_ne_true)]
   ·intro h' hsb hS'; dsimp only; exact wpAny_pure (hend h' hsb hS')
  ·rename_i hpf
   refine wpAny_bind (wpAny_pure ?_)
   simp only [↓reduceIte]
   refine addTailW ?_ ho hex hd hel1 hmem1 hb1' hfits hnd1 ?_ ?_ ?_
   ·intro b s₁ Q' hq; cases b <;> first | exact wpAny_pure hq | exact wpAny_rule hq
   ·rw [hled]; exact hld
   ·simpa using hpf
   ·intro h' hsb hS'; dsimp only; exact wpAny_pure (hend h' hsb hS')
end
section
variable {P:Program} {w:World} {A:Around} {R:Result->Shared->Prop} {I:Addr} {fp wr:List Addr} {G:Array GenState->Array GenState->Prop} {n:Nat} {Pr:Nat->Value->Prop} {Sg:Nat->Shared->Prop}
theorem texts_loopW (W:WalksS P w A.in1 I fp wr G n Pr Sg) (a:Addr) (ha:a ∉ fp) (val:Nat->Str) (hv:∀ i v,Pr i v->∃ t,v = .str (val i) t) (hb:n + 1 < scanBound) :
  ∀ (k i:Nat) (s:Shared) (T:Str->Bool) (c:Nat),n - i = k->i<=n->Sg i s->c<=i->SetW P w s.heap a T c->
   (∀ s' c',Moved (a :: wr) G s s'->c'<=n->SetW P w s'.heap a (seen val T i k) c'->R (.ok (.ret .none)) s')->
   codeAny (model P w) A (.builtin "set.update.loop" ⟨[.ref a,.ref I],[]⟩) R s
 | 0,i,s,T,c,hk,hi,hg,hc,hT,hR=>by
  have hw:a ∉ wr:=fun z=>ha (W.sub _ z)
  have ei:i = n:=by omega
  subst ei
  refine codeAny_builtin PyProof.Rows.F.entry_set_update_loop ?_; rw [Around.under_plainId PyProof.Rows.F.plain_set_update_loop _]
  show wpAny _ A.in1 (pyNext (.ref I) >>= _) _ _ _; refine wpAny_bind (W.done s _ _ hg fun s' hm=>?_)
  show wpAny _ A.in1 (ret Value.none) _ _ _; refine wpAny_pure (hR s' c (hm.mono fun b z=>List.mem_cons_of_mem _ z) hc ?_)
  obtain ⟨ob,es,ep,t,h1,h2⟩:=hT
  exact ⟨ob,es,ep,t,hm.heap a _ hw h1,h2⟩
 | k + 1,i,s,T,c,hk,hi,hg,hc,hT,hR=>by
  have hw:a ∉ wr:=fun z=>ha (W.sub _ z)
  have hlt:i < n:=by omega
  refine codeAny_builtin PyProof.Rows.F.entry_set_update_loop ?_; rw [Around.under_plainId PyProof.Rows.F.plain_set_update_loop _]
  show wpAny _ A.in1 (pyNext (.ref I) >>= _) _ _ _; refine wpAny_bind (W.item i s _ _ hlt hg fun v s' hP hg' hm=>?_)
  obtain ⟨t,rfl⟩:=hv i v hP
  have hT':SetW P w s'.heap a T c:=by
   obtain ⟨ob,es,ep,tb,h1,h2⟩:=hT
   exact ⟨ob,es,ep,tb,hm.heap a _ hw h1,h2⟩
  show wpAny _ A.in1 (holding [Value.str (val i) t] (setAdd a (.str (val i) t)) >>= _) _ _ s'
  refine wpAny_bind (wpAny_holding ?_); unfold setAdd; refine wpAny_holding ?_
  refine wpAny_bind ((PySem.strKind P w).pyHash (k:=val i) (strKind_is _ _ _ _) ?_)
  refine setAddW (s:={ s' with toks:=s'.toks + 1 }) hT' (by omega) fun h' hsb h3=>?_
  refine wpAny_pure ⟨plainId_quiet PyProof.Rows.F.plain_set_update_loop _,texts_loopW W a ha val hv hb k (i + 1) _ _ _ (by omega) hlt (W.frame _ s' _ _ hg' (Nat.le_succ _) fun b hb' o e=>?_) (by split <;> omega) h3 fun s2 c2 hm2 hc2 h4=>?_⟩
  ·have:b ≠ a:=fun z=>ha (z ▸ hb')
   rw [hsb.2 b this]; exact e
  ·refine hR s2 c2 (Moved.trans W.gtrans ((hm.mono fun b z=>List.mem_cons_of_mem _ z).then_heap (Nat.le_succ _) fun b o hb' e=>?_) hm2) hc2 h4
   have:b ≠ a:=fun z=>hb' (z ▸ List.mem_cons_self)
   rw [hsb.2 b this]; exact e
end
theorem code_set_newW {P:Program} {w:World} {A:Around} {E:Value->Shared->Prop} {s:Shared} (a:Value) {Q₁:Value->Shared->Prop}
  (h:Q₁ (.ref s.heap.objs.size) { s with heap:=s.heap.push (setN (!byTx w)) }) :
  codeAny (model P w) A (.call (.builtin "set.__new__") ⟨[.type "set",a],[]⟩) (wants Q₁ E) s:=by
 refine codeAny_of_tree ?_
 show wpAny _ A.in1 (do checkBuiltinCall "set.__new__" ⟨[.type "set",a],[]⟩; again (.builtin "set.__new__" ⟨[.type "set",a],[]⟩)) _ _ s
 refine wpAny_bind (wpAny_of_eq (PySem.F.newCall_set_1 a) (wpAny_pure ⟨plainId_quiet PySem.F.plain_set_new _,codeAny_builtin PySem.F.entry_set_new ?_⟩))
 rw [Around.under_plainId PySem.F.plain_set_new _]
 unfold Builtin.«set.__new__» Builtin.Frozenset.newClass
 have hsub:=PySem.sub_set_self
 obtain ⟨hp,g,d,tk,os⟩:=s
 dsimp only
 wp_walk
 refine wpAny_askSetting (wpAny_pure ?_)
 dsimp only
 simp only [newObj]
 refine wpAny_bind (wpAny_alloc (wpAny_pure ?_))
 exact wpAny_pure h
set_option maxHeartbeats 8000000 in
theorem call_textsW {P:Program} {w:World} {A:Around} {E:Value->Shared->Prop} {s:Shared} {l:Addr} {items:Array Value} {zs:List Str} {Q:Value->Shared->Prop}
  (hh:A.handled = none) (hl:s.heap.IsList l items) (hv:∀ (i:Nat) (v:Value),items[i]? = some v->∃ t,v = .str (zs.getD i "") t) (hb:items.size + 1 < scanBound)
  (h:∀ (h':Heap) (tk c:Nat),SetW P w h' s.heap.objs.size (seen (fun i=>zs.getD i "") (fun _=>false) 0 items.size) c->(∀ b o,b < s.heap.objs.size->s.heap.get? b = some o->h'.get? b = some o)->Q (.ref s.heap.objs.size) { s with heap:=h',toks:=tk }) :
  wpAny (model P w) A (call (.type "set") [.ref l]) Q E s:=by
 obtain ⟨mc,mt,mro⟩:=PySem.F.called_set.mro
 have q1:=PySem.F.called_set.made; have q2:=PySem.F.called_set.sub; have q3:=PySem.F.called_set.notType; have q4:=PySem.F.called_set.canCreate; have q5:=PySem.F.typeCall_set_1 (.ref l)
 refine wpAny_call (codeAny_of_tree ?_); show wpAny _ _ (callAny (.type "set") _) _ _ _
 refine wpAny_pure ⟨Code.quiet_builtin _ (by decide +kernel),codeAny_builtin PySem.F.entry_type_call ?_⟩; rw [Around.under_plain (weight_type_call_type "set" [.ref l] []) rfl]
 repeat (any_goals first | assumption | wp_step)
 refine codeAny_mono (code_set_newW (.ref l) (E:=E) (Q₁:=fun obj s₁=>∃ led:Bool,(byTx w = true\/led = true)/\obj = .ref s.heap.objs.size/\s₁ = { s with heap:=s.heap.push (setN led) }) ⟨!byTx w,by cases byTx w <;> simp,rfl,rfl⟩) fun r s₁ hr=>?_
 rcases r with e | (_ | _ | _ | obj)
 ·exact hr
 ·exact hr.elim
 ·exact hr.elim
 ·exact hr.elim
 ·obtain ⟨led,hled,rfl,rfl⟩:=hr
  have hS:(s.heap.push (setN led)).get? s.heap.objs.size = some (setN led):=Heap.get?_push_size _ rfl
  have hT:Shared.TypeIs { s with heap:=s.heap.push (setN led) } (.ref s.heap.objs.size) "set":=⟨_,hS,rfl⟩
  have q6:=PySem.F.called_set.init.lookup; have q7:=PySem.F.called_set.init.bind (.ref s.heap.objs.size)
  repeat (any_goals first | assumption | wp_step)
  refine codeAny_mono (codeAny_call_builtin (R:=wants (fun r s₂=>r = .none/\∃ h' tk c,s₂ = { s with heap:=h',toks:=tk }/\SetW P w h' s.heap.objs.size (seen (fun i=>zs.getD i "") (fun _=>false) 0 items.size) c/\∀ b o,b < s.heap.objs.size->s.heap.get? b = some o->h'.get? b = some o) E) PySem.F.called_set.init.plain PySem.F.entry_set_init (check_set_init_1 hT ?_)) fun r₂ s₂ hr₂=>?_
  ·obtain ⟨ol,hol,hcl,nl,hdl⟩:=id hl
   obtain ⟨ocls,odict,odata,oslots⟩:=ol
   simp only at hcl hdl
   subst hcl hdl
   have hol':(s.heap.push (setN led)).get? l = _:=Heap.get?_push_of_some (setN led) hol
   have t1:=PySem.F.sub_list_set; have t2:=PySem.F.sub_list_frozenset
   have t3:(Value.type "list" == Value.type "dict") = false:=by decide
   have hl1:(s.heap.push (setN led)).IsList l items:=⟨_,hol',rfl,nl,rfl⟩
   have hlS:l < s.heap.objs.size:=Heap.lt_size hol
   unfold Builtin.«set.__init__» noKeywords Builtin.Frozenset.updateFrom
   generalize hq:pyIter = pit
   wp_walk
   subst hq
   refine wpAny_pyIter_list hl1 (wpAny_bind (wpAny_runValue ?_))
   have hz:(s.heap.push (setN led)).objs.size = s.heap.objs.size + 1:=Heap.size_push ..
   have n1:l ≠ (s.heap.push (setN led)).objs.size:=by rw [hz]; exact Nat.ne_of_lt (Nat.lt_succ_of_lt hlS)
   have n2:∀ b:Addr,b < s.heap.objs.size->b ∉ [s.heap.objs.size,(s.heap.push (setN led)).objs.size]:=fun b hb' z=>by
    rw [hz] at z
    rcases List.mem_cons.mp z with e | e
    ·exact Nat.ne_of_lt hb' e
    ·exact Nat.ne_of_lt (Nat.lt_succ_of_lt hb') (List.mem_singleton.mp e)
   have n3:s.heap.objs.size ∉ [(s.heap.push (setN led)).objs.size,l]:=fun z=>by
    rw [hz] at z
    rcases List.mem_cons.mp z with e | e
    ·exact Nat.ne_of_lt (Nat.lt_succ_self _) e
    ·exact Nat.ne_of_gt hlS (List.mem_singleton.mp e)
   refine texts_loopW ((Walks.list (by simp [hh]) _ l n1 items).toS) s.heap.objs.size n3 (fun i=>zs.getD i "") hv hb items.size 0 _ (fun _=>false) 0 (by omega) (Nat.zero_le _) ⟨⟨_,Heap.get?_push_size _ rfl,rfl,rfl⟩,hl1.push _⟩ (Nat.le_refl _) ?_ ?_
   ·exact ⟨_,#[],0,_,Heap.get?_push_of_some _ hS,⟨rfl,rfl,rfl⟩,rfl,fun e he=>by simp at he,fun k=>by simp,by unfold scanBound; decide,by rfl,rfl,by simp,hled,fun _=>rfl⟩
   ·rintro ⟨h',g',d',tk',os'⟩ c' hm hc' hS'
    have e1:g' = s.gens:=hm.gens
    have e2:d' = s.drawn:=hm.drawn
    have e3:os' = s.os:=hm.os
    subst e1 e2 e3
    show wpAny _ _ _ _ _ _
    refine wpAny_pure ?_; show wpAny _ _ (ret Value.none) _ _ _
    refine wpAny_pure ⟨rfl,h',tk',c',rfl,hS',fun b o hb' e=>hm.heap b o (n2 b hb') (Heap.get?_push_of_some _ (Heap.get?_push_of_some _ e))⟩
  ·rcases r₂ with e | (_ | _ | _ | ob2)
   ·exact hr₂
   ·exact hr₂.elim
   ·exact hr₂.elim
   ·exact hr₂.elim
   ·obtain ⟨rfl,h',tk,c',rfl,hS',hk'⟩:=hr₂
    repeat (any_goals first | assumption | wp_step)
    exact h _ _ _ hS' hk'
theorem choose_any {M:Model} {A:Around} {E:Value->Shared->Prop} {s:Shared} {src:Source} {n:Nat} {Q:Nat->Shared->Prop} (hn:n ≠ 0) (h:∀ (i:Nat) (d:Drawn),i < n->Q i { s with drawn:=d }):wpAny M A (choose src n) Q E s:=
 fun Γ p hΓ=>⟨hn,h _ _ (Nat.mod_lt _ (Nat.pos_of_ne_zero hn))⟩
theorem eraseIdx_perm {α : Type}:∀ (xs:List α) (i:Nat) (hi:i < xs.length),(xs[i] :: xs.eraseIdx i).Perm xs
 | [],i,hi=>absurd hi (Nat.not_lt_zero _)
 | x :: xs,0,_=>List.Perm.refl _
 | x :: xs,i + 1,hi=>(List.Perm.swap _ _ _).trans (List.Perm.cons x (eraseIdx_perm xs i (Nat.lt_of_succ_lt_succ hi)))
theorem drawOrder_any {M:Model} {A:Around} {E:Value->Shared->Prop} {α : Type}:∀ (n:Nat) (xs:List α) {s:Shared} {Q:List α->Shared->Prop},xs.length = n->(∀ (ys:List α) (d:Drawn),ys.Perm xs->Q ys { s with drawn:=d })->wpAny M A (drawOrder n xs) Q E s
 | 0,xs,s,Q,hl,h=>by
  have:xs = []:=List.eq_nil_of_length_eq_zero hl
  subst this
  exact wpAny_pure (h [] s.drawn (List.Perm.refl _))
 | n + 1,[],s,Q,hl,h=>by cases hl
 | n + 1,x :: xs,s,Q,hl,h=>by
  unfold drawOrder
  refine wpAny_bind (choose_any (by simp) fun i d hi=>?_)
  rw [List.getElem?_eq_getElem hi]
  dsimp only
  refine wpAny_bind (drawOrder_any n _ (by rw [List.length_eraseIdx_of_lt hi,hl]; rfl) fun ys d' hp=>?_)
  exact wpAny_pure (h _ d' ((List.Perm.cons _ hp).trans (eraseIdx_perm _ _ hi)))
theorem pickGo_perm {α : Type} (next:Nat->Nat):∀ (f k:Nat) (left:List α) (out:Array α),left.length = f->(pickOrder.go next f k left out).toList.Perm (out.toList ++ left)
 | 0,k,left,out,hl=>by
  have:left = []:=List.eq_nil_of_length_eq_zero hl
  subst this
  rw [List.append_nil]
  exact List.Perm.refl _
 | f + 1,k,left,out,hl=>by
  unfold pickOrder.go
  have hi:next k % left.length < left.length:=Nat.mod_lt _ (by omega)
  rw [List.getElem?_eq_getElem hi]
  dsimp only
  refine (pickGo_perm next f (k + 1) _ _ (by rw [List.length_eraseIdx_of_lt hi,hl]; rfl)).trans ?_
  rw [Array.toList_push,List.append_assoc]
  exact List.Perm.append_left _ (eraseIdx_perm _ _ hi)
theorem pick_perm {α : Type} (next:Nat->Nat) (xs:Array α):(pickOrder next xs).toList.Perm xs.toList:=by
 have:=pickGo_perm next xs.size 0 xs.toList #[] rfl
 simpa [pickOrder] using this
namespace FS
theorem owner_si:Manifest.owners.lookup (String.ofList ['r','o','t','a','r','e','t','i','_','t','e','s'].reverse) = some Manifest.sig_set_iterator:=by kernel_rfl
theorem slot_si_next:Slot "set_iterator" "__next__" "set_iterator.__next__":=
 .of (owner:="set_iterator") (n:="__next__") (by rw [typeLookup_type,builtinLookup_eq_fast]; kernel_rfl) (by decide +kernel) (by decide +kernel) (by decide +kernel)
  (by first | exact .inl (by decide +kernel) | exact .inr (by decide +kernel)) (by rw [isSubtype_type]; kernel_rfl)
theorem entry_si_next:entryFor table "set_iterator.__next__" = some Builtin.«set_iterator.__next__»:=entryFor_of_tree (by kernel_rfl)
theorem args_si_next (a:Value):argsOk "set_iterator.__next__" ⟨[a],[]⟩:=by
 unfold argsOk; rw [signature?_of (id:="set_iterator.__next__") (n:=['_','_','t','x','e','n','_','_']) (o:=['r','o','t','a','r','e','t','i','_','t','e','s']) (by kernel_rfl) owner_si]; kernel_rfl
theorem slot_si_iter:Slot "set_iterator" "__iter__" "set_iterator.__iter__":=
 .of (owner:="set_iterator") (n:="__iter__") (by rw [typeLookup_type,builtinLookup_eq_fast]; kernel_rfl) (by decide +kernel) (by decide +kernel) (by decide +kernel)
  (by first | exact .inl (by decide +kernel) | exact .inr (by decide +kernel)) (by rw [isSubtype_type]; kernel_rfl)
theorem args_si_iter (a:Value):argsOk "set_iterator.__iter__" ⟨[a],[]⟩:=by
 unfold argsOk; rw [signature?_of (id:="set_iterator.__iter__") (n:=['_','_','r','e','t','i','_','_']) (o:=['r','o','t','a','r','e','t','i','_','t','e','s']) (by kernel_rfl) owner_si]; kernel_rfl
theorem entry_si_iter:entryFor table "set_iterator.__iter__" = some Builtin.«dict_keyiterator.__iter__»:=
 entryFor_alias (id':="dict_keyiterator.__iter__") (by kernel_rfl) (by first | rfl | decide +kernel | (unfold String.splitOn; simp +decide [String.splitOnAux])) (by decide +kernel) (by kernel_rfl)
theorem entry_set_iter:entryFor table "set.__iter__" = some Builtin.«frozenset.__iter__»:=
 entryFor_alias (id':="frozenset.__iter__") (by kernel_rfl) (by first | rfl | decide +kernel | (unfold String.splitOn; simp +decide [String.splitOnAux])) (by decide +kernel) (by kernel_rfl)
end FS
def IsSI (h:Heap) (I:Addr) (f:Value) (i:Nat) (a:Addr) (n ep:Nat):Prop:=∃ o,h.get? I = some o/\o.cls = .type "set_iterator"/\o.data = .fields #[f,.int i 0,.ref a,.int n 0,.int ep 0]
theorem IsSI.typeIs {s:Shared} {I:Addr} {f:Value} {i:Nat} {a:Addr} {n ep:Nat} (x:IsSI s.heap I f i a n ep):s.TypeIs (.ref I) "set_iterator":=let ⟨o,ho,hc,_⟩:=x; ⟨o,ho,hc⟩
theorem IsSI.at {h h':Heap} {I:Addr} {f:Value} {i:Nat} {a:Addr} {n ep:Nat} (x:IsSI h I f i a n ep) (e:∀ o,h.get? I = some o->h'.get? I = some o):IsSI h' I f i a n ep:=let ⟨o,ho,r⟩:=x; ⟨o,e _ ho,r⟩
section
variable {P:Program} {w:World} {A:Around} {E:Value->Shared->Prop} {s:Shared}
theorem setEntries_of {a:Addr} {o:Obj} {es:Array (Int × Value)} {ep:Nat} {t:SetTable} {Q:Array (Int × Value)->Shared->Prop}
  (ho:s.heap.get? a = some o) (hd:o.data = .set es ep t) (hf:t.fits es.size = true) (h:Q es s) :
  wpAny (model P w) A (setEntries a) Q E s:=by
 unfold setEntries
 exact wpAny_bind (wpAny_setState_of ho hd hf (wpAny_pure h))
end
end L2
namespace L2
open PySem PySem.Spec PyProof.Rows
section
variable {P:Program} {w:World} {A:Around} {E:Value->Shared->Prop} {s:Shared}
theorem fld_set {h:Heap} {I:Addr} {o:Obj} {vs:Array Value} (k:Nat) (x:Value) (ho:h.get? I = some o) (hd:o.data = .fields vs) :
  (h.update I (Obj.mapFields (·.setIfInBounds k x))).get? I = some (Obj.mapFields (·.setIfInBounds k x) o)/\(Obj.mapFields (·.setIfInBounds k x) o).data = .fields (vs.setIfInBounds k x)/\(Obj.mapFields (·.setIfInBounds k x) o).cls = o.cls:=
 ⟨Heap.get?_update_self _ ho (Obj.isFreed_of_fields (Obj.data_mapFields hd _)),Obj.data_mapFields hd _,Obj.cls_mapFields ..⟩
theorem si_stop {I:Addr} {Q:Option Value->Shared->Prop} {h0:Heap} (hh:A.handled = none) (hQ:∀ h',Heap.ExtBut I h0 h'->Q none { s with heap:=h' }) (hx:Heap.ExtBut I h0 s.heap) :
  wpAny (model P w) A.in1 (do let e <- newExc (.type "StopIteration") []; raiseNew e:Sem Fin) (fun fin s'=>∃ v,fin = Fin.done (Flow.ret v)/\wpAny (model P w) A (pure (some v)) Q E s')
   (fun e s'=>wpAny (model P w) A (do let r <- isInstance e (Value.type "StopIteration"); if r = true then pure none else throw e) Q E s') s:=by
 refine wpAny_bind ?_
 simp only [newExc,newTuple]
 refine wpAny_bind (wpAny_newObj_type ?_ (by size_fits))
 refine wpAny_bind (m:=firstArgMember _ _) (wpAny_of_eq (a:=Value.none) (by first | rfl | (simp only [firstArgMember]; rfl)) ?_)
 refine wpAny_newObj_type ?_ (by size_fits)
 simp only [raiseNew]
 refine wpAny_bind (wpAny_handled ?_)
 rw [show A.in1.handled = none from hh]
 refine wpAny_bind (wpAny_pure (wpAny_throw ?_))
 refine wpAny_bind (wpAny_isInstance (T:="StopIteration") (b:=true) ⟨_,Heap.get?_push_size _ rfl,rfl⟩ isSubtype_stop ?_)
 exact wpAny_pure (hQ _ ((hx.push _).push _))
theorem si_next {I:Addr} {a:Addr} {n ep i:Nat} {o:Obj} {es:Array (Int × Value)} {t:SetTable} {x:Value} {sl:Nat->Nat} {Q:Option Value->Shared->Prop} (hn:es.size = n)
  (hit:IsSI s.heap I (.int (sl i) 0) i a n ep) (ho:s.heap.get? a = some o) (hd:o.data = .set es ep t) (hf:t.fits es.size = true)
  (hN:∀ (Q':Option (Value × Nat)->Shared->Prop) (E':Value->Shared->Prop),Q' (some (x,sl (i + 1))) s->wpAny (model P w) A.in1 (setNext a (sl i) i ep) Q' E' s)
  (hQ:∀ h',IsSI h' I (.int (sl (i + 1)) 0) (i + 1) a n ep->Heap.SameBut I s.heap h'->Q (some x) { s with heap:=h' }) :
  wpAny (model P w) A (pyNext (.ref I)) Q E s:=by
 obtain ⟨ob,hob,hc,hdb⟩:=id hit
 unfold pyNext
 refine wpAny_bind (wpAny_attempt (wpAny_callSpecial?_slot (name:=Str.ofString "__next__") hit.typeIs FS.slot_si_next
  (wpAny_call_entry FS.slot_si_next hit.typeIs FS.entry_si_next ?_ (FS.args_si_next _))))
 unfold Builtin.«set_iterator.__next__»
 show wpAny _ _ (fieldsOf (.ref I) >>= _) _ _ s
 refine wpAny_bind (wpAny_fieldsOf hob hdb ?_)
 dsimp only
 refine wpAny_bind (setEntries_of ho hd hf ?_)
 rw [if_neg (by rw [hn]; simp)]
 simp only [Int.toNat_natCast]
 refine wpAny_bind (hN _ _ ?_)
 dsimp only
 refine wpAny_bind (wpAny_setField hob hdb (by simp) ?_)
 obtain ⟨e1,e2,e3⟩:=fld_set 0 (rawInt (sl (i + 1))) hob hdb
 refine wpAny_bind (wpAny_setField e1 e2 (by simp) ?_)
 obtain ⟨e4,e5,e6⟩:=fld_set 1 (rawInt ((i:Int) + 1)) e1 e2
 exact wpAny_pure ⟨x,rfl,wpAny_pure (hQ _ ⟨_,e4,e6.trans (e3.trans hc),by rw [e5]; simp [rawInt]⟩ ((Heap.SameBut.update ..).trans (Heap.SameBut.update ..)))⟩
theorem si_end {I:Addr} {a:Addr} {n ep i:Nat} {o:Obj} {es:Array (Int × Value)} {t:SetTable} {sl:Nat->Nat} {Q:Option Value->Shared->Prop} (hh:A.handled = none) (hn:es.size = n)
  (hit:IsSI s.heap I (.int (sl i) 0) i a n ep) (ho:s.heap.get? a = some o) (hd:o.data = .set es ep t) (hf:t.fits es.size = true)
  (hN:∀ (Q':Option (Value × Nat)->Shared->Prop) (E':Value->Shared->Prop),Q' none s->wpAny (model P w) A.in1 (setNext a (sl i) i ep) Q' E' s)
  (hQ:∀ h',Heap.ExtBut I s.heap h'->Q none { s with heap:=h' }) :
  wpAny (model P w) A (pyNext (.ref I)) Q E s:=by
 obtain ⟨ob,hob,hc,hdb⟩:=id hit
 unfold pyNext
 refine wpAny_bind (wpAny_attempt (wpAny_callSpecial?_slot (name:=Str.ofString "__next__") hit.typeIs FS.slot_si_next
  (wpAny_call_entry FS.slot_si_next hit.typeIs FS.entry_si_next ?_ (FS.args_si_next _))))
 unfold Builtin.«set_iterator.__next__»
 show wpAny _ _ (fieldsOf (.ref I) >>= _) _ _ s
 refine wpAny_bind (wpAny_fieldsOf hob hdb ?_)
 dsimp only
 refine wpAny_bind (setEntries_of ho hd hf ?_)
 rw [if_neg (by rw [hn]; simp)]
 simp only [Int.toNat_natCast]
 refine wpAny_bind (hN _ _ ?_)
 dsimp only
 refine wpAny_bind (wpAny_setField hob hdb (by simp) ?_)
 exact si_stop hh hQ (Heap.SameBut.update ..).extBut
theorem sd_next {I:Addr} {a tu:Addr} {n ep i j:Nat} {o ot:Obj} {es:Array (Int × Value)} {t:SetTable} {x:Value} {ps:Array Value} {pn:Nat} {hx:Int} {Q:Option Value->Shared->Prop} (hn:es.size = n)
  (hit:IsSI s.heap I (.ref tu) i a n ep) (ho:s.heap.get? a = some o) (hd:o.data = .set es ep t) (hf:t.fits es.size = true) (hot:s.heap.get? tu = some ot) (hdt:ot.data = .seq ps pn) (hp:ps[i]? = some (.int j 0)) (hj:es[j]? = some (hx,x))
  (hQ:∀ h',IsSI h' I (.ref tu) (i + 1) a n ep->Heap.SameBut I s.heap h'->Q (some x) { s with heap:=h' }) :
  wpAny (model P w) A (pyNext (.ref I)) Q E s:=by
 obtain ⟨ob,hob,hc,hdb⟩:=id hit
 unfold pyNext
 refine wpAny_bind (wpAny_attempt (wpAny_callSpecial?_slot (name:=Str.ofString "__next__") hit.typeIs FS.slot_si_next
  (wpAny_call_entry FS.slot_si_next hit.typeIs FS.entry_si_next ?_ (FS.args_si_next _))))
 unfold Builtin.«set_iterator.__next__»
 show wpAny _ _ (fieldsOf (.ref I) >>= _) _ _ s
 refine wpAny_bind (wpAny_fieldsOf hob hdb ?_)
 dsimp only
 refine wpAny_bind (setEntries_of ho hd hf ?_)
 rw [if_neg (by rw [hn]; simp)]
 refine wpAny_bind (wpAny_seqItems hot hdt ?_)
 simp only [Int.toNat_natCast,hp]
 unfold setNextDrawn
 refine wpAny_bind (wpAny_bind (wpAny_setState_of ho hd hf ?_))
 dsimp only
 rw [if_neg (by simp),hj]
 dsimp only
 refine wpAny_pure ?_
 refine wpAny_bind (wpAny_setField hob hdb (by simp) ?_)
 obtain ⟨e1,e2,e3⟩:=fld_set 1 (rawInt ((i:Int) + 1)) hob hdb
 exact wpAny_pure ⟨x,rfl,wpAny_pure (hQ _ ⟨_,e1,e3.trans hc,by rw [e2]; simp [rawInt]⟩ (Heap.SameBut.update ..))⟩
theorem sd_end {I:Addr} {a tu:Addr} {n ep i:Nat} {o ot:Obj} {es:Array (Int × Value)} {t:SetTable} {ps:Array Value} {pn:Nat} {Q:Option Value->Shared->Prop} (hh:A.handled = none) (hn:es.size = n)
  (hit:IsSI s.heap I (.ref tu) i a n ep) (ho:s.heap.get? a = some o) (hd:o.data = .set es ep t) (hf:t.fits es.size = true) (hot:s.heap.get? tu = some ot) (hdt:ot.data = .seq ps pn) (hp:ps[i]? = none)
  (hQ:∀ h',Heap.ExtBut I s.heap h'->Q none { s with heap:=h' }) :
  wpAny (model P w) A (pyNext (.ref I)) Q E s:=by
 obtain ⟨ob,hob,hc,hdb⟩:=id hit
 unfold pyNext
 refine wpAny_bind (wpAny_attempt (wpAny_callSpecial?_slot (name:=Str.ofString "__next__") hit.typeIs FS.slot_si_next
  (wpAny_call_entry FS.slot_si_next hit.typeIs FS.entry_si_next ?_ (FS.args_si_next _))))
 unfold Builtin.«set_iterator.__next__»
 show wpAny _ _ (fieldsOf (.ref I) >>= _) _ _ s
 refine wpAny_bind (wpAny_fieldsOf hob hdb ?_)
 dsimp only
 refine wpAny_bind (setEntries_of ho hd hf ?_)
 rw [if_neg (by rw [hn]; simp)]
 refine wpAny_bind (wpAny_seqItems hot hdt ?_)
 simp only [Int.toNat_natCast,hp]
 refine wpAny_bind (wpAny_setField hob hdb (by simp) ?_)
 obtain ⟨e1,e2,e3⟩:=fld_set 0 (rawInt 0) hob hdb
 refine wpAny_bind (wpAny_setField e1 e2 (by simp) ?_)
 exact si_stop hh hQ ((Heap.SameBut.update ..).trans (Heap.SameBut.update ..)).extBut
theorem byText_of {Q:Bool->Shared->Prop} (h:Q (byTx w) s):wpAny (model P w) A setsByText Q E s:=by
 unfold setsByText
 refine wpAny_bind (wpAny_askSetting (wpAny_pure ?_))
 exact h
theorem setNext_T {a:Addr} {o:Obj} {es:Array (Int × Value)} {ep i:Nat} {t:SetTable} (ho:s.heap.get? a = some o) (hd:o.data = .set es ep t) (hf:t.fits es.size = true) (hb:byTx w = true) (Q:Option (Value × Nat)->Shared->Prop)
  (h:Q (((pickOrder (w.params.setOrder a ep) es)[i]?).map fun e=>(e.2,0)) s):wpAny (model P w) A (setNext a 0 i ep) Q E s:=by
 unfold setNext
 refine wpAny_bind (wpAny_setState_of ho hd hf ?_)
 dsimp only
 refine wpAny_bind (byText_of ?_)
 rw [if_pos hb,if_neg (by simp)]
 unfold setWalk
 refine wpAny_bind (wpAny_bind (wpAny_setState_of ho hd hf ?_))
 dsimp only
 refine wpAny_bind (byText_of ?_)
 rw [if_pos hb]
 refine wpAny_bind (wpAny_askSetting (wpAny_pure ?_))
 exact wpAny_pure h
theorem setNext_1 {a:Addr} {o:Obj} {es:Array (Int × Value)} {ep i sl:Nat} {t:SetTable} (ho:s.heap.get? a = some o) (hd:o.data = .set es ep t) (hf:t.fits es.size = true) (hb:byTx w = false) (hl:t.led = true) (h1:es.size<=1) (Q:Option (Value × Nat)->Shared->Prop)
  (h:Q (match es[SetTable.below t.place sl]?,t.place[SetTable.below t.place sl]? with | some (_,x),some j=>some (x,j + 1) | _,_=>none) s):wpAny (model P w) A (setNext a sl i ep) Q E s:=by
 unfold setNext
 refine wpAny_bind (wpAny_setState_of ho hd hf ?_)
 dsimp only
 refine wpAny_bind (byText_of ?_)
 rw [if_neg (by rw [hb]; decide)]
 show wpAny _ _ (if (!t.plain && decide (es.size > 1)) = true then _ else _) _ _ _
 rw [if_neg (by simp; omega)]
 show wpAny _ _ ((if (!t.led && !es.isEmpty) = true then unsupported "set:maker-not-led" else pure ()) >>= _) _ _ _
 rw [if_neg (by simp [hl])]
 exact wpAny_bind (wpAny_pure (wpAny_pure h))
theorem si_self {I:Addr} {f:Value} {i:Nat} {a:Addr} {n ep:Nat} {Q:Value->Shared->Prop} (hit:IsSI s.heap I f i a n ep) (h:Q (.ref I) s):wpAny (model P w) A (pyIter (.ref I)) Q E s:=by
 refine wpAny_pyIter_slot hit.typeIs FS.slot_si_iter (wpAny_call_entry FS.slot_si_iter hit.typeIs FS.entry_si_iter ?_ (FS.args_si_iter _))
 show wpAny _ _ (ret (.ref I)) _ _ s
 exact wpAny_pure ⟨_,rfl,"set_iterator",_,hit.typeIs,FS.slot_si_next.lookup,h⟩
theorem walks_si (hh:A.handled = none) {I a:Addr} (hne:a ≠ I) {o:Obj} {es:Array (Int × Value)} {ep:Nat} {t:SetTable} (hd:o.data = .set es ep t) (hf:t.fits es.size = true) (vs:List Value) (hvs:vs.length = es.size) (sl:Nat->Nat)
  (hN:∀ (i:Nat) (s:Shared) (Q':Option (Value × Nat)->Shared->Prop) (E':Value->Shared->Prop),i<=vs.length->s.heap.get? a = some o->Q' ((vs[i]?).map fun v=>(v,sl (i + 1))) s->wpAny (model P w) A.in1 (setNext a (sl i) i ep) Q' E' s) :
  Walks P w A I [I,a] [I] vs.length (fun i v=>vs[i]? = some v) (fun i h=>i<=vs.length/\IsSI h I (.int (sl i) 0) i a es.size ep/\h.get? a = some o) where
 sub:=fun b hb=>by simp at hb; simp [hb]
 frame:=fun _ _ _ st hk=>⟨st.1,st.2.1.at fun o e=>hk I (by simp) o e,hk a (by simp) o st.2.2⟩
 item:=fun i s Q E hi st hQ=>by
  refine si_next (x:=vs[i]) rfl st.2.1 st.2.2 hd hf (fun Q' E' q=>hN i s Q' E' (Nat.le_of_lt hi) st.2.2 (by rw [List.getElem?_eq_getElem hi]; exact q)) fun h' hit' hs'=>?_
  exact hQ _ h' s.toks (List.getElem?_eq_getElem hi) ⟨hi,hit',hs'.extBut a o hne st.2.2⟩ fun b o hb e=>hs'.extBut b o (fun h=>hb (by simp [h])) e
 done:=fun s Q E st hQ=>si_end hh rfl st.2.1 st.2.2 hd hf (fun Q' E' q=>hN _ s Q' E' (Nat.le_refl _) st.2.2 (by rw [List.getElem?_eq_none (Nat.le_refl _)]; exact q)) fun h' he'=>hQ h' s.toks fun b o hb e=>he' b o (fun h=>hb (by simp [h])) e
 self:=fun _ _ _ _ st hQ=>si_self st.2.1 hQ
theorem walks_sd (hh:A.handled = none) {I a tu:Addr} (hne:a ≠ I) (hnt:tu ≠ I) {o ot:Obj} {es:Array (Int × Value)} {ep pn:Nat} {t:SetTable} (hd:o.data = .set es ep t) (hf:t.fits es.size = true) (ys:List Nat) (hdt:ot.data = .seq (ys.map fun (i:Nat)=>rawInt i).toArray pn) (hy:∀ j ∈ ys,j < es.size) :
  Walks P w A I [I,a,tu] [I] (ys.map fun j=>(es.getD j (0,.none)).2).length (fun i v=>(ys.map fun j=>(es.getD j (0,.none)).2)[i]? = some v) (fun i h=>IsSI h I (.ref tu) i a es.size ep/\h.get? a = some o/\h.get? tu = some ot) where
 sub:=fun b hb=>by simp at hb; simp [hb]
 frame:=fun _ _ _ st hk=>⟨st.1.at fun o e=>hk I (by simp) o e,hk a (by simp) o st.2.1,hk tu (by simp) ot st.2.2⟩
 item:=fun i s Q E hi st hQ=>by
  have hi':i < ys.length:=by simpa using hi
  have hj:ys[i] < es.size:=hy _ (List.getElem_mem hi')
  have e1:es[ys[i]]? = some (es[ys[i]].1,es[ys[i]].2):=Array.getElem?_eq_getElem hj
  refine sd_next (x:=es[ys[i]].2) (j:=ys[i]) rfl st.1 st.2.1 hd hf st.2.2 hdt (by simp [hi',rawInt]) e1 fun h' hit' hs'=>?_
  refine hQ _ h' s.toks ?_ ⟨hit',hs'.extBut a o hne st.2.1,hs'.extBut tu ot hnt st.2.2⟩ fun b o hb e=>hs'.extBut b o (fun h=>hb (by simp [h])) e
  rw [List.getElem?_map,List.getElem?_eq_getElem hi']
  simp [Array.getD,hj]
 done:=fun s Q E st hQ=>sd_end hh rfl st.1 st.2.1 hd hf st.2.2 hdt (by simp) fun h' he'=>hQ h' s.toks fun b o hb e=>he' b o (fun h=>hb (by simp [h])) e
 self:=fun _ _ _ _ st hQ=>si_self st.1 hQ
theorem pyIter_setW {A':Around} {a:Addr} {S:Str->Bool} {n:Nat} {Q:Value->Shared->Prop} (hh:A'.handled = none) (hS:SetW P w s.heap a S n)
  (hQ:∀ (I:Addr) (fp:List Addr) (vs:List Value) (zs:List Str) (St:Nat->Heap->Prop) (h':Heap) (d:Drawn),(∀ b o,s.heap.get? b = some o->h'.get? b = some o)->(∀ b ∈ fp,b = a\/s.heap.objs.size<=b)->s.heap.objs.size<=I->
   Walks P w A' I fp [I] vs.length (fun i v=>vs[i]? = some v) St->St 0 h'->(∀ i h,St i h->∃ o,h.get? I = some o/\o.cls = .type "set_iterator")->StrsAre vs zs->zs.Nodup->(∀ z,z ∈ zs ↔ S z = true)->vs.length = n->Q (.ref I) { s with heap:=h',drawn:=d }) :
  wpAny (model P w) A (pyIter (.ref a)) Q E s:=by
 obtain ⟨o,es,ep,t,ho,hex,hd,hel,hmem,hb,hf,hn,hnd,hld,hpl⟩:=hS
 have hT:s.TypeIs (.ref a) "set":=⟨o,ho,hex.1⟩
 have key:∀ (l:List (Int × Value)),l.Perm es.toList->∃ zs:List Str,StrsAre (l.map (·.2)) zs/\zs.Nodup/\∀ z,z ∈ zs ↔ S z = true:=by
  intro l hp
  refine ⟨l.map fun e=>keyOf e.2,?_,(hp.map _).nodup_iff.mpr hnd,fun z=>?_⟩
  ·have:∀ (l:List (Int × Value)),(∀ e ∈ l,e ∈ es.toList)->StrsAre (l.map (·.2)) (l.map fun e=>keyOf e.2):=by
    intro l
    induction l with
    | nil=>intro _; exact .nil
    | cons e r ih=>
     intro h
     obtain ⟨⟨k,hk,_⟩,_⟩:=hel e (h e List.mem_cons_self)
     obtain ⟨tk,e2⟩:=Value.isStrOf_shape hk
     rw [List.map_cons,List.map_cons,e2]
     exact .cons _ _ (ih fun x hx=>h x (List.mem_cons_of_mem _ hx))
   exact this l fun e he=>hp.mem_iff.mp he
  ·rw [hmem z]
   constructor
   ·intro h
    obtain ⟨e,he,e1⟩:=List.mem_map.mp h
    obtain ⟨⟨k,hk,_⟩,_⟩:=hel e (hp.mem_iff.mp he)
    obtain ⟨tk,e2⟩:=Value.isStrOf_shape hk
    rw [e2] at e1
    have e1:k = z:=e1
    exact ⟨e,hp.mem_iff.mp he,by rw [<- e1]; exact hk⟩
   ·rintro ⟨e,he,hk⟩
    obtain ⟨tk,e2⟩:=Value.isStrOf_shape hk
    refine List.mem_map.mpr ⟨e,hp.mem_iff.mpr he,?_⟩
    rw [e2]
    rfl
 have hlt:a < s.heap.objs.size:=Heap.lt_size ho
 refine wpAny_pyIter_slot hT PySem.F.slot_set_iter (wpAny_call_entry PySem.F.slot_set_iter hT FS.entry_set_iter ?_ (PySem.F.args_set_iter_1 _))
 unfold Builtin.«frozenset.__iter__»
 show wpAny _ _ (Builtin.Frozenset.sizeOf a >>= _) _ _ s
 unfold Builtin.Frozenset.sizeOf
 refine wpAny_bind (wpAny_bind (setEntries_of ho hd hf (wpAny_pure ?_)))
 unfold setDrawn
 refine wpAny_bind (wpAny_bind (wpAny_setState_of ho hd hf ?_))
 dsimp only
 refine wpAny_bind (byText_of (wpAny_pure ?_))
 show wpAny _ _ (if (!byTx w && (!t.plain && decide (es.size > 1))) = true then _ else _) _ _ _
 by_cases hD:(!byTx w && (!t.plain && decide (es.size > 1))) = true
 ·rw [if_pos hD]
  refine wpAny_bind (drawOrder_any _ _ List.length_range fun ys d hp=>?_)
  have hy:∀ j ∈ ys,j < es.size:=fun j hj=>List.mem_range.mp (hp.mem_iff.mp hj)
  have hyl:ys.length = es.size:=by rw [hp.length_eq,List.length_range]
  refine wpAny_bind (wpAny_newTuple ?_ (by rw [List.length_map,hyl]; exact fits_of_scanBound hb))
  have ho1:=fun x:Obj=>Heap.get?_push_of_some x ho
  refine wpAny_bind (wpAny_setEpoch_of (ho1 _) hd hf ?_)
  refine wpAny_bind (wpAny_newObj_type (wpAny_pure ⟨_,rfl,"set_iterator",_,⟨_,Heap.get?_push_size _ rfl,rfl⟩,FS.slot_si_next.lookup,?_⟩))
  have hz:∀ x:Obj,(s.heap.push x).objs.size = s.heap.objs.size + 1:=fun x=>Heap.size_push ..
  obtain ⟨zs,k1,k2,k3⟩:=key (ys.map fun j=>es.getD j (0,.none)) (by
   have e1:(List.range es.size).map (fun j=>es.getD j (0,.none)) = es.toList:=by
    refine List.ext_getElem (by simp) fun i h1 h2=>?_
    have:i < es.size:=by simpa using h2
    simp [Array.getD,this]
   exact e1 ▸ hp.map _)
  rw [List.map_map] at k1
  refine hQ _ _ _ zs _ _ d (fun b o e=>Heap.get?_push_of_some _ (Heap.get?_push_of_some _ e)) ?_ (by dsimp only; rw [hz]; exact Nat.le_succ _) (walks_sd hh (a:=a) (tu:=s.heap.objs.size) (o:=o) (es:=es) (ep:=ep) (t:=t) ?_ ?_ hd hf ys (pn:=0) rfl hy) ⟨⟨_,Heap.get?_push_size _ rfl,rfl,rfl⟩,Heap.get?_push_of_some _ (ho1 _),Heap.get?_push_of_some _ (Heap.get?_push_size _ rfl)⟩ (fun i h st=>?_) k1 k2 k3 (by rw [List.length_map,hyl,hn])
  ·intro b hb'
   dsimp only at hb'
   rw [hz] at hb'
   rcases List.mem_cons.mp hb' with e | hb'
   ·exact .inr (by rw [e]; exact Nat.le_succ _)
   ·rcases List.mem_cons.mp hb' with e | hb'
    ·exact .inl e
    ·exact .inr (by rw [List.mem_singleton.mp hb']; exact Nat.le_refl _)
  ·dsimp only
   rw [hz]
   exact Nat.ne_of_lt (Nat.lt_succ_of_lt hlt)
  ·dsimp only
   rw [hz]
   exact Nat.ne_of_lt (Nat.lt_succ_self _)
  ·obtain ⟨o',e1,e2,_⟩:=st.1
   exact ⟨o',e1,e2⟩
 ·rw [if_neg hD]
  refine wpAny_bind (wpAny_pure ?_)
  refine wpAny_bind (wpAny_setEpoch_of ho hd hf ?_)
  refine wpAny_bind (wpAny_newObj_type (wpAny_pure ⟨_,rfl,"set_iterator",_,⟨_,Heap.get?_push_size _ rfl,rfl⟩,FS.slot_si_next.lookup,?_⟩))
  have hne:a ≠ s.heap.objs.size:=Nat.ne_of_lt hlt
  have fpk:∀ b ∈ [s.heap.objs.size,a],b = a\/s.heap.objs.size<=b:=by
   intro b hb'
   rcases List.mem_cons.mp hb' with e | hb'
   ·exact .inr (by rw [e]; exact Nat.le_refl _)
   ·exact .inl (List.mem_singleton.mp hb')
  by_cases hbt:byTx w = true
  ·obtain ⟨zs,k1,k2,k3⟩:=key (pickOrder (w.params.setOrder a ep) es).toList (pick_perm _ _)
   have hl:((pickOrder (w.params.setOrder a ep) es).toList.map (·.2)).length = es.size:=by rw [List.length_map,(pick_perm _ _).length_eq]; rfl
   refine hQ _ _ _ zs _ _ s.drawn (fun b o e=>Heap.get?_push_of_some _ e) fpk (Nat.le_refl _) (walks_si hh hne hd hf _ hl (fun _=>0) fun i s' Q' E' hi ho' q=>setNext_T ho' hd hf hbt Q' ?_) ⟨Nat.zero_le _,⟨_,Heap.get?_push_size _ rfl,rfl,rfl⟩,Heap.get?_push_of_some _ ho⟩ (fun i h st=>?_) k1 k2 k3 (by rw [hl,hn])
   ·rw [List.getElem?_map] at q
    rw [<- Array.getElem?_toList]
    cases hq:(pickOrder (w.params.setOrder a ep) es).toList[i]? with
    | none=>rw [hq] at q; exact q
    | some e=>rw [hq] at q; exact q
   ·obtain ⟨o',e1,e2,_⟩:=st.2.1
    exact ⟨o',e1,e2⟩
  ·have hbf:byTx w = false:=by simpa using hbt
   have hled:t.led = true:=hld.resolve_left hbt
   have h1:es.size<=1:=by
    rcases Nat.lt_or_ge 1 es.size with h | h
    ·exfalso
     refine hD ?_
     have hp0:t.plain = false:=by
      cases hp0:t.plain with
      | false=>rfl
      | true=>have:=hpl hp0; omega
     simp [hbf,hp0,h]
    ·exact h
   obtain ⟨zs,k1,k2,k3⟩:=key es.toList (List.Perm.refl _)
   have hps:t.place.size = es.size:=by
    simp only [SetTable.fits,Bool.and_eq_true,beq_iff_eq,decide_eq_true_eq] at hf
    exact hf.1
   refine hQ _ _ _ zs _ _ s.drawn (fun b o e=>Heap.get?_push_of_some _ e) fpk (Nat.le_refl _) (walks_si hh hne hd hf (es.toList.map (·.2)) (by simp) (fun i=>if i = 0 then 0 else t.place.getD 0 0 + 1) fun i s' Q' E' hi ho' q=>setNext_1 ho' hd hf hbf hled h1 Q' ?_) ⟨Nat.zero_le _,⟨_,Heap.get?_push_size _ rfl,rfl,rfl⟩,Heap.get?_push_of_some _ ho⟩ (fun i h st=>?_) k1 k2 k3 (by simp [hn])
   ·clear hQ key hel hmem hnd k1 k2 k3
    obtain ⟨mask,place,dm,fi,led,mv,pl⟩:=t
    dsimp only at hps q |-
    rcases Nat.lt_or_ge 0 es.size with h0 | h0
    ·have hes:es.size = 1:=by omega
     obtain ⟨e0,rfl⟩:∃ e0,es = #[e0]:=Array.size_eq_one_iff.mp hes
     obtain ⟨p0,rfl⟩:∃ p0,place = #[p0]:=Array.size_eq_one_iff.mp (by rw [hps,hes])
     have hi:i<=1:=by simpa using hi
     rcases Nat.lt_or_ge i 1 with h2 | h2
     ·have:i = 0:=by omega
      subst this
      have hbel:SetTable.below #[p0] 0 = 0:=by
       simp [SetTable.below,SetTable.below.go]
      simpa [hbel] using q
     ·have:i = 1:=by omega
      subst this
      have hbel:SetTable.below #[p0] (p0 + 1) = 1:=by
       simp [SetTable.below,SetTable.below.go]
      simpa [hbel] using q
    ·have hes:es.size = 0:=by omega
     have:es = #[]:=Array.size_eq_zero_iff.mp hes
     subst this
     simpa using q
   ·obtain ⟨o',e1,e2,_⟩:=st.2.1
    exact ⟨o',e1,e2⟩
end
section
variable {prog:Program} {w:World} {A:Around} {E:Value->Shared->Prop} {s:Shared}
end
section
variable {X:Cx}
end
section
variable {P:Program} {w:World} {A:Around} {E:Value->Shared->Prop} {s:Shared}
theorem wp_ite_pos {M:Model} {α : Type} {c:Prop} [Decidable c] {x y:Sem α} {Q : α->Shared->Prop} (hc:c) (h:wpAny M A x Q E s):wpAny M A (if c then x else y) Q E s:=by
 rw [if_pos hc]
 exact h
theorem collect_setW {a:Addr} {S:Str->Bool} {n:Nat} {Q:List Value->Shared->Prop} (hh:A.handled = none) (hS:SetW P w s.heap a S n) (hn:n<=1000)
  (hQ:∀ (vs:List Value) (zs:List Str) (h':Heap) (d:Drawn) (tk:Nat),s.heap.objs.size<=h'.objs.size->(∀ b o,s.heap.get? b = some o->h'.get? b = some o)->StrsAre vs zs->zs.Nodup->(∀ z,z ∈ zs ↔ S z = true)->vs.length = n->Q vs { s with heap:=h',drawn:=d,toks:=tk }) :
  wpAny (model P w) A (collect (.ref a)) Q E s:=by
 obtain ⟨o,es,ep,t,ho,hex,hr⟩:=id hS
 have hlt:a < s.heap.objs.size:=Heap.lt_size ho
 have hSI:s.heap.objs.size ≠ a:=Nat.ne_of_gt hlt
 unfold collect
 refine wpAny_bind (wpAny_runValue (codeAny_builtin PySem.F.entry_proto_collect ?_))
 rw [Around.under_plainId PySem.F.plain_proto_collect _]
 show wpAny _ A.in1 (newList [] >>= fun l=>again (.builtin "list.__iadd__" ⟨[l,.ref a],[]⟩)) _ _ s
 refine wpAny_bind (wpAny_newObj_type ?_)
 refine wpAny_pure ⟨plainId_quiet PySem.F.plain_list_iadd _,codeAny_builtin PySem.F.entry_list_iadd ?_⟩
 rw [Around.under_plainId PySem.F.plain_list_iadd _]
 have hS1:SetW P w (s.heap.push { cls:=.type "list",data:=.seq ([]:List Value).toArray }) a S n:=⟨o,es,ep,t,Heap.get?_push_of_some _ ho,hex,hr⟩
 have hz1:(s.heap.push { cls:=.type "list",data:=.seq ([]:List Value).toArray }).objs.size = s.heap.objs.size + 1:=Heap.size_push ..
 have hS₁:(s.heap.push { cls:=.type "list",data:=.seq ([]:List Value).toArray }).get? s.heap.objs.size = some { cls:=.type "list",data:=.seq ([]:List Value).toArray }:=Heap.get?_push_size _ rfl
 have old:∀ b o,s.heap.get? b = some o->(s.heap.push { cls:=.type "list",data:=.seq ([]:List Value).toArray }).get? b = some o:=fun b o e=>Heap.get?_push_of_some _ e
 have hbS:∀ b o,s.heap.get? b = some o->b ≠ s.heap.objs.size:=fun b o e=>Nat.ne_of_lt (Heap.lt_size e)
 show wpAny _ A.in1 (Builtin.List.listExtendWith (.ref s.heap.objs.size) (.ref a) (.ref s.heap.objs.size)) _ _ _
 generalize s.heap.push { cls:=.type "list",data:=.seq ([]:List Value).toArray } = hp1 at hS1 hz1 hS₁ old |-
 have hT:Shared.TypeIs { s with heap:=hp1 } (.ref a) "set":=by
  obtain ⟨o,_,_,_,ho,hex,_⟩:=hS1
  exact ⟨o,ho,hex.1⟩
 unfold Builtin.List.listExtendWith
 refine wpAny_bind (wpAny_typeOf hT ?_)
 have h1:Builtin.List.listSameRef (.ref s.heap.objs.size) (.ref a) = false:=by simp [Builtin.List.listSameRef,hSI]
 have h2:(Value.type "set" == Value.type "list") = false:=by decide
 have h3:(Value.type "set" == Value.type "tuple") = false:=by decide
 simp only [h1,h2,h3,Bool.or_false,Bool.false_eq_true,if_false]
 refine wpAny_bind (pyIter_setW (s:={ s with heap:=hp1 }) (A':=A.in1) hh hS1 fun I fp vs zs St h2 d k2 kf kI W hst hTI hzs hnd hmem hlen=>?_)
 have hT2:Shared.TypeIs { s with heap:=h2,drawn:=d } (.ref a) "set":=by
  obtain ⟨o,_,_,_,ho,hex,_⟩:=hS1
  exact ⟨o,k2 _ _ ho,hex.1⟩
 refine wpAny_bind (wpAny_holding ?_)
 unfold Builtin.List.listLengthHint
 refine wpAny_bind (wpAny_specialOf hT2 PySem.F.slot_set_len.lookup ?_)
 dsimp only
 rw [show splitId "set.__len__" = some ("set","__len__") from by decide +kernel]
 show wpAny _ _ (isInstance (.ref a) (.type "set") >>= _) _ _ _
 refine wpAny_bind (wpAny_isInstance (b:=true) hT2 (by rw [isSubtype_type]; kernel_rfl) ?_)
 rw [if_neg (show ¬ ((!true) = true) by decide)]
 refine wp_ite_pos (by decide +kernel) ?_
 refine wpAny_bind (wpAny_typeOf hT2 (wpAny_pure ?_))
 refine wp_ite_pos (by decide +kernel) ?_
 refine wpAny_bind (wpAny_rule ?_)
 have hS₁':=k2 _ _ hS₁
 have hI:I ≠ s.heap.objs.size:=fun e=>by
  rw [e] at kI
  dsimp only at kI
  rw [hz1] at kI
  exact Nat.not_succ_le_self _ kI
 have hSf:s.heap.objs.size ∉ fp:=fun hm=>by
  rcases kf _ hm with e | e
  ·exact hSI e
  ·dsimp only at e
   rw [hz1] at e
   exact Nat.not_succ_le_self _ e
 refine wpAny_bind ?_
 show wpAny _ A.in1 (updateSeq s.heap.objs.size (·.push .none) >>= fun _=>updateSeq s.heap.objs.size (·.pop)) _ _ _
 refine wpAny_bind (wpAny_updateSeq hS₁' rfl ?_)
 have hS₂:=Heap.get?_update_self (Obj.mapSeq (·.push Value.none)) hS₁' rfl
 refine wpAny_updateSeq hS₂ rfl ?_
 have hS₃:=Heap.get?_update_self (Obj.mapSeq (·.pop)) hS₂ rfl
 have oth:∀ b o,b ≠ s.heap.objs.size->h2.get? b = some o->((h2.update s.heap.objs.size (Obj.mapSeq (·.push Value.none))).update s.heap.objs.size (Obj.mapSeq (·.pop))).get? b = some o:=
  fun b o hb e=>(Heap.get?_update_other _ _ (Ne.symm hb)).trans ((Heap.get?_update_other _ _ (Ne.symm hb)).trans e)
 have hW:=W.toS
 refine wpAny_pure ⟨plainId_quiet PySem.F.plain_extend_loop _,codeAny_extend_loopS hW (by rw [hlen]; exact Nat.le_trans hn (by decide)) _ hSf _ vs.length 0 _ _ _ rfl (Nat.zero_le _)
  (W.frame 0 _ _ hst fun b hb o e=>oth b o (fun h=>hSf (h ▸ hb)) e) hS₃ (ItemsOf.nil _) fun s' acc' c' hm hS' hacc=>?_⟩
 show wpAny _ A (load s.heap.objs.size >>= _) _ _ s'
 refine wpAny_bind (wpAny_load hS' ?_)
 have hrv:acc'.toList = vs:=by
  refine List.ext_getElem? fun i=>?_
  have hal:acc'.toList.length = vs.length:=by rw [Array.length_toList,hacc.1]
  by_cases hi:i < vs.length
  ·have hia:i < acc'.toList.length:=by omega
   rw [List.getElem?_eq_getElem hia]
   exact (hacc.2 i acc'.toList[i] (by rw [<- Array.getElem?_toList]; exact List.getElem?_eq_getElem hia)).symm
  ·rw [List.getElem?_eq_none (by omega),List.getElem?_eq_none (by omega)]
 rw [Moved.eq_with hm]
 refine wpAny_pure ?_
 rw [hrv]
 refine hQ vs zs _ _ _ (Nat.le_of_lt (Heap.lt_size hS')) (fun b o e=>?_) hzs hnd hmem hlen
 refine hm.heap b o (fun hmem=>?_) (oth b o (hbS b o e) (k2 b o (old b o e)))
 rcases List.mem_cons.mp hmem with e' | hmem
 ·exact hbS b o e e'
 ·rw [List.mem_singleton.mp hmem] at e
  have:=Heap.lt_size e
  dsimp only at kI
  rw [hz1] at kI
  exact Nat.lt_irrefl _ (Nat.lt_trans this kI)
theorem sorted_setW {a:Addr} {S:Str->Bool} {n:Nat} {Q:Value->Shared->Prop} (hh:A.handled = none) (hS:SetW P w s.heap a S n) (hn:n < 64)
  (hQ:∀ (l:Addr) (out:Array Value) (zs:List Str) (h':Heap) (d:Drawn) (tk e:Nat),(∀ b o,s.heap.get? b = some o->h'.get? b = some o)->s.heap.objs.size<=l->h'.get? l = some (seqObj "list" out e)->StrsAre out.toList zs->zs.Nodup->(∀ z,z ∈ zs ↔ S z = true)->sortedS zs = true->zs.length = n->
   Q (.ref l) { s with heap:=h',drawn:=d,toks:=tk }) :
  wpAny (model P w) A (call (.builtin "sorted") [.ref a]) Q E s:=by
 refine Calls.call_function_entry kind_sorted plain_sorted entry_sorted (args_sorted1 _) ?_
 unfold Builtin.«sorted»
 refine wpAny_bind (m:=checkCount "sorted" 1 1 _) (wpAny_pure ?_)
 refine wpAny_bind (collect_setW hh hS (by omega) fun vs zs h1 d tk hsz k1 hzs hnd hmem hlen=>?_)
 have hzl:zs.length = vs.length:=by
  have:=hzs.strs
  rw [<- this,List.length_map]
 refine wpAny_bind (wpAny_newList ?_ (by rw [hlen]; exact Nat.le_trans (Nat.le_of_lt hn) (by decide)))
 have hoL:(h1.push (seqObj "list" vs.toArray 0)).get? h1.objs.size = some (seqObj "list" vs.toArray 0):=Heap.get?_push_size _ rfl
 refine wpAny_bind (wpAny_holding (wpAny_call_entry slot_list_sort ⟨_,hoL,rfl⟩ entry_list_sort (list_sort_treeK strKind_oneLt hoL hzs.keysOf (fun v₁ v₂ rest e=>keyKind_strs (by rw [<- e]; exact hzs)) (by omega) fun st' a1 a2=>⟨_,rfl,?_⟩) (args_list_sort _)))
 obtain ⟨ss',b1,b2,b3⟩:=sorted_out_str hzs a1 a2
 obtain ⟨e,he⟩:=sortedHeap_at (out:=(arrOf st').map (·.2)) hoL
 refine wpAny_pure ⟨_,rfl,hQ _ _ ss' _ d tk e (fun b o eb=>?_) hsz he b1 (b2.nodup_iff.mpr hnd) (fun z=>(b2.mem_iff).trans (hmem z)) b3 (by rw [b2.length_eq,hzl,hlen])⟩
 have eb1:=k1 b o eb
 have hlt:=Heap.lt_size eb1
 rw [sortedHeap_old (Nat.ne_of_lt hlt) (by rw [size_push']; exact Nat.lt_succ_of_lt hlt),Heap.get?_push_ne _ _ _ (Nat.ne_of_lt hlt)]
 exact eb1
end
def SetWT (P:Program) (w:World) (a:Addr) (S:Str->Bool) (n:Nat) (h:Heap):Prop:=SetW P w h a S n
abbrev setWO (P:Program) (w:World) (a:Addr) (S:Str->Bool) (n:Nat):HO:=.ext (SetWT P w a S n)
theorem setWO_ok {P:Program} {w:World} {H:Hp} {h:Heap} {a:Addr} {S:Str->Bool} {n:Nat} (e:SetW P w h a S n):ObjOk P w H h a (setWO P w a S n):=
 ⟨e,let ⟨o,_,_,_,h1,_⟩:=e; ⟨o,h1⟩,fun g1 g2 q k=>let ⟨o,es,ep,t,h1,c⟩:=q; ⟨o,es,ep,t,k o h1,c⟩⟩
theorem setW_len {P:Program} {w:World} {h:Heap} {a:Addr} {zs:List Str} {n:Nat} (hS:SetW P w h a (fun z=>decide (z ∈ zs)) n):n<=zs.length:=by
 obtain ⟨o,es,ep,t,ho,hex,hd,hel,hmem,hb,hf,hn,hnd,_⟩:=hS
 have:=nodup_len (es.toList.map fun e=>keyOf e.2) zs hnd fun z hz=>by
  obtain ⟨e,he,e1⟩:=List.mem_map.mp hz
  obtain ⟨⟨k,hk,_⟩,_⟩:=hel e he
  have:=(hmem k).mpr ⟨e,he,hk⟩
  obtain ⟨tk,e2⟩:=Value.isStrOf_shape hk
  rw [e2] at e1
  have e1:k = z:=e1
  rw [<- e1]
  exact of_decide_eq_true this
 rw [List.length_map,Array.length_toList] at this
 omega
theorem Inv.drew {X:Cx} {pins:List (Addr × Obj)} {σ : St} {H:Hp} {s:Shared} (I:Inv X pins σ H s) (d:Drawn):Inv X pins σ H { s with drawn:=d }:=
 ⟨I.ok,I.os,I.bare,I.base,I.loc,I.cell,I.free,I.freeC,I.pin,I.hok,I.len⟩
section
variable {X:Cx}
theorem call_setW (hc:X.calm = true):CallR X (.type "set") (fun xs H Q=>∃ (p:Addr) (zs:List Str),xs = [.ref p]/\SqL X.K H p (zs.map V.str)/\zs.length<=900/\∀ (l:Addr) (n:Nat),H l = none->Q (.ref l) (upd H l (setWO X.prog X.w l (fun z=>decide (z ∈ zs)) n))):=by
 intro pins s σ H xs us Q I r h
 obtain ⟨p,zs,rfl,hS,lz,q⟩:=h
 obtain ⟨u,rfl,ru⟩:=vals1 r
 cases ru
 obtain ⟨its,rv,hp,hz⟩:=I.list hS
 have hl:its.length = zs.length:=by rw [<- rv.length,List.length_map]
 have hb:its.toArray.size + 1 < scanBound:=by
  rw [List.size_toArray,hl]
  have : 1000 < scanBound:=by unfold scanBound; decide
  omega
 refine call_textsW (I.ok.hd hc) hp.isList (fun i v e=>rv.strs_at i v (by simpa using e)) hb fun h' tk c hS' hk=>?_
 have hsz:its.toArray.size = zs.length:=by rw [List.size_toArray,hl]
 rw [hsz] at hS'
 have eS:seen (fun i=>zs.getD i "") (fun _=>false) 0 zs.length = fun z=>decide (z ∈ zs):=funext (seen_mem zs)
 rw [eS] at hS'
 refine ⟨.ref s.heap.objs.size,_,I.laid (t':=tk) (fun b ob e=>hk b ob (Heap.lt_size e) e) (Nat.le_refl _) (setWO_ok hS'),rfl,q _ c (I.hok.fresh (Nat.le_refl _))⟩
theorem call_sortedW (hc:X.calm = true):CallR X (.builtin "sorted") (fun xs H Q=>∃ (a:Addr) (zs:List Str) (n:Nat),xs = [.ref a]/\H a = some (setWO X.prog X.w a (fun z=>decide (z ∈ zs)) n)/\zs.length < 64/\∀ (l:Addr) (ys:List Str),H l = none->ys.Nodup->(∀ z,z ∈ ys ↔ z ∈ zs)->Q (.ref l) (upd H l (.lst ((sortS ys).map V.str)))):=by
 intro pins s σ H xs us Q I r h
 obtain ⟨a,zs,n,rfl,e,h64,q⟩:=h
 obtain ⟨u,rfl,ru⟩:=vals1 r
 cases ru
 have hS:SetW X.prog X.w s.heap a (fun z=>decide (z ∈ zs)) n:=(I.hok a _ e).1
 have hn:=setW_len hS
 refine sorted_setW (I.ok.hd hc) hS (by omega) fun l out ys h' d tk ep k1 hsz he hys hnd hmem hso hl=>?_
 have en:=sortS_of (List.Perm.refl ys) hso
 refine ⟨.ref l,_,(I.drew d).laid (t':=tk) (o:=.lst ((sortS ys).map V.str)) k1 hsz ⟨?_,out.toList,ep,?_,by simpa using he⟩,rfl,q l ys (I.hok.fresh hsz) hnd fun z=>?_⟩
 ·rw [List.length_map,<- en,hl]
  have : 1000<=sizeLine:=by decide
  omega
 ·rw [<- en]
  exact StrsAre.vals hys
 ·rw [hmem z]
  exact decide_eq_true_iff
end
end L2
namespace K81
open PySem L2 PyProof.Rows
def rIsi (K:PySem.W.Frag):List V->Hp->VK->Prop:=fun xs H Q=>∃ (x:V) (T:String) (t:Value) (b:Bool),xs = [x,.ty T]/\TyOf K H x t/\PySem.W.kitOne K t (.type T) = some b/\Q (.bl b) H
theorem sort_nd {n ys:List Str} (hs:sortS n = n) (nd:n.Nodup) (ny:ys.Nodup) (h:∀ z,z ∈ ys ↔ z ∈ n):sortS ys = n:=by
 rw [<- hs]
 exact sortS_eq.mpr ((List.perm_ext_iff_of_nodup ny nd).mpr h)
structure TxtN (mg:Str->Option Value):Prop where
 isi:mg "isinstance" = none
 list:mg "list" = none
 str:mg "str" = none
 sorted:mg "sorted" = none
 set:mg "set" = none
 all:mg "all" = none
section
variable {P:Program} {w:World} {K:PySem.W.Frag} {mg:Str->Option Value} {base:Heap} {f CF:Addr} {fd:FuncData} {c:C5}
theorem ndNP:([Str.ofString "_law_name",Str.ofString "_law_pool_here"]:List Str).Nodup:=by decide +kernel
theorem scIsNames:FnScope ["_law_found","_law_pool_here"] ["_law_found","_law_pool_here"] (defScope sIsNames):=⟨rfl,rfl,rfl,by decide +kernel,rfl,by decide +kernel,by decide +kernel⟩
theorem ok_isnames (F:Fun K "_law_is_names" "_law_is_names" sIsNames f fd) (U:TxtN mg):FnOk P w K mg base CX0 1 f fd ["_law_found","_law_pool_here"] spIsN:=by
 refine F.ok scIsNames (fun vs H Q E h=>?_) (fun cdv A outer s H vs Q E hr h=>?_)
 ·obtain ⟨l,pa,n,zs,rfl,_⟩:=h
  rfl
 obtain ⟨l,pa,n,zs,rfl,hl,hpa,hs,nd,hz,z26,q⟩:=h
 have hU:=hr.units
 have ln:n.length<=26:=Nat.le_trans (nodup_len n zs nd hz) z26
 refine pss_go (ps_if (PW.pt (pw_or (pt_not (pt_val (cB call_isinst U.isi boot_isinstance (ac (pv 0) (ac (pe_bltn (v:=.ty "list") rfl U.list PyProof.Rows.boot_list rfl) pa_nil))))) (pw_or1 (pt_cmpR (op_neS hU) (pv 0) (cB (call_sortedW rfl) U.sorted boot_sorted (ac (cTy (call_setW rfl) U.set PyProof.Rows.boot_set (ac (pv 0) pa_nil)) pa_nil)) (nomark _))))) (pss_one (ps_ret pe_bl)) pss_nil) ?_
 refine seq_via (fun σ' H'=>σ' = [some (.ref l),some (.ref pa)]/\Same H H') ?_ (fun key=>?_)
 rotate_left
 ·refine ⟨_,rfl,_,_,_,_,rfl,.lst hl,kt_list_list K,_,rfl,?_⟩
  refine iteF ?_
  refine ⟨_,rfl,_,rfl,l,n,rfl,SqL.of hl,by omega,fun ls m hls=>?_⟩
  have s1:=same_new hls (setWO P w ls (fun z=>decide (z ∈ n)) m)
  refine ⟨ls,n,m,rfl,upd_same,by omega,fun l2 ys hl2 ny hy=>?_⟩
  rw [sort_nd hs nd ny hy]
  have s2:=same_new hl2 (.lst (n.map V.str))
  have s02:=s1.trans s2
  refine ⟨l,l2,0,.lst (n.map Dt.str),fun _=>True,fun _=>True,rfl,rfl,by decide,Says.lst trivial (s02 _ _ hl) (strs_says _),Says.lst trivial upd_same (strs_says _),_,rfl,?_⟩
  refine iteF ?_
  exact key _ _ ⟨rfl,s02⟩
 rintro σ H2 ⟨rfl,s02⟩
 refine ⟨_,pss_one (ps_ret (cB (call_allB rfl) U.all boot_all (ac (pe_lc ["_law_pool_here"] ["_law_name","_law_pool_here"] [none,some 1] rfl ⟨rfl,rfl,rfl,rfl⟩ (pi_list (pv 0)) (gown_name 0) rfl rfl rfl
  (fun pins fp s H C=>⟨pg_name (i:=0) ndNP rfl (Or.inl rfl) (.inr rfl),pif_nil,pe_and (cB (r:=rIsi K) call_isinst U.isi boot_isinstance (ac (pv 0) (ac (pe_bltn (v:=.ty "str") rfl U.str PyProof.Rows.boot_str rfl) pa_nil))) (pe_one (pe_cmpR (r:=rIn K false) op_in_seq (pv 0) (pv 1) (by with_unfolding_all rfl)))⟩)) pa_nil))),?_⟩
 refine ⟨_,rfl,l,rfl,⟨_,SqL.of (s02 _ _ hl)⟩,fun D hD=>?_⟩
 refine lc_sel (K:=K) (xs:=n.map V.str) n (fun _=>true) (fun _=>.bl true) hD (SqL.of (s02 _ _ hl)) (by rw [List.length_map]) (by rw [List.length_map]; omega) (fun i x y H' N S hx hy sH n1 s1=>?_) (fun H3 s3 e3=>?_)
 ·obtain ⟨y',hy',rfl⟩:=strs_at hx
  rw [hy] at hy'
  cases hy'
  have hyn:=List.mem_of_getElem? hy
  refine ⟨fun _=>?_,fun e=>by cases e⟩
  refine ⟨_,rfl,_,_,_,_,rfl,.str y,kt_str_str K,_,rfl,?_⟩
  refine iteT ?_
  refine ⟨_,rfl,_,rfl,pa,_,rfl,.inl (SqL.of ((s02.trans sH) _ _ hpa)),rfl,flatStrs,?_⟩
  rw [if_neg Bool.false_ne_true,inStrs,decide_eq_true (hz y hyn)]
  exact n1 _ (Same.refl _) rfl
 have e3:H3 D = some (.lst ((n.map fun _=>true).map V.bl)):=by rw [e3,List.filter_eq_self.mpr (fun _ _=>rfl),List.map_map]; rfl
 refine ⟨D,_,rfl,SqL.of e3,?_⟩
 rw [show ((n.map fun _=>true).all id) = true from by simp]
 exact q _ (s02.trans s3)
end
end K81
namespace L2
open PySem PySem.Spec PyProof.Rows
end L2
namespace K81
open PySem L2 PyProof.Rows
def rEqN:R2:=fun x y H Q=>∃ (a b:Addr) (xs:List V),x = .ref a/\y = .ref b/\H a = some (.lst xs)/\H b = some (.lst [])/\xs ≠ []/\Q (.bl false) H
theorem op_eqN {X:Cx} (hu:X.A.units < cLine):OpR X (compareOp .Eq) rEqN:=by
 intro pins s σ H x y v u Q I rx ry h
 obtain ⟨a,b,xs,rfl,rfl,ha,hb,e,q⟩:=h
 cases rx; cases ry
 obtain ⟨ia,va,pa,_⟩:=I.list (SqL.of ha)
 obtain ⟨ib,vb,pb,_⟩:=I.list (SqL.of hb)
 cases vb
 have l1:=va.length
 have:ia.length ≠ 0:=fun z=>e (List.eq_nil_of_length_eq_zero (by omega))
 exact SeqAt.RcAt.lists_lengths pa.isList pb.isList (by simp; exact fun z=>this (by rw [z]; rfl)) hu X.prog X.w X.xe _ ⟨.bl false,H,I,rfl,q⟩
section
variable {K:PySem.W.Frag} {ok:Addr->Prop} {H:Hp}
theorem tab_of {m:Nat} {v:V} {rs:List TR} {g:Bool} (h:Says K ok H (m + 2) v (tabD (rs,g))):∃ (t lr:Addr) (ws:List V),v = .ref t/\SqT K H t [.ref lr,.bl g]/\ok lr/\H lr = some (.lst ws)/\Paired (Says K ok H m) ws (rs.map rowD):=by
 rcases h with h | ⟨a,xs,ds,ex,e,hs,p⟩ | ⟨a,xs,ds,_,e,_⟩
 ·cases v <;> exact h.elim
 ·cases e
  cases p with
  | cons h1 p=>cases p with
   | cons h2 p=>
    cases p
    have e1:=says_bl h2
    subst e1
    rcases h1 with h1 | ⟨a1,xs1,ds1,_,e1,_⟩ | ⟨a1,xs1,ds1,ex1,e1,oa,ha,p1⟩
    ·rename_i x
     cases x <;> exact h1.elim
    ·cases e1
    ·cases e1
     subst ex1
     exact ⟨a,a1,xs1,ex,hs,oa,ha,p1⟩
 ·cases e
def AA (Hb Hc:Hp) (lr a:Addr):Prop:=Hb a = none/\(∃ n:List Str,Hc a = some (.lst (n.map V.str))/\n.length<=26)/\a ≠ lr
def RowL (K:PySem.W.Frag) (A:Addr->Prop) (H:Hp) (v:V):Prop:=v = .non\/∃ (t l0 l2:Addr) (b:Bool),v = .ref t/\SqT K H t [.ref l0,.bl b,.ref l2]/\A l0/\A l2
structure MS (K:PySem.W.Frag) (Hb Hc:Hp) (lr lk:Addr) (ws kv:List V) (rs:List TR) (N:Nat) (H:Hp):Prop where
 sm:Same Hb H
 hlr:H lr = some (.lst ws)
 hlk:H lk = some (.lst kv)
 kp:Paired (Says K (fun a=>a ≠ lk/\Hc a = none) H 2) kv (rs.map rowD)
 rw:∀ v ∈ ws,RowL K (AA Hb Hc lr) H v
 ls:∀ a,AA Hb Hc lr a->∃ w:List V,H a = some (.lst w)/\w.length<=N
theorem MS.put {Hb Hc:Hp} {lr lk a:Addr} {ws kv w:List V} {rs:List TR} {N:Nat} (h:MS K Hb Hc lr lk ws kv rs N H) (ha:AA Hb Hc lr a) (hk:Hc lk = none) (hw:w.length<=N + 1):MS K Hb Hc lr lk ws kv rs (N + 1) (upd H a (.lst w)):=by
 obtain ⟨a1,⟨n,a2,_⟩,a3⟩:=id ha
 obtain ⟨w0,e0,_⟩:=h.ls a ha
 have nk:lk ≠ a:=fun e=>by rw [e,a2] at hk; cases hk
 refine ⟨fun b u e=>?_,?_,?_,?_,fun v hv=>?_,fun b hb=>?_⟩
 ·rw [upd_ne (fun c=>by rw [c,a1] at e; cases e)]
  exact h.sm b u e
 ·rw [upd_ne (fun c=>a3 c.symm)]
  exact h.hlr
 ·rw [upd_ne nk]
  exact h.hlk
 ·exact Paired.imp' (fun _ _ z=>says_grow e0 (fun b o=>⟨o,fun c=>by rw [c,a2] at o; cases o.2⟩) z) h.kp
 ·rcases h.rw v hv with e | ⟨t,l0,l2,b,e,ht,h1,h2⟩
  ·exact .inl e
  ·exact .inr ⟨t,l0,l2,b,e,sqT_keep' ⟨_,e0⟩ ht,h1,h2⟩
 ·by_cases c:b = a
  ·rw [c]
   exact ⟨w,upd_same,hw⟩
  ·rw [upd_ne c]
   obtain ⟨w1,e1,l1⟩:=h.ls b hb
   exact ⟨w1,e1,Nat.le_succ_of_le l1⟩
theorem MS.mono {Hb Hc:Hp} {lr lk:Addr} {ws kv:List V} {rs:List TR} {N M:Nat} (h:MS K Hb Hc lr lk ws kv rs N H) (hN:N<=M):MS K Hb Hc lr lk ws kv rs M H:=
 ⟨h.sm,h.hlr,h.hlk,h.kp,h.rw,fun a ha=>let ⟨w,e,l⟩:=h.ls a ha; ⟨w,e,Nat.le_trans l hN⟩⟩
theorem Paired.memL {α β : Type} {R : α->β->Prop} {xs:List α} {ys:List β} (h:Paired R xs ys) {x : α} (hx:x ∈ xs):∃ y ∈ ys,R x y:=by
 obtain ⟨i,hi,rfl⟩:=List.mem_iff_getElem.mp hx
 obtain ⟨y,hy,r⟩:=Paired.get h (List.getElem?_eq_getElem hi)
 exact ⟨y,List.mem_of_getElem? hy,r⟩
theorem rows_ms {Hb Hc:Hp} {lr:Addr} {ws:List V} {rs:List TR} {m:Nat} (hlr:Hc lr = some (.lst ws)) (hw:Paired (Says K (fun a=>Hb a = none) Hc (m + 2)) ws (rs.map rowD)) (hne:ws ≠ []) (h26:∀ n b X,some (n,b,X) ∈ rs->n.length<=26/\X.length<=26):∀ v ∈ ws,RowL K (AA Hb Hc lr) Hc v:=by
 intro v hv
 have nolr:∀ {a:Addr} {n:List Str},Hc a = some (.lst (n.map V.str))->a ≠ lr:=fun {a n} e c=>by
  rw [c,hlr] at e
  injection e with e
  injection e with e
  cases ws with
  | nil=>exact hne rfl
  | cons x l=>
   cases n with
   | nil=>cases e
   | cons z n=>
    obtain ⟨d,hd,sx⟩:=Paired.memL hw (x:=x) List.mem_cons_self
    obtain ⟨r,_,rfl⟩:=List.mem_map.mp hd
    have ex:x = .str z:=(List.cons.inj e).1
    cases r with
    | none=>have:=says_non sx; rw [ex] at this; cases this
    | some r=>
     obtain ⟨n',b,X⟩:=r
     obtain ⟨t,_,_,e',_⟩:=told_of sx
     rw [ex] at e'
     cases e'
 obtain ⟨d,hd,sx⟩:=Paired.memL hw hv
 obtain ⟨r,hr,rfl⟩:=List.mem_map.mp hd
 cases r with
 | none=>exact .inl (says_non sx)
 | some r=>
  obtain ⟨n,b,X⟩:=r
  obtain ⟨t,l0,l2,e,ht,o0,o2,h0,h2⟩:=told_of sx
  obtain ⟨b1,b2⟩:=h26 n b X hr
  exact .inr ⟨t,l0,l2,b,e,ht,⟨o0,⟨n,h0,b1⟩,nolr h0⟩,⟨o2,⟨X,h2,b2⟩,nolr h2⟩⟩
end
theorem cut_some (ns:List Int) (a b:Nat):∃ ms:List Int,cutV (ns.map V.int) (some (a:Int)) (some (b:Int)) = ms.map V.int/\ms.length<=b - a:=by
 refine ⟨(ns.drop (min a ns.length)).take (min b ns.length - min a ns.length),?_,?_⟩
 ·unfold cutV
  rw [HT.sIx_nat,HT.sIx_nat,List.length_map,List.map_take,List.map_drop]
 ·rw [List.length_take,List.length_drop]
  omega
theorem bars_le {zs:List Str} {D:FD} {bars:List Str} (fd:FDok zs D bars):bars.length<=zs.length:=nodup_len bars zs (List.nodup_append.mp fd.nd).2.1 fun z hz=>fd.zn z (List.mem_append.mpr (.inr hz))
def spLawB (K:PySem.W.Frag):Sp:=fun vs H Q _=>∃ (a:Addr) (ns:List Int),vs = [.ref a]/\SqL K H a (ns.map V.int)/\ns.length<=63/\(∀ m ∈ ns,Builtin.Int.intBits m<=1048576)/\∀ H',Q (.bl true) H'
structure TxtW (mg:Str->Option Value):Prop where
 len:mg "len" = none
 isi:mg "isinstance" = none
 tuple:mg "tuple" = none
 list:mg "list" = none
 bool:mg "bool" = none
 range:mg "range" = none
 min:mg "min" = none
theorem tab_mem {zs:List Str} {D:FD} {bars:List Str} {rs:List TR} {g:Bool} (fD:FDok zs D bars) (T:TabOk D bars rs g) (z26:zs.length<=26):∀ n b X,some (n,b,X) ∈ rs->n.length<=26/\X.length<=26:=by
 intro n b X h
 obtain ⟨i,hi,e⟩:=List.mem_iff_getElem.mp h
 have:=T.at_ i (.inr hi)
 rw [show min i (rs.length - 1) = i by omega,List.getElem?_eq_getElem hi,e] at this
 have pr:=proper_s fD (Option.some.inj this).symm
 exact ⟨Nat.le_trans (nodup_len n zs pr.dn pr.zn) z26,Nat.le_trans (nodup_len X zs pr.dX pr.zX) z26⟩
section
variable {P:Program} {w:World} {K:PySem.W.Frag} {mg:Str->Option Value} {base:Heap} {f CF:Addr} {fd:FuncData} {c:C5}
theorem scLaw:FnScope ["_law_script","_law_pool_here","_law_row_here","_law_form_here","_law_found","_law_many","_law_rows","_law_goes_on","_law_k","_law_told","_law_kept"] ["_law_script"] (defScope sLaw):=⟨rfl,rfl,rfl,by decide +kernel,rfl,by decide +kernel,by decide +kernel⟩
theorem ok_law {f1 f2 f3 f4 f5 f6 f7 f8:Addr} {e1 e2 e3 e4 e5 e6 e7 e8:FuncData} (F:Fun K "law" "law" sLaw f fd) (U:TxtW mg) (cN:Callee P w K mg base 1 "_law_nth" f1 e1 ["_law_script","_law_k"] (spNthA K)) (cPo:Callee P w K mg base 1 "_law_pool" f2 e2 ["_law_cell"] (spPool K)) (cR:Callee P w K mg base 2 "_law_row" f3 e3 ["_law_cells","_law_pool_here","_law_ends"] (spRow K)) (cB':Callee P w K mg base 1 "_law_bars" f4 e4 ["_law_row_here","_law_pool_here","_law_number"] spLBars)
  (cFo:Callee P w K mg base 6 "_law_form" f5 e5 ["_law_row_here","_law_bars_here"] (spLForm c CF)) (cTa:Callee P w K mg base 4 "table" f6 e6 ["form"] (spTable K c CF)) (cRi:Callee P w K mg base 7 "_law_row_right" f7 e7 ["_law_form_here","_law_many","_law_told","_law_pool_here"] (spRight K c CF)) (cCo:Callee P w K mg base 1 "_law_copied" f8 e8 ["_law_rows"] (spCopied K)):FnOk P w K mg base CX0 8 f fd ["_law_script"] (spLawB K):=by
 refine F.ok scLaw (fun vs H Q E h=>?_) (fun cdv A outer s H vs Q E hr h=>?_)
 ·obtain ⟨a,ns,rfl,_⟩:=h
  rfl
 obtain ⟨sa,ns,rfl,hS,h63,hbit,q⟩:=h
 have hr1:Room 1 _:=hr.mono (by decide)
 have hr2:Room 2 _:=hr.mono (by decide)
 have hr4:Room 4 _:=hr.mono (by decide)
 have hr6:Room 6 _:=hr.mono (by decide)
 have hU:=hr.units
 refine pss_go (ps_set (i:=1) scLaw.nd rfl (Or.inl rfl) (cF cPo hr1 (ac (cF cN hr1 (ac (pv 0) (ac pe_int pa_nil))) pa_nil))) ?_
 refine ⟨_,rfl,sa,ns,1,rfl,hS,h63,fun c1 H1 s1=>?_⟩
 refine ⟨c1,rfl,fun pa zs H2 s2 np hpa zn zb z0 z26 z40=>?_⟩
 have s02:=s1.trans s2
 clear z40 s1
 dsimp only [gName]
 refine pss_go (ps_set (i:=2) scLaw.nd rfl (Or.inl rfl) (cF cR hr2 (ac (pe_slice sl_list (pv 0) (po_some pe_int) (po_some pe_int)) (ac (pv 1) (ac (cF cN hr1 (ac (pv 0) (ac pe_int pa_nil))) pa_nil))))) ?_
 refine ⟨_,rfl,_,rfl,_,rfl,sa,_,rfl,s02.seq hS,fun ca hca=>?_⟩
 obtain ⟨cs,ec,lc⟩:=cut_some ns 3 23
 rw [show cutV (ns.map V.int) (some 3) (some 23) = cs.map V.int from ec]
 have s4:=same_new hca (.lst (cs.map V.int))
 have g4:upd H2 ca (.lst (cs.map V.int)) ca = some (.lst (cs.map V.int)):=upd_same
 have s04:=s02.trans s4
 have hpa:=s4 _ _ hpa
 generalize upd H2 ca (.lst (cs.map V.int)) = H4 at s4 g4 s04 hpa |-
 refine ⟨_,rfl,_,rfl,sa,ns,0,rfl,s04.seq hS,h63,fun c0 H5 s5=>?_⟩
 refine ⟨ca,pa,cs,zs,c0,rfl,SqL.of (s5 _ _ g4),by omega,s5 _ _ hpa,z0,by omega,zb,fun la us rows H6 s6 nla hla hu VRr nz ⟨S,eS,MS'⟩=>?_⟩
 have s06:=s04.trans (s5.trans s6)
 have hpa:=(s5.trans s6) _ _ hpa
 dsimp only [gName]
 refine pss_go (ps_set (i:=3) scLaw.nd rfl (Or.inl rfl) (cF cFo hr6 (ac (pv 2) (ac (cF cB' hr1 (ac (pv 2) (ac (pv 1) (ac (cF cN hr1 (ac (pv 0) (ac pe_int pa_nil))) pa_nil)))) pa_nil)))) ?_
 refine ⟨_,rfl,_,rfl,_,rfl,_,rfl,sa,ns,2,rfl,s06.seq hS,h63,fun c2 H7 s7=>?_⟩
 refine ⟨la,pa,c2,us,rows,zs,rfl,s7 _ _ hla,tats_same s7 hu,VRr,s7 _ _ hpa,zn,by omega,fun lb bars H8 s8 nlb hlb bn bz bk bl=>?_⟩
 have s68:=s7.trans s8
 have hpa:=s68 _ _ hpa
 obtain ⟨D,eD,fD⟩:=fd_of (zs:=zs) (bars:=bars) eS MS' nz bn bz bk
 subst eD
 have V1:=fD.valid zb (by have:=bars_le fD; omega)
 have l24:=V1.l24
 have hok:=V1.ok
 refine ⟨la,lb,D.rows,bars,rfl,⟨us,s68 _ _ hla,tats_same s68 hu⟩,hlb,V1,fun fo H9 s9 hF=>?_⟩
 have s69:=s68.trans s9
 have hla:=s69 _ _ hla
 have hu:=tats_same s69 hu
 have hpa:=s9 _ _ hpa
 clear eS MS' nz bk VRr s7 s8 s68 s06 s5 s6 s04 s4 g4 ec lc hca s02 s2 s9 s69 hlb
 have l30:bars.length<=30:=by have:=bars_le fD; omega
 have nmB:∀ z ∈ bars,nameB z = true:=fun z hz=>zb z (bz z hz)
 have lu:us.length = D.rows.length:=hu.length
 have T:=tab_ok fD
 generalize eT:tabF D.rows bars = tt at T
 obtain ⟨rs,g⟩:=tt
 dsimp only at T
 dsimp only [gName]
 refine pss_go (ps_set (i:=4) scLaw.nd rfl (Or.inl rfl) (cF cTa hr4 (ac (pv 3) pa_nil))) ?_
 refine ⟨_,rfl,fo,D.rows,bars,rfl,hF,l24,l30,nmB,fun v H10 s10 hsay=>?_⟩
 rw [eT] at hsay
 obtain ⟨t,lr,ws,rfl,ht,olr,hlr,hw⟩:=tab_of (m:=2) hsay
 have lw:ws.length = rs.length:=by rw [hw.length,List.length_map]
 dsimp only [gName]
 refine pss_go (ps_set (i:=5) scLaw.nd rfl (Or.inl rfl) (cB call_len_seq U.len PySem.boot_len (ac (pe_lc [] ["_law_one"] [none] rfl ⟨rfl,rfl,rfl,rfl⟩ (pi_list (pv 2)) (gown_name 0) rfl rfl rfl
   (fun pins fp s H C=>⟨pg_name (i:=0) ndOne rfl (Or.inl rfl) (.inr rfl),pif_one (pt_cmpR (r:=rIn K false) op_in_seq (pe_ix (r:=rIxT K) ix_tup (pv 0) pe_int (fun _ _=>rfl)) (pe_lst (ac pe_str (ac pe_str pa_nil))) (by with_unfolding_all rfl)),pv 0⟩)) pa_nil))) ?_
 refine ⟨_,rfl,la,rfl,⟨_,SqL.of (s10 _ _ hla)⟩,fun D5 hD5=>?_⟩
 refine lc_zip (K:=K) TAt (fun r=>byPl r.k) (fun u _=>.ref u) hD5 (s10 _ _ hla) (tats_same s10 hu) (by omega) (fun i u r H' N S hu' hr' tr sH n1 s1=>?_) (fun H11 s11 e11=>?_)
 ·have rk:=hok r (List.mem_of_getElem? hr')
  have tu:=sH _ _ tr
  refine ⟨_,rfl,u,_,0,_,rfl,rfl,SqT.of tu,row_at0 rk,(by show 2<=sizeLine; decide),fun l hl=>?_⟩
  have s2:=same_new hl (.lst [.str "seat",.str "both"])
  refine ⟨l,_,rfl,.inl (SqL.of upd_same),rfl,rfl,_,rfl,?_⟩
  rw [if_neg Bool.false_ne_true,in_pl' rk.1]
  exact ⟨fun e=>⟨_,rfl,n1 _ s2 e⟩,fun e=>s1 _ s2 e⟩
 obtain ⟨vs,ev,p2⟩:=zip_sel (tats_same (s10.trans s11) hu) fun r=>byPl r.k
 rw [ev] at e11
 have p2:Paired (TAt H11) vs (plcs D.rows):=p2
 have lv:vs.length = D.P.length:=by rw [p2.length,plcs_D fD]
 have lP:D.P.length<=24:=by rw [<- plcs_D fD]; exact Nat.le_trans (List.length_filter_le _ _) l24
 refine ⟨D5,_,rfl,.inl (SqL.of e11),?_⟩
 rw [List.length_map,lv]
 have s911:=s10.trans s11
 have ht:=s11.sqT ht
 have hlr:=s11 _ _ hlr
 have hw:=Paired.imp' (fun _ _ z=>z.same s11) hw
 clear ev p2 lv e11
 dsimp only [gName]
 refine pss_go (ps_if (PW.pt (pw_or (pt_not (pt_val (cB call_isinstT U.isi boot_isinstance (ac (pv 4) (ac (pe_bltn (v:=.ty "tuple") rfl U.tuple PyProof.Rows.boot_tuple rfl) pa_nil))))) (pw_or (pt_cmpR op_ne (cB call_len_seq U.len PySem.boot_len (ac (pv 4) pa_nil)) pe_int (nomark _)) (pw_or1 (pt_not (pt_val (cB call_isinst U.isi boot_isinstance (ac (pe_ix ix_tup (pv 4) pe_int (fun _ _=>rfl)) (ac (pe_bltn (v:=.ty "list") rfl U.list PyProof.Rows.boot_list rfl) pa_nil))))))))) (pss_one (ps_ret pe_bl)) pss_nil) ?_
 refine ⟨_,rfl,t,_,_,_,rfl,ht,kt_tuple_tuple K,_,rfl,?_⟩
 refine iteF ?_
 refine ⟨_,rfl,t,_,rfl,.inr ht,rfl,_,rfl,?_⟩
 refine iteF ?_
 refine ⟨_,rfl,t,_,0,.ref lr,rfl,rfl,ht,rfl,_,_,_,_,rfl,.lst hlr,kt_list_list K,_,rfl,?_⟩
 refine iteF ?_
 refine pss_go (ps_asg (pv 4) (pg_tup rfl (pgs_cons (pg_name (i:=6) scLaw.nd rfl (Or.inl rfl)) (pgs_cons (pg_name (i:=7) scLaw.nd rfl (Or.inl rfl)) pgs_nil)))) ?_
 refine ⟨_,rfl,t,_,rfl,ht,rfl,_,_,rfl,_,_,rfl,rfl,?_⟩
 dsimp only [gName]
 refine pss_go (ps_if (PW.pt (pw_or (pt_not (pt_val (cB call_isinst U.isi boot_isinstance (ac (pv 7) (ac (pe_bltn (v:=.ty "bool") rfl U.bool PyProof.Rows.boot_bool rfl) pa_nil))))) (pw_or1 (pt_cmpR op_ne (pv 7) (pe_cmpR op_in_seq pe_str (pe_lc [] ["_law_one"] [none] rfl ⟨rfl,rfl,rfl,rfl⟩ (pi_list (pv 2)) (gown_name 0) rfl rfl rfl
   (fun pins fp s H C=>⟨pg_name (i:=0) ndOne rfl (Or.inl rfl) (.inr rfl),pif_nil,pe_ix (r:=rIxT K) ix_tup (pv 0) pe_int (fun _ _=>rfl)⟩)) (by with_unfolding_all rfl)) (nomark _))))) (pss_one (ps_ret pe_bl)) pss_nil) ?_
 refine seq_via (fun σ' H'=>σ' = [some (.ref sa),some (.ref pa),some (.ref la),some (.ref fo),some (.ref t),some (.int (D.P.length:Nat)),some (.ref lr),some (.bl g),none,none,none]/\Same H11 H') ?_ (fun key=>?_)
 rotate_left
 ·refine ⟨_,rfl,_,_,_,_,rfl,.bl _,kt_bool_bool K,_,rfl,?_⟩
  refine iteF ?_
  refine ⟨_,rfl,_,rfl,la,rfl,⟨_,SqL.of (s911 _ _ hla)⟩,fun D6 hD6=>?_⟩
  refine lc_zip (K:=K) TAt (fun r=>true) (fun _ r=>.str (kw r.k)) hD6 (s911 _ _ hla) (tats_same s911 hu) (by omega) (fun i u r H' N S hu' hr' tr sH n1 s1=>?_) (fun H12 s12 e12=>?_)
  ·have rk:=hok r (List.mem_of_getElem? hr')
   refine ⟨fun _=>?_,fun e=>by cases e⟩
   exact ⟨_,rfl,u,_,0,_,rfl,rfl,SqT.of (sH _ _ tr),row_at0 rk,n1 _ (Same.refl _) rfl⟩
  rw [zip_out (tats_same s911 hu) (fun _=>true) (fun r=>V.str (kw r.k)),List.filter_eq_self.mpr (fun _ _=>rfl),show D.rows.map (fun r=>V.str (kw r.k)) = (D.rows.map fun r=>kw r.k).map V.str by rw [List.map_map]; rfl] at e12
  refine ⟨D6,_,rfl,.inl (SqL.of e12),rfl,flatStrs,rfl,_,rfl,?_⟩
  rw [if_neg Bool.false_ne_true,inStrs,show decide (Str.ofString "tail" ∈ D.rows.map fun r=>kw r.k) = hasK D.rows 2 from in_sorts (k:=2) (by decide) hok,has2_D fD,<- T.tl,decide_eq_true rfl]
  refine iteF ?_
  exact key _ _ ⟨rfl,s12⟩
 rintro σ H12 ⟨rfl,s12⟩
 have s912:=s911.trans s12
 have ht:=s12.sqT ht
 have hlr:=s12 _ _ hlr
 have hw:=Paired.imp' (fun _ _ z=>z.same s12) hw
 have l0 : 0 < rs.length:=List.length_pos_iff.mpr T.ne
 have lle:=T.le
 have wne:ws ≠ []:=fun e=>by rw [e] at lw; rw [List.length_nil] at lw; omega
 refine pss_go (ps_if (PW.pt (pw_or (PW.pt (pw_and (pt_not (pt_val (pv 7))) (pw_and1 (pt_cmpR op_ne (cB call_len_seq U.len PySem.boot_len (ac (pv 6) pa_nil)) (pe_op op_add (pv 5) pe_int) (nomark _))))) (pw_or (pt_cmpR op_gt (cB call_len_seq U.len PySem.boot_len (ac (pv 6) pa_nil)) (pe_op op_add (pv 5) pe_int) (nomark _)) (pw_or1 (pt_cmpR (op_eqN (Nat.lt_of_le_of_lt (Nat.le_add_right _ 64) hU)) (pv 6) (pe_lst pa_nil) (nomark _)))))) (pss_one (ps_ret pe_bl)) pss_nil) ?_
 refine seq_via (fun σ' H'=>σ' = [some (.ref sa),some (.ref pa),some (.ref la),some (.ref fo),some (.ref t),some (.int (D.P.length:Nat)),some (.ref lr),some (.bl g),none,none,none]/\Same H12 H') ?_ (fun key=>?_)
 rotate_left
 ·have rest:∀ H',Same H12 H'->∀ (R:Hp->Prop),(∀ H'',Same H12 H''->R H'')->R H':=fun H' s R k=>k _ s
  refine ⟨_,rfl,_,rfl,?_⟩
  have cont:∀ {A:Prop},(∀ B:Prop,A->A):=fun B a=>a
  cases g with
  | true=>
   refine iteF ?_
   refine iteF ?_
   refine ⟨_,rfl,lr,_,rfl,.inl (SqL.of hlr),_,rfl,_,_,rfl,rfl,_,_,rfl,rfl,_,rfl,?_⟩
   refine dF (by show ¬ ((D.P.length:Int) + 1 < (ws.length:Nat)); omega) ?_
   refine ⟨_,rfl,(by show 0<=sizeLine; decide),fun le hle=>?_⟩
   have s13:=same_new hle (.lst [])
   refine ⟨lr,le,ws,rfl,rfl,s13 _ _ hlr,upd_same,wne,_,rfl,?_⟩
   refine iteF ?_
   exact key _ _ ⟨rfl,s13⟩
  | false=>
   have:=T.eq rfl
   refine iteT ?_
   refine ⟨_,rfl,lr,_,rfl,.inl (SqL.of hlr),_,rfl,_,_,rfl,rfl,rfl,_,rfl,?_⟩
   refine iteC (show (!decide (V.int (ws.length:Nat) = V.int ((D.P.length:Nat) + 1))) = false from by rw [lw,this]; simp) ?_
   refine ⟨_,rfl,lr,_,rfl,.inl (SqL.of hlr),_,rfl,_,_,rfl,rfl,_,_,rfl,rfl,_,rfl,?_⟩
   refine dF (by show ¬ ((D.P.length:Int) + 1 < (ws.length:Nat)); omega) ?_
   refine ⟨_,rfl,(by show 0<=sizeLine; decide),fun le hle=>?_⟩
   have s13:=same_new hle (.lst [])
   refine ⟨lr,le,ws,rfl,rfl,s13 _ _ hlr,upd_same,wne,_,rfl,?_⟩
   refine iteF ?_
   exact key _ _ ⟨rfl,s13⟩
 rintro σ H13 ⟨rfl,s13⟩
 have s913:=s912.trans s13
 have ht:=s13.sqT ht
 have hlr:=s13 _ _ hlr
 have hw:=Paired.imp' (fun _ _ z=>z.same s13) hw
 have okrs:∀ r ∈ rs,okR r:=fun r hr=>by
  obtain ⟨i,hi,e⟩:=List.mem_iff_getElem.mp hr
  have h1:=T.at_ i (.inr hi)
  rw [show min i (rs.length - 1) = i by omega,List.getElem?_eq_getElem hi,e] at h1
  rw [sF,if_pos (show i<=D.P.length by omega)] at h1
  injection h1 with h1
  rw [h1]
  exact okR_row hok nmB
 refine pss_go (ps_if (PW.pt (pw_and (pt_val (pv 7)) (pw_and (pt_cmpR op_gt (cB call_len_seq U.len PySem.boot_len (ac (pv 6) pa_nil)) pe_int (nomark _)) (pw_and1 (pt_cmpR (op_eqD hU) (pe_ix ix_list (pv 6) (pe_un un_neg pe_int) (fun _ _=>rfl)) (pe_ix ix_list (pv 6) (pe_un un_neg pe_int) (fun _ _=>rfl)) (nomark _)))))) (pss_one (ps_ret pe_bl)) pss_nil) ?_
 refine seq_via (fun σ' H'=>σ' = [some (.ref sa),some (.ref pa),some (.ref la),some (.ref fo),some (.ref t),some (.int (D.P.length:Nat)),some (.ref lr),some (.bl g),none,none,none]/\H13 = H') ?_ (fun key=>?_)
 rotate_left
 ·refine ⟨_,rfl,_,rfl,?_⟩
  cases g with
  | false=>
   refine iteF ?_
   refine iteF ?_
   exact key _ _ ⟨rfl,rfl⟩
  | true=>
   refine iteT ?_
   refine ⟨_,rfl,lr,_,rfl,.inl (SqL.of hlr),_,_,rfl,rfl,_,rfl,?_⟩
   by_cases hl : 1 < rs.length
   rotate_left
   ·refine dF (by show ¬ (1:Int) < (ws.length:Nat); omega) ?_
    refine iteF ?_
    exact key _ _ ⟨rfl,rfl⟩
   refine dT (by show (1:Int) < (ws.length:Nat); omega) ?_
   obtain ⟨x,y,l,ec⟩:∃ x y l,rs.reverse = x :: y :: l:=by
    have:rs.reverse.length = rs.length:=List.length_reverse
    cases e:rs.reverse with
    | nil=>rw [e] at this; rw [<- this] at hl; cases hl
    | cons x l=>cases l with
     | nil=>rw [e] at this; rw [<- this] at hl; exact absurd hl (Nat.lt_irrefl 1)
     | cons y l=>exact ⟨x,y,l,rfl⟩
   have ec':rs = l.reverse ++ [y,x]:=by
    have:=congrArg List.reverse ec
    rw [List.reverse_reverse] at this
    rw [this]
    simp
   have hrv:=pairedRev hw
   rw [<- List.map_reverse,ec,List.map_cons,List.map_cons] at hrv
   obtain ⟨vx,vy,vl,ev,hx,hy,hl'⟩:∃ vx vy vl,ws.reverse = vx :: vy :: vl/\Says K (fun a=>H9 a = none) H13 2 vx (rowD x)/\Says K (fun a=>H9 a = none) H13 2 vy (rowD y)/\Paired (Says K (fun a=>H9 a = none) H13 2) vl (l.map rowD):=by
    generalize ws.reverse = zs at hrv
    cases hrv with
    | cons hx t=>cases t with
     | cons hy t=>exact ⟨_,_,_,rfl,hx,hy,t⟩
   have ev':ws = vl.reverse ++ [vy,vx]:=by
    have:=congrArg List.reverse ev
    rw [List.reverse_reverse] at this
    rw [this]
    simp
   obtain ⟨a1,a2⟩:=at_m1 (vl:=vl.reverse) (vy:=vy) (vx:=vx)
   rw [<- ev'] at a1 a2
   refine ⟨_,rfl,_,rfl,lr,_,_,vx,rfl,rfl,SqL.of hlr,a1,_,rfl,_,rfl,lr,_,_,vy,rfl,rfl,SqL.of hlr,a2,2,_,_,_,_,hx,hy,lay_row (okrs x (by rw [ec']; simp)),lay_row (okrs y (by rw [ec']; simp)),Nat.le_trans (dep_row x) (by decide),_,rfl,?_⟩
   rw [eqv_row]
   refine dF (T.trim rfl x y l ec) ?_
   exact key _ _ ⟨rfl,rfl⟩
 rintro σ _ ⟨rfl,rfl⟩
 refine pss_go (ps_for PassesOwn.never rfl (pi_range1 rfl U.range (ac (pe_op op_add (pv 5) pe_int) pa_nil)) (pg_name (i:=8) scLaw.nd rfl (Or.inl rfl)) pss_all) ?_
 refine ⟨_,rfl,_,_,rfl,rfl,((D.P.length:Nat):Int) + 4,rfl,by omega,by omega,?_⟩
 rw [show (((D.P.length:Nat):Int) + 4).toNat = D.P.length + 4 by omega]
 refine for_range (n:=D.P.length + 4) (fun i σ H'=>∃ (v8 v9:Option V),σ = [some (.ref sa),some (.ref pa),some (.ref la),some (.ref fo),some (.ref t),some (.int (D.P.length:Nat)),some (.ref lr),some (.bl g),v8,v9,none]/\Same H13 H') ⟨_,_,rfl,Same.refl _⟩ ?_ ?_
 ·rintro i σ H14 hi ⟨v8,v9,rfl,s14⟩
  rw [Int.zero_add]
  dsimp only [gName]
  have hlr:=s14 _ _ hlr
  obtain ⟨vk,evk⟩:∃ vk,ws[min i (ws.length - 1)]? = some vk:=⟨_,List.getElem?_eq_getElem (by omega)⟩
  refine pss_go (ps_set (i:=9) scLaw.nd rfl (Or.inl rfl) (pe_ix ix_list (pv 6) (cB (call_min2 rfl) U.min boot_min (ac (pv 8) (ac (pe_op op_sub (cB call_len_seq U.len PySem.boot_len (ac (pv 6) pa_nil)) pe_int) pa_nil))) (fun _ _=>rfl))) ?_
  refine ⟨_,rfl,_,rfl,_,rfl,lr,_,rfl,.inl (SqL.of hlr),_,_,rfl,rfl,_,_,rfl,lr,_,_,vk,rfl,rfl,SqL.of hlr,?_,?_⟩
  ·rw [show (if ((ws.length:Nat):Int) - 1 < (i:Nat) then ((ws.length:Nat):Int) - 1 else ((i:Nat):Int)) = ((min i (ws.length - 1):Nat):Int) from by split <;> omega]
   exact atI_nat evk
  dsimp only [gName]
  refine ⟨_,pss_one (ps_if (PW.pt (pw_and (PW.pt (pw_or (pt_val (pv 7)) (pw_or1 (pt_cmpR op_lt (pv 8) (cB call_len_seq U.len PySem.boot_len (ac (pv 6) pa_nil)) (nomark _))))) (pw_and1 (pt_not (pt_val (cF cRi hr (ac (pv 3) (ac (pv 8) (ac (pv 9) (ac (pv 1) pa_nil)))))))))) (pss_one (ps_ret pe_bl)) pss_nil),?_⟩
  have right:(g = true\/i < rs.length)->RowAt K H14 vk (sF D bars i):=fun hg=>by
   have h1:=T.at_ i hg
   obtain ⟨d,hd,sx⟩:=Paired.get hw evk
   rw [List.getElem?_map,lw,h1] at hd
   have hd:some (rowD (sF D bars i)) = some d:=hd
   cases hd
   have sx:=sx.same s14
   cases e:sF D bars i with
   | none=>rw [e] at sx; exact says_non sx
   | some r=>
    obtain ⟨n,b,X⟩:=r
    rw [e] at sx
    obtain ⟨t,l0,l2,e1,h1,_,_,h2,h3⟩:=told_of sx
    exact ⟨t,e1,l0,l2,h1,h2,h3⟩
  have go:RowAt K H14 vk (sF D bars i)->∃ (f pa':Addr) (many:Nat) (v:V) (D':FD) (bars' zs':List Str),[V.ref fo,.int (i:Nat),vk,.ref pa] = [.ref f,.int many,v,.ref pa']/\FormOk c CF H14 f D'.rows bars'/\Valid D'.rows bars'/\FDok zs' D' bars'/\H14 pa' = some (.lst (zs'.map V.str))/\zs'.length<=26/\many<=40/\RowAt K H14 v (sF D' bars' many):=fun h=>
   ⟨fo,pa,i,vk,D,bars,zs,rfl,hF.same (s913.trans s14),V1,fD,(s913.trans s14) _ _ hpa,z26,by omega,h⟩
  refine ⟨_,rfl,_,rfl,?_⟩
  cases hg:g with
  | true=>
   refine iteT ?_
   refine iteT ?_
   obtain ⟨f',pa',many',v',D',bars',zs',e1,h1,h2,h3,h4,h5,h6,h7⟩:=go (right (.inl hg))
   refine ⟨_,rfl,_,rfl,_,rfl,_,rfl,f',pa',many',v',D',bars',zs',e1,h1,h2,h3,h4,h5,h6,h7,fun H15 s15=>?_⟩
   refine ⟨_,rfl,?_⟩
   refine iteF ?_
   exact ⟨_,_,rfl,s14.trans s15⟩
  | false=>
   refine iteF ?_
   refine ⟨_,rfl,_,rfl,lr,_,rfl,.inl (SqL.of hlr),_,_,rfl,rfl,_,rfl,?_⟩
   by_cases hi2:i < rs.length
   ·refine dT (by show ((i:Nat):Int) < (ws.length:Nat); omega) ?_
    obtain ⟨f',pa',many',v',D',bars',zs',e1,h1,h2,h3,h4,h5,h6,h7⟩:=go (right (.inr hi2))
    refine ⟨_,rfl,_,rfl,_,rfl,_,rfl,f',pa',many',v',D',bars',zs',e1,h1,h2,h3,h4,h5,h6,h7,fun H15 s15=>?_⟩
    refine ⟨_,rfl,?_⟩
    refine iteF ?_
    exact ⟨_,_,rfl,s14.trans s15⟩
   ·refine dF (by show ¬ ((i:Nat):Int) < (ws.length:Nat); omega) ?_
    refine iteF ?_
    exact ⟨_,_,rfl,s14⟩
 rintro σ H14 ⟨v8,v9,rfl,s14⟩
 have s914:=s913.trans s14
 have hlr:=s14 _ _ hlr
 have hw:=Paired.imp' (fun _ _ z=>z.same s14) hw
 refine pss_go (ps_set (i:=10) scLaw.nd rfl (Or.inl rfl) (cF cCo hr1 (ac (pv 6) pa_nil))) ?_
 refine ⟨_,rfl,lr,ws,rs,_,rfl,hlr,hw,by omega,fun lk kv H15 s15 nlk hlk hkv=>?_⟩
 dsimp only [gName]
 have m0:MS K H9 H14 lr lk ws kv rs 26 H15:=⟨s914.trans s15,s15 _ _ hlr,hlk,hkv,fun v hv=>(rows_ms (m:=0) hlr hw wne (tab_mem fD T z26) v hv).imp id fun ⟨t,l0,l2,b,e,ht,h1,h2⟩=>⟨t,l0,l2,b,e,s15.sqT ht,h1,h2⟩,fun a ha=>let ⟨n,e,l⟩:=ha.2.1; ⟨_,s15 _ _ e,by rw [List.length_map]; exact l⟩⟩
 refine pss_go (ps_for PassesOwn.never rfl (pi_list (pv 6)) (pg_name (i:=9) scLaw.nd rfl (Or.inl rfl)) pss_all) ?_
 refine ⟨_,rfl,lr,rfl,⟨_,SqL.of m0.hlr⟩,for_list (K:=K) (a:=lr) (xs:=ws) (fun i σ H'=>∃ (v9:Option V),σ = [some (.ref sa),some (.ref pa),some (.ref la),some (.ref fo),some (.ref t),some (.int (D.P.length:Nat)),some (.ref lr),some (.bl g),v8,v9,some (.ref lk)]/\MS K H9 H14 lr lk ws kv rs (26 + 2 * i) H') ⟨_,rfl,m0⟩ (fun i σ H' _ ⟨_,_,m⟩=>SqL.of m.hlr) ?_ ?_⟩
 ·rintro i x σ H16 hx ⟨v9',rfl,m⟩
  dsimp only [gName]
  have hi:i < ws.length:=(List.getElem?_eq_some_iff.mp hx).1
  refine ⟨_,pss_one (ps_if (pt_cmp (pc_notN (pv 9))) (pss_cons (ps_expr (pe_bm PySem.F.plainAttrs_list PySem.F.slot_list_append PySem.F.type_list_append mt_append (pe_ix ix_tup (pv 9) pe_int (fun _ _=>rfl)) (ac pe_str pa_nil))) (pss_one (ps_expr (pe_bm0 PySem.F.plainAttrs_list PySem.F.slot_list_clear PySem.F.type_list_clear mt_clear (pe_ix ix_tup (pv 9) pe_int (fun _ _=>rfl)))))) pss_nil),?_⟩
  refine ⟨_,rfl,_,rfl,?_⟩
  rcases m.rw x (List.mem_of_getElem? hx) with rfl | ⟨t',l0,l2,b,rfl,ht',a0,a2⟩
  ·refine iteC rfl ?_
   exact ⟨_,rfl,m.mono (by omega)⟩
  ·refine iteB (by rw [decide_eq_false (fun e=>by cases e)]; rfl) ?_
   obtain ⟨w0,e0,b0⟩:=m.ls l0 a0
   refine ⟨_,rfl,t',_,0,.ref l0,rfl,rfl,ht',rfl,.inl ⟨rfl,_,SqL.of e0⟩,l0,w0,.str "a",rfl,rfl,e0,small1000 (by omega),?_⟩
   have m1:=m.put (w:=w0 ++ [.str "a"]) a0 nlk (by rw [List.length_append]; simp; omega)
   obtain ⟨w2,e2,b2⟩:=m1.ls l2 a2
   refine ⟨_,rfl,t',_,2,.ref l2,rfl,rfl,sqT_keep' ⟨_,e0⟩ ht',rfl,.inl ⟨rfl,_,SqL.of e2⟩,l2,w2,rfl,rfl,e2,?_⟩
   exact ⟨_,rfl,m1.put (w:=[]) a2 nlk (Nat.zero_le _)⟩
 rintro σ H16 ⟨v9',rfl,m⟩
 have nkr:lk ≠ lr:=fun e=>by rw [e,hlr] at nlk; cases nlk
 refine pss_go (ps_expr (pe_bm PySem.F.plainAttrs_list PySem.F.slot_list_append PySem.F.type_list_append mt_append (pv 6) (ac pe_non pa_nil))) ?_
 refine ⟨_,rfl,.inl ⟨rfl,_,SqL.of m.hlr⟩,lr,ws,.non,rfl,rfl,m.hlr,small1000 (by omega),?_⟩
 have sA:Same H9 (upd H16 lr (.lst (ws ++ [.non]))):=fun b u e=>by
  rw [upd_ne (fun c=>by rw [c,olr] at e; cases e)]
  exact m.sm b u e
 have gk:upd H16 lr (.lst (ws ++ [.non])) lk = some (.lst kv):=by rw [upd_ne nkr]; exact m.hlk
 have pk:Paired (Says K (fun a=>a ≠ lk/\H14 a = none) (upd H16 lr (.lst (ws ++ [.non]))) 2) kv (rs.map rowD):=Paired.imp' (fun _ _ z=>says_grow m.hlr (fun b o=>⟨o,fun c=>by rw [c,hlr] at o; cases o.2⟩) z) m.kp
 generalize upd H16 lr (.lst (ws ++ [.non])) = H17 at sA gk pk |-
 refine ⟨_,pss_one (ps_ret (pe_cmpR (op_eqS hU) (cF cTa hr4 (ac (pv 3) pa_nil)) (pe_tup (ac (pv 10) (ac (pv 7) pa_nil))) (nomark _))),?_⟩
 refine ⟨_,rfl,fo,D.rows,bars,rfl,hF.same sA,l24,l30,nmB,fun v2 H18 s18 hsay2=>?_⟩
 rw [eT] at hsay2
 obtain ⟨t2,_,_,e2,_⟩:=tab_of (m:=2) hsay2
 subst e2
 refine ⟨_,rfl,_,rfl,(by show 2<=sizeLine; decide),fun t3 ht3=>?_⟩
 have s19:=same_new ht3 (.tup [.ref lk,.bl g])
 refine ⟨t2,t3,3,tabD (rs,g),_,fun _=>True,rfl,rfl,by decide,hsay2.same s19,?_,q _⟩
 exact Says.tup (SqT.of upd_same) (.cons (Says.lst trivial ((s18.trans s19) _ _ gk) (Paired.imp' (fun _ _ z=>says_ok (fun _ _ _=>trivial) (z.same (s18.trans s19))) pk)) (.cons Says.bl .nil))
end
end K81
namespace L2
open PySem PySem.Spec PyProof.Rows
section
variable {P:Program} {w:World} {K:PySem.W.Frag} {mg:Str->Option Value} {base h:Heap} {x q p p2 p3 p4 p5:Str} {st:Stmt} {f C T:Addr} {fd:FuncData} {sp:Sp} {k n:Nat}
structure TB (P:Program) (w:World) (K:PySem.W.Frag) (mg:Str->Option Value) (base:Heap):Prop where
 mgo:∀ {x:Str} {v:Value},PySem.W.nsIn K mainGlobals x = some (some v)->mg x = some v
structure GD (K:PySem.W.Frag) (x:Str) (st:Stmt) (f:Addr) (fd:FuncData):Prop where
 a:PySem.W.nsIn K mainGlobals x = some (some (.ref f))
 F:Fun K x x st f fd
structure MD (K:PySem.W.Frag) (C:Addr) (x q:Str) (st:Stmt) (f:Addr) (fd:FuncData):Prop where
 m:Meth K C x f
 F:Fun K x q st f fd
structure DD (K:PySem.W.Frag) (C:Addr) (x q:Str) (st:Stmt) (f:Addr) (fd:FuncData) (ds:List Value):Prop where
 m:Meth K C x f
 F:FunD K x q st f fd ds
structure CD (K:PySem.W.Frag) (x:Str) (C:Addr):Prop where
 a:PySem.W.nsIn K mainGlobals x = some (some (.ref C))
 c:Cls K C
 ms:PySem.W.makesIn K C = true
 kc:PySem.W.keepIn K (.ref C) = true
theorem gd_mk {oc:Value} {od an:Option Addr} {osl:Array (Option Value)} {kV doc pm cdv ct:Value} (a:PySem.W.nsIn K mainGlobals x = some (some (.ref f))) (l:K.lookup f = some ⟨oc,od,.func (PySem.W.fnOf x x (defArgs st) (defBody st) (defScope st) .none kV doc pm an cdv ct),osl⟩)
  (c:PySem.W.codeIn K cdv x = true) (k:PySem.W.keepIn K (.ref f) = true):GD K x st f (PySem.W.fnOf x x (defArgs st) (defBody st) (defScope st) .none kV doc pm an cdv ct):=⟨a,fun_mk l c k⟩
theorem md_mk {oc:Value} {od an:Option Addr} {osl:Array (Option Value)} {kV doc pm cdv ct:Value} (a:PySem.W.findIn K (.ref C) x = some (some (.ref f))) (i:PySem.W.isFn K (.ref f) = true) (l:K.lookup f = some ⟨oc,od,.func (PySem.W.fnOf x q (defArgs st) (defBody st) (defScope st) .none kV doc pm an cdv ct),osl⟩)
  (c:PySem.W.codeIn K cdv q = true) (k:PySem.W.keepIn K (.ref f) = true):MD K C x q st f (PySem.W.fnOf x q (defArgs st) (defBody st) (defScope st) .none kV doc pm an cdv ct):=⟨⟨a,i,k⟩,fun_mk l c k⟩
theorem dd_mk {oc oT:Value} {od an dT:Option Addr} {osl sT:Array (Option Value)} {kV doc pm cdv ct d:Value} (a:PySem.W.findIn K (.ref C) x = some (some (.ref f))) (i:PySem.W.isFn K (.ref f) = true) (l:K.lookup f = some ⟨oc,od,.func (PySem.W.fnOf x q (defArgs st) (defBody st) (defScope st) (.ref T) kV doc pm an cdv ct),osl⟩)
  (c:PySem.W.codeIn K cdv q = true) (k:PySem.W.keepIn K (.ref f) = true) (t:K.lookup T = some ⟨oT,dT,.seq #[d] n,sT⟩):DD K C x q st f (PySem.W.fnOf x q (defArgs st) (defBody st) (defScope st) (.ref T) kV doc pm an cdv ct) [d]:=⟨⟨a,i,k⟩,funD_mk (items:=[d]) l c k t rfl⟩
theorem cd_mk (a:PySem.W.nsIn K mainGlobals x = some (some (.ref C))) (pg:PySem.W.plainGet K C Str.empty = true) (hd:PySem.W.hasDictIn K C = true) (po:PySem.W.plainOver K C = true) (sa:PySem.W.findIn K (.ref C) "__setattr__" = some (some (.builtin "object.__setattr__"))) (mk:PySem.W.makesIn K C = true) (kc:PySem.W.keepIn K (.ref C) = true):CD K x C:=⟨a,⟨pg,hd,po,sa⟩,mk,kc⟩
theorem Fun.b1 (F:Fun K x q st f fd) (h:∀ (kV doc pm:Value) (an:Option Addr) (cdv ct u:Value),bindArgs (PySem.W.fnOf x q (defArgs st) (defBody st) (defScope st) .none kV doc pm an cdv ct) ⟨[u],[]⟩ = pure [(p,u)]:=by intros; rfl):Binds K fd [p] []:=
 F.binds fun _ _ _ _ _ _ us hl=>match us,hl with | [_],_=>h _ _ _ _ _ _ _
theorem Fun.b2 (F:Fun K x q st f fd) (h:∀ (kV doc pm:Value) (an:Option Addr) (cdv ct u u2:Value),bindArgs (PySem.W.fnOf x q (defArgs st) (defBody st) (defScope st) .none kV doc pm an cdv ct) ⟨[u,u2],[]⟩ = pure [(p,u),(p2,u2)]:=by intros; rfl):Binds K fd [p,p2] []:=
 F.binds fun _ _ _ _ _ _ us hl=>match us,hl with | [_,_],_=>h _ _ _ _ _ _ _ _
theorem Fun.b3 (F:Fun K x q st f fd) (h:∀ (kV doc pm:Value) (an:Option Addr) (cdv ct u u2 u3:Value),bindArgs (PySem.W.fnOf x q (defArgs st) (defBody st) (defScope st) .none kV doc pm an cdv ct) ⟨[u,u2,u3],[]⟩ = pure [(p,u),(p2,u2),(p3,u3)]:=by intros; rfl):Binds K fd [p,p2,p3] []:=
 F.binds fun _ _ _ _ _ _ us hl=>match us,hl with | [_,_,_],_=>h _ _ _ _ _ _ _ _ _
theorem Fun.b4 (F:Fun K x q st f fd) (h:∀ (kV doc pm:Value) (an:Option Addr) (cdv ct u u2 u3 u4:Value),bindArgs (PySem.W.fnOf x q (defArgs st) (defBody st) (defScope st) .none kV doc pm an cdv ct) ⟨[u,u2,u3,u4],[]⟩ = pure [(p,u),(p2,u2),(p3,u3),(p4,u4)]:=by intros; rfl):Binds K fd [p,p2,p3,p4] []:=
 F.binds fun _ _ _ _ _ _ us hl=>match us,hl with | [_,_,_,_],_=>h _ _ _ _ _ _ _ _ _ _
theorem Fun.b5 (F:Fun K x q st f fd) (h:∀ (kV doc pm:Value) (an:Option Addr) (cdv ct u u2 u3 u4 u5:Value),bindArgs (PySem.W.fnOf x q (defArgs st) (defBody st) (defScope st) .none kV doc pm an cdv ct) ⟨[u,u2,u3,u4,u5],[]⟩ = pure [(p,u),(p2,u2),(p3,u3),(p4,u4),(p5,u5)]:=by intros; rfl):Binds K fd [p,p2,p3,p4,p5] []:=
 F.binds fun _ _ _ _ _ _ us hl=>match us,hl with | [_,_,_,_,_],_=>h _ _ _ _ _ _ _ _ _ _ _
theorem GD.c1 (g:GD K x st f fd) (B:TB P w K mg base) (ok:FnOk P w K mg base CX0 k f fd [p] sp) (h:∀ (kV doc pm:Value) (an:Option Addr) (cdv ct u:Value),bindArgs (PySem.W.fnOf x x (defArgs st) (defBody st) (defScope st) .none kV doc pm an cdv ct) ⟨[u],[]⟩ = pure [(p,u)]:=by intros; rfl):Callee P w K mg base k x f fd [p] sp:=⟨ok,B.mgo g.a,g.F.kp,g.F.b1 h⟩
theorem GD.c2 (g:GD K x st f fd) (B:TB P w K mg base) (ok:FnOk P w K mg base CX0 k f fd [p,p2] sp) (h:∀ (kV doc pm:Value) (an:Option Addr) (cdv ct u u2:Value),bindArgs (PySem.W.fnOf x x (defArgs st) (defBody st) (defScope st) .none kV doc pm an cdv ct) ⟨[u,u2],[]⟩ = pure [(p,u),(p2,u2)]:=by intros; rfl):Callee P w K mg base k x f fd [p,p2] sp:=⟨ok,B.mgo g.a,g.F.kp,g.F.b2 h⟩
theorem GD.c3 (g:GD K x st f fd) (B:TB P w K mg base) (ok:FnOk P w K mg base CX0 k f fd [p,p2,p3] sp) (h:∀ (kV doc pm:Value) (an:Option Addr) (cdv ct u u2 u3:Value),bindArgs (PySem.W.fnOf x x (defArgs st) (defBody st) (defScope st) .none kV doc pm an cdv ct) ⟨[u,u2,u3],[]⟩ = pure [(p,u),(p2,u2),(p3,u3)]:=by intros; rfl):Callee P w K mg base k x f fd [p,p2,p3] sp:=⟨ok,B.mgo g.a,g.F.kp,g.F.b3 h⟩
theorem GD.c4 (g:GD K x st f fd) (B:TB P w K mg base) (ok:FnOk P w K mg base CX0 k f fd [p,p2,p3,p4] sp) (h:∀ (kV doc pm:Value) (an:Option Addr) (cdv ct u u2 u3 u4:Value),bindArgs (PySem.W.fnOf x x (defArgs st) (defBody st) (defScope st) .none kV doc pm an cdv ct) ⟨[u,u2,u3,u4],[]⟩ = pure [(p,u),(p2,u2),(p3,u3),(p4,u4)]:=by intros; rfl):Callee P w K mg base k x f fd [p,p2,p3,p4] sp:=⟨ok,B.mgo g.a,g.F.kp,g.F.b4 h⟩
theorem GD.c5 (g:GD K x st f fd) (B:TB P w K mg base) (ok:FnOk P w K mg base CX0 k f fd [p,p2,p3,p4,p5] sp) (h:∀ (kV doc pm:Value) (an:Option Addr) (cdv ct u u2 u3 u4 u5:Value),bindArgs (PySem.W.fnOf x x (defArgs st) (defBody st) (defScope st) .none kV doc pm an cdv ct) ⟨[u,u2,u3,u4,u5],[]⟩ = pure [(p,u),(p2,u2),(p3,u3),(p4,u4),(p5,u5)]:=by intros; rfl):Callee P w K mg base k x f fd [p,p2,p3,p4,p5] sp:=⟨ok,B.mgo g.a,g.F.kp,g.F.b5 h⟩
theorem GD.law (g:GD K x st f fd) (h:∀ (kV doc pm:Value) (an:Option Addr) (cdv ct u:Value),bindArgs (PySem.W.fnOf x x (defArgs st) (defBody st) (defScope st) .none kV doc pm an cdv ct) ⟨[u],[]⟩ = pure [(p,u)]:=by intros; rfl):∀ (s:Shared) (v:Value),BindsTo s fd ⟨[v],[]⟩ [(p,v)]:=by
 obtain ⟨oc,od,kV,doc,pm,an,cdv,ct,osl,rfl,lk,hcd⟩:=g.F.ex
 exact fun s v=>.of_eq (h kV doc pm an cdv ct v)
theorem DD.b0 {d:Value} (D:DD K C x q st f fd [d]) (h:∀ (T:Addr) (kV doc pm:Value) (an:Option Addr) (cdv ct u u2 u3:Value),∃ k:Option (Array Value)->Sem (List (Str × Value)),bindArgs (PySem.W.fnOf x q (defArgs st) (defBody st) (defScope st) (.ref T) kV doc pm an cdv ct) ⟨[u,u2,u3],[]⟩ = seqItems? (.ref T) >>= k/\k (some [d].toArray) = pure [(p,u),(p2,u2),(p3,u3)]:=by exact fun _ _ _ _ _ _ _ _ _ _=>⟨_,rfl,rfl⟩):Binds K fd [p,p2,p3] []:=
 fun _ us KX hl=>match us,hl with | [_,_,_],_=>D.F.bindsTo (fun _ _ _ _ _ _ _=>h _ _ _ _ _ _ _ _ _ _) KX
end
end L2
def PySem.W.Fast.tw5100616928496302960:Unit:=()
def PySem.W.Fast.tw18354162362688999028:Unit:=()
def PySem.W.Fast.tw106237742170264350:Unit:=()
def PySem.W.Fast.tw10851664424879595848:Unit:=()
def PySem.W.Fast.tw10634947573796002897:Unit:=()
def PySem.W.Fast.tw4430652644691517422:Unit:=()
def PySem.W.Fast.tw9651850075847363400:Unit:=()
def PySem.W.Fast.tw16870805227169353413:Unit:=()
def PySem.W.Fast.tw12169485393355060081:Unit:=()
def PySem.W.Fast.tw3414452162909973647:Unit:=()
def PySem.W.Fast.tw5257357788844226477:Unit:=()
def PySem.W.Fast.tw1887578902117704147:Unit:=()
def PySem.W.Fast.tw6268866364481356971:Unit:=()
def PySem.W.Fast.tw16401318089154965187:Unit:=()
def PySem.W.Fast.tw6291436485695810777:Unit:=()
def PySem.W.Fast.tw13444517546594549051:Unit:=()
def PySem.W.Fast.tw6573063689815465303:Unit:=()
def PySem.W.Fast.tw269272583540237708:Unit:=()
def PySem.W.Fast.tw16515236173052897253:Unit:=()
def PySem.W.Fast.tw15897472319406240877:Unit:=()
def PySem.W.Fast.tw4444371379792706005:Unit:=()
def PySem.W.Fast.tw2487450823680836433:Unit:=()
def PySem.W.Fast.tw17022530050079449739:Unit:=()
def PySem.W.Fast.tw13148825341632069458:Unit:=()
def PySem.W.Fast.tw4601152833577691230:Unit:=()
def PySem.W.Fast.tw9141747378065886989:Unit:=()
def PySem.W.Fast.tw6678690692780524892:Unit:=()
def PySem.W.Fast.tw1621239807444060031:Unit:=()
def PySem.W.Fast.tw15233597555786515729:Unit:=()
def PySem.W.Fast.tw10072234103892059762:Unit:=()
def PySem.W.Fast.tw17474875647479263302:Unit:=()
def PySem.W.Fast.tw15201923680374016648:Unit:=()
def PySem.W.Fast.tw5809145500364043313:Unit:=()
def PySem.W.Fast.tw12269145972220939575:Unit:=()
def PySem.W.Fast.tw423685002499768651:Unit:=()
def PySem.W.Fast.tw3783549207215039226:Unit:=()
def PySem.W.Fast.tw11953333250739957800:Unit:=()
def PySem.W.Fast.tw16361461342356053665:Unit:=()
def PySem.W.Fast.tw5451576095907918702:Unit:=()
def PySem.W.Fast.tw2717042505034013518:Unit:=()
def PySem.W.Fast.tw12159179028442967281:Unit:=()
def PySem.W.Fast.tw10149893762760545940:Unit:=()
def PySem.W.Fast.tw12052518722748878891:Unit:=()
def PySem.W.Fast.tw8059161385456303587:Unit:=()
def PySem.W.Fast.tw18404614022954127879:Unit:=()
def PySem.W.Fast.tw13873474745371672774:Unit:=()
def PySem.W.Fast.tw14842562838044251051:Unit:=()
def PySem.W.Fast.tw13052203728941966732:Unit:=()
def PySem.W.Fast.tw11097410924298529870:Unit:=()
def PySem.W.Fast.tw17131956116506845902:Unit:=()
def PySem.W.Fast.tw14665337627629566168:Unit:=()
def PySem.W.Fast.tw1330715926469364845:Unit:=()
def PySem.W.Fast.tw9015633303725153916:Unit:=()
namespace K81
open PySem L2 PyProof.Rows
theorem ktab_of {w:World} {K:PySem.W.Frag} {Gr:Addr} {es:Array DictEntry} {n:Nat} {t0 t1 t2 t3 t4:Tok} (hl:K.lookup Gr = some ⟨.type "dict",none,.dict es n,#[]⟩) (hk:PySem.W.KeysLit w.params es.toList) (h0:PySem.W.nsIn K Gr "seat" = some (some (.int 0 t0))) (h1:PySem.W.nsIn K Gr "both" = some (some (.int 0 t1))) (h2:PySem.W.nsIn K Gr "tail" = some (some (.int 1 t2)))
  (h3:PySem.W.nsIn K Gr "tag" = some (some (.int 2 t3))) (h4:PySem.W.nsIn K Gr "bag" = some (some (.int 3 t4))):KTab w K Gr grpV:=by
 refine ⟨⟨es,n,hl,hk⟩,fun x v h=>?_⟩
 unfold grpV at h
 by_cases e0:x = "seat"
 ·subst e0; rw [List.lookup_cons_self] at h; cases h; exact ⟨_,h0,_,rfl⟩
 rw [List.lookup_cons,beq_eq_false_iff_ne.mpr e0] at h
 by_cases e1:x = "both"
 ·subst e1; rw [List.lookup_cons_self] at h; cases h; exact ⟨_,h1,_,rfl⟩
 rw [List.lookup_cons,beq_eq_false_iff_ne.mpr e1] at h
 by_cases e2:x = "tail"
 ·subst e2; rw [List.lookup_cons_self] at h; cases h; exact ⟨_,h2,_,rfl⟩
 rw [List.lookup_cons,beq_eq_false_iff_ne.mpr e2] at h
 by_cases e3:x = "tag"
 ·subst e3; rw [List.lookup_cons_self] at h; cases h; exact ⟨_,h3,_,rfl⟩
 rw [List.lookup_cons,beq_eq_false_iff_ne.mpr e3] at h
 by_cases e4:x = "bag"
 ·subst e4; rw [List.lookup_cons_self] at h; cases h; exact ⟨_,h4,_,rfl⟩
 rw [List.lookup_cons,beq_eq_false_iff_ne.mpr e4] at h
 cases h
theorem all_mk {l:PySem.W.OpenLaw} {w:World} {K:PySem.W.Frag} {h:Heap} {mg:Str->Option Value} {fa D C0 C1 C2 C3 C4 FM f1 f2 f3 f4 f5 f6 f7 f8 f9 f10 f11 f12 f13 f14 f15 f16 f17 f18 f19 f20 f21 f22 f23 f24 f25 f26 f27 f28 f29 f30 f31 f32 f33 f34 f35 f36 f37 f38 f39 f40 f41 f42 f43 f44 f45 f46 f47 f48 f49 f50 f51 f52:Addr} {e1 e2 e3 e4 e5 e6 e7 e8 e9 e10 e11 e12 e13 e14 e15 e16 e17 e18 e19 e20 e21 e22 e23 e24 e25 e26 e27 e28 e29 e30 e31 e32 e33 e34 e35 e36 e37 e38 e39 e40 e41 e42 e43 e44 e45 e46 e47 e48 e49 e50 e51 e52:FuncData} {tP tB tO sg Gr:Addr} {tL tN tMP tMB ktP0 ktP1 ktB0 ktB1 ktO0 ktO1 ktO2 ksg0 ksg1 kG0 kG1 kG2 kG3 kG4:Tok} {odtP odtB odtO odsg:Option Addr} {ntP ntB ntO nsg nG:Nat} {sltP sltB sltO slsg:Array (Option Value)} {esG:Array DictEntry} (X:K.In h) (G:h.Ns mainGlobals mg) (hfa:mg "law" = some (.ref fa))
  (cD:CD K "Parameter" D)
  (cC0:CD K "Seat" C0)
  (nC0:PySem.W.findIn K (.ref C0) "word" = some none/\PySem.W.findIn K (.ref C0) "name" = some none/\PySem.W.findIn K (.ref C0) "may_lack" = some none)
  (cC1:CD K "Both" C1)
  (nC1:PySem.W.findIn K (.ref C1) "word" = some none/\PySem.W.findIn K (.ref C1) "name" = some none/\PySem.W.findIn K (.ref C1) "may_lack" = some none)
  (cC2:CD K "Tail" C2)
  (nC2:PySem.W.findIn K (.ref C2) "word" = some none/\PySem.W.findIn K (.ref C2) "name" = some none/\PySem.W.findIn K (.ref C2) "may_lack" = some none)
  (cC3:CD K "Tag" C3)
  (nC3:PySem.W.findIn K (.ref C3) "word" = some none/\PySem.W.findIn K (.ref C3) "name" = some none/\PySem.W.findIn K (.ref C3) "may_lack" = some none)
  (cC4:CD K "Bag" C4)
  (nC4:PySem.W.findIn K (.ref C4) "word" = some none/\PySem.W.findIn K (.ref C4) "name" = some none/\PySem.W.findIn K (.ref C4) "may_lack" = some none)
  (cFM:CD K "Form" FM)
  (nFM:PySem.W.findIn K (.ref FM) "row" = some none/\PySem.W.findIn K (.ref FM) "bar_names" = some none/\PySem.W.findIn K (.ref FM) "place_count" = some none/\PySem.W.findIn K (.ref FM) "tail_number" = some none/\PySem.W.findIn K (.ref FM) "bag_number" = some none/\PySem.W.findIn K (.ref FM) "doors" = some none)
  (g1:GD K "is_name" sIs f1 e1)
  (g2:MD K D "__init__" "Parameter.__init__" sPInit f2 e2)
  (g3:MD K D "free" "Parameter.free" sFree f3 e3)
  (g4:MD K D "by_place" "Parameter.by_place" sByPlace f4 e4)
  (g5:MD K D "by_name" "Parameter.by_name" sByName f5 e5)
  (g6:MD K D "takes_one" "Parameter.takes_one" sTakes f6 e6)
  (g7:MD K D "told" "Parameter.told" sTold f7 e7)
  (g8:DD K C0 "__init__" "Seat.__init__" sSeat f8 e8 [Value.bool false])
  (g9:DD K C1 "__init__" "Both.__init__" sBoth f9 e9 [Value.bool false])
  (g10:MD K C2 "__init__" "Tail.__init__" sTail f10 e10)
  (g11:DD K C3 "__init__" "Tag.__init__" sTag f11 e11 [Value.bool false])
  (g12:MD K C4 "__init__" "Bag.__init__" sBag f12 e12)
  (g13:DD K FM "__init__" "Form.__init__" sFInit f13 e13 [Value.none])
  (g14:MD K FM "keep" "Form.keep" sKeep f14 e14)
  (g15:MD K FM "parameters" "Form.parameters" sFPars f15 e15)
  (g16:MD K FM "bars" "Form.bars" sFBars f16 e16)
  (g17:MD K FM "places" "Form.places" sFPlaces f17 e17)
  (g18:MD K FM "tail" "Form.tail" sFTail f18 e18)
  (g19:MD K FM "bag" "Form.bag" sFBag f19 e19)
  (g20:MD K FM "number_of" "Form.number_of" sFNum f20 e20)
  (g21:MD K FM "told" "Form.told" sFTold f21 e21)
  (g22:GD K "parameter_of" sPof f22 e22)
  (g23:GD K "refuse_too_many" sRMany f23 e23)
  (g24:GD K "refuse_bad_order" sROrder f24 e24)
  (g25:GD K "refuse_bars_without_name" sRBars f25 e25)
  (g26:GD K "refuse_twice" sRTwice f26 e26)
  (g27:GD K "number_of_word" sNumW f27 e27)
  (g28:GD K "table" sTable f28 e28)
  (g29:GD K "row_of" sRowOf f29 e29)
  (g30:GD K "door_names" sDoors f30 e30)
  (g31:GD K "laid" sLaid f31 e31)
  (g32:GD K "misfits" sMisfits f32 e32)
  (g33:GD K "fits" sFits f33 e33)
  (g34:GD K "shape" sShape f34 e34)
  (g35:GD K "first_numbers" sFirsts f35 e35)
  (g36:GD K "misfits_of" sMOf f36 e36)
  (g37:GD K "overs" sOvers f37 e37)
  (g38:GD K "unwelcomes" sUnw f38 e38)
  (g39:GD K "lackings" sLack f39 e39)
  (g40:GD K "one_entry" sOneE f40 e40)
  (g41:GD K "_law_nth" sNth f41 e41)
  (g42:GD K "_law_stirred" sStir f42 e42)
  (g43:GD K "_law_pool" sPool f43 e43)
  (g44:GD K "_law_row" sRow f44 e44)
  (g45:GD K "_law_bars" sBars f45 e45)
  (g46:GD K "_law_form" sForm f46 e46)
  (g47:GD K "_law_takes" sLTakes f47 e47)
  (g48:GD K "_law_is_names" sIsNames f48 e48)
  (g49:GD K "_law_may_come" sMay f49 e49)
  (g50:GD K "_law_row_right" sRight f50 e50)
  (g51:GD K "_law_copied" sCopied f51 e51)
  (g52:GD K "law" sLaw f52 e52)
  (zisinstance:PySem.W.nsIn K mainGlobals "isinstance" = some none)
  (zstr:PySem.W.nsIn K mainGlobals "str" = some none)
  (zbool:PySem.W.nsIn K mainGlobals "bool" = some none)
  (zlen:PySem.W.nsIn K mainGlobals "len" = some none)
  (zall:PySem.W.nsIn K mainGlobals "all" = some none)
  (zrange:PySem.W.nsIn K mainGlobals "range" = some none)
  (zlist:PySem.W.nsIn K mainGlobals "list" = some none)
  (zenumerate:PySem.W.nsIn K mainGlobals "enumerate" = some none)
  (zset:PySem.W.nsIn K mainGlobals "set" = some none)
  (zany:PySem.W.nsIn K mainGlobals "any" = some none)
  (zsorted:PySem.W.nsIn K mainGlobals "sorted" = some none)
  (zmin:PySem.W.nsIn K mainGlobals "min" = some none)
  (ztuple:PySem.W.nsIn K mainGlobals "tuple" = some none)
  (gL:PySem.W.nsIn K mainGlobals "LETTERS" = some (some (.str letters tL)))
  (gN:PySem.W.nsIn K mainGlobals "LONGEST" = some (some (.int 8 tN)))
  (gMP:PySem.W.nsIn K mainGlobals "MOST_PARAMETERS" = some (some (.int 24 tMP)))
  (gMB:PySem.W.nsIn K mainGlobals "MOST_BARS" = some (some (.int 60 tMB)))
  (ytP:PySem.W.nsIn K mainGlobals "BY_PLACE" = some (some (.ref tP)))
  (utP:K.lookup tP = some ⟨.type "tuple",odtP,.seq #[.str "seat" ktP0,.str "both" ktP1] ntP,sltP⟩)
  (ytB:PySem.W.nsIn K mainGlobals "BY_NAME" = some (some (.ref tB)))
  (utB:K.lookup tB = some ⟨.type "tuple",odtB,.seq #[.str "both" ktB0,.str "tag" ktB1] ntB,sltB⟩)
  (ytO:PySem.W.nsIn K mainGlobals "OF_ONE_THING" = some (some (.ref tO)))
  (utO:K.lookup tO = some ⟨.type "tuple",odtO,.seq #[.str "seat" ktO0,.str "both" ktO1,.str "tag" ktO2] ntO,sltO⟩)
  (ysg:PySem.W.nsIn K mainGlobals "SINGLE_GROUPS" = some (some (.ref sg)))
  (usg:K.lookup sg = some ⟨.type "tuple",odsg,.seq #[.int 1 ksg0,.int 3 ksg1] nsg,slsg⟩)
  (yGr:PySem.W.nsIn K mainGlobals "GROUPS" = some (some (.ref Gr)))
  (lGr:K.lookup Gr = some ⟨.type "dict",none,.dict esG nG,#[]⟩)
  (kGr:PySem.W.KeysLit w.params esG.toList)
  (eG0:PySem.W.nsIn K Gr "seat" = some (some (.int 0 kG0)))
  (eG1:PySem.W.nsIn K Gr "both" = some (some (.int 0 kG1)))
  (eG2:PySem.W.nsIn K Gr "tail" = some (some (.int 1 kG2)))
  (eG3:PySem.W.nsIn K Gr "tag" = some (some (.int 2 kG3)))
  (eG4:PySem.W.nsIn K Gr "bag" = some (some (.int 3 kG4)))
  (dga:ClsFn K D "__init__" f2)
  (h0:PySem.W.findIn K (.ref C0) "free" = some (some (.ref f3))/\PySem.W.findIn K (.ref C0) "by_place" = some (some (.ref f4))/\PySem.W.findIn K (.ref C0) "by_name" = some (some (.ref f5))/\PySem.W.findIn K (.ref C0) "takes_one" = some (some (.ref f6))/\PySem.W.findIn K (.ref C0) "told" = some (some (.ref f7)))
  (h1:PySem.W.findIn K (.ref C1) "free" = some (some (.ref f3))/\PySem.W.findIn K (.ref C1) "by_place" = some (some (.ref f4))/\PySem.W.findIn K (.ref C1) "by_name" = some (some (.ref f5))/\PySem.W.findIn K (.ref C1) "takes_one" = some (some (.ref f6))/\PySem.W.findIn K (.ref C1) "told" = some (some (.ref f7)))
  (h2:PySem.W.findIn K (.ref C2) "free" = some (some (.ref f3))/\PySem.W.findIn K (.ref C2) "by_place" = some (some (.ref f4))/\PySem.W.findIn K (.ref C2) "by_name" = some (some (.ref f5))/\PySem.W.findIn K (.ref C2) "takes_one" = some (some (.ref f6))/\PySem.W.findIn K (.ref C2) "told" = some (some (.ref f7)))
  (h3:PySem.W.findIn K (.ref C3) "free" = some (some (.ref f3))/\PySem.W.findIn K (.ref C3) "by_place" = some (some (.ref f4))/\PySem.W.findIn K (.ref C3) "by_name" = some (some (.ref f5))/\PySem.W.findIn K (.ref C3) "takes_one" = some (some (.ref f6))/\PySem.W.findIn K (.ref C3) "told" = some (some (.ref f7)))
  (h4:PySem.W.findIn K (.ref C4) "free" = some (some (.ref f3))/\PySem.W.findIn K (.ref C4) "by_place" = some (some (.ref f4))/\PySem.W.findIn K (.ref C4) "by_name" = some (some (.ref f5))/\PySem.W.findIn K (.ref C4) "takes_one" = some (some (.ref f6))/\PySem.W.findIn K (.ref C4) "told" = some (some (.ref f7)))
  : ∃ fd:FuncData,(∀ (s:Shared) (v:Value),BindsTo s fd ⟨[v],[]⟩ [("_law_script",v)])/\∀ base:Heap,K.In base->base.Ns mainGlobals mg->FnOk l.prog w K mg base CX0 8 fa fd ["_law_script"] (spLawB K):=by
 have e:=hfa.symm.trans (PySem.W.mg_of X G g52.a)
 cases e
 have no:∀ {x:Str},PySem.W.nsIn K mainGlobals x = some none->mg x = none:=fun z=>PySem.W.mg_none_of X G z
 have T:Txt1 K mg:=⟨no zisinstance,no zstr,no zbool,no zlen,no zall,no zrange,⟨tL,PySem.W.mg_of X G gL⟩,⟨tN,PySem.W.mg_of X G gN⟩,kt_NoneType_str K,kt_int_str K,kt_bool_str K,kt_list_str K,kt_tuple_str K,kt_dict_str K,kt_str_str K,kt_bool_bool K⟩
 have Wd:Wds K mg tP tB tO:=⟨PySem.W.mg_of X G ytP,PySem.W.mg_of X G ytB,PySem.W.mg_of X G ytO,fun H=>.inr ⟨_,_,_,utP,rfl,rfl,(by show 2<=sizeLine; decide),.cons ⟨_,rfl⟩ (.cons ⟨_,rfl⟩ (.nil))⟩,fun H=>.inr ⟨_,_,_,utB,rfl,rfl,(by show 2<=sizeLine; decide),.cons ⟨_,rfl⟩ (.cons ⟨_,rfl⟩ (.nil))⟩,fun H=>.inr ⟨_,_,_,utO,rfl,rfl,(by show 3<=sizeLine; decide),.cons ⟨_,rfl⟩ (.cons ⟨_,rfl⟩ (.cons ⟨_,rfl⟩ (.nil)))⟩⟩
 have TF:TxtF w K mg Gr sg:=⟨no zlen,no zenumerate,no zlist,no zset,⟨tMP,PySem.W.mg_of X G gMP⟩,⟨tMB,PySem.W.mg_of X G gMB⟩,PySem.W.mg_of X G yGr,ktab_of lGr kGr eG0 eG1 eG2 eG3 eG4,PySem.W.mg_of X G ysg,fun H=>.inr ⟨_,_,_,usg,rfl,rfl,(by show 2<=sizeLine; decide),.cons ⟨_,rfl⟩ (.cons ⟨_,rfl⟩ .nil)⟩⟩
 have pc0:PC K ⟨f3,f4,f5,f6,f7⟩ C0:=⟨cC0.c,nC0.1,nC0.2.1,nC0.2.2,⟨h0.1,g3.m.fn,g3.F.kp⟩,⟨h0.2.1,g4.m.fn,g4.F.kp⟩,⟨h0.2.2.1,g5.m.fn,g5.F.kp⟩,⟨h0.2.2.2.1,g6.m.fn,g6.F.kp⟩,⟨h0.2.2.2.2,g7.m.fn,g7.F.kp⟩⟩
 have pc1:PC K ⟨f3,f4,f5,f6,f7⟩ C1:=⟨cC1.c,nC1.1,nC1.2.1,nC1.2.2,⟨h1.1,g3.m.fn,g3.F.kp⟩,⟨h1.2.1,g4.m.fn,g4.F.kp⟩,⟨h1.2.2.1,g5.m.fn,g5.F.kp⟩,⟨h1.2.2.2.1,g6.m.fn,g6.F.kp⟩,⟨h1.2.2.2.2,g7.m.fn,g7.F.kp⟩⟩
 have pc2:PC K ⟨f3,f4,f5,f6,f7⟩ C2:=⟨cC2.c,nC2.1,nC2.2.1,nC2.2.2,⟨h2.1,g3.m.fn,g3.F.kp⟩,⟨h2.2.1,g4.m.fn,g4.F.kp⟩,⟨h2.2.2.1,g5.m.fn,g5.F.kp⟩,⟨h2.2.2.2.1,g6.m.fn,g6.F.kp⟩,⟨h2.2.2.2.2,g7.m.fn,g7.F.kp⟩⟩
 have pc3:PC K ⟨f3,f4,f5,f6,f7⟩ C3:=⟨cC3.c,nC3.1,nC3.2.1,nC3.2.2,⟨h3.1,g3.m.fn,g3.F.kp⟩,⟨h3.2.1,g4.m.fn,g4.F.kp⟩,⟨h3.2.2.1,g5.m.fn,g5.F.kp⟩,⟨h3.2.2.2.1,g6.m.fn,g6.F.kp⟩,⟨h3.2.2.2.2,g7.m.fn,g7.F.kp⟩⟩
 have pc4:PC K ⟨f3,f4,f5,f6,f7⟩ C4:=⟨cC4.c,nC4.1,nC4.2.1,nC4.2.2,⟨h4.1,g3.m.fn,g3.F.kp⟩,⟨h4.2.1,g4.m.fn,g4.F.kp⟩,⟨h4.2.2.1,g5.m.fn,g5.F.kp⟩,⟨h4.2.2.2.1,g6.m.fn,g6.F.kp⟩,⟨h4.2.2.2.2,g7.m.fn,g7.F.kp⟩⟩
 have PP:Pcs K ⟨f3,f4,f5,f6,f7⟩ ⟨C0,C1,C2,C3,C4⟩:=fun k hk=>by
  rcases lt5 hk with rfl | rfl | rfl | rfl | rfl
  ·exact pc0
  ·exact pc1
  ·exact pc2
  ·exact pc3
  ·exact pc4
 have FK:FC K FM:=⟨cFM.c,nFM.1,nFM.2.1,nFM.2.2.1,nFM.2.2.2.1,nFM.2.2.2.2.1,nFM.2.2.2.2.2⟩
 have UL:TxtL mg:=⟨no zlen,no zrange,no zset,no zenumerate,no zlist,no zisinstance,no zbool,no ztuple⟩
 have UR:TxtR mg:=⟨no zany,no zsorted,no zrange,no zlen⟩
 refine ⟨_,g52.law,fun base KB GB=>?_⟩
 have B:TB l.prog w K mg base:=⟨fun e=>PySem.W.mg_of X G e⟩
 have cI:=g1.c1 B (ok_is g1.F T)
 have GP:FnOk l.prog w K mg base CX0 2 f2 _ ["self","word","name","may_lack"] (spP K ⟨f3,f4,f5,f6,f7⟩):=ok_pinit g2.F cI
 have mD:=PySem.W.mg_of X G cD.a
 have UC:Ctors l.prog w K mg base ⟨C0,C1,C2,C3,C4⟩ f8 f9 f10 f11 f12 _ _ _ _ _:=⟨⟨⟨cC0.ms,g8.m.at_,g8.m.fn,cC0.kc⟩,ok_seat g8.F pc0 dga mD GP g2.F.b4,PySem.W.mg_of X G cC0.a,g8.b0⟩,⟨⟨cC1.ms,g9.m.at_,g9.m.fn,cC1.kc⟩,ok_both g9.F pc1 dga mD GP g2.F.b4,PySem.W.mg_of X G cC1.a,g9.b0⟩,⟨⟨cC2.ms,g10.m.at_,g10.m.fn,cC2.kc⟩,ok_tail g10.F pc2 dga mD GP g2.F.b4,PySem.W.mg_of X G cC2.a,g10.F.b2⟩,⟨⟨cC3.ms,g11.m.at_,g11.m.fn,cC3.kc⟩,ok_tag g11.F pc3 dga mD GP g2.F.b4,PySem.W.mg_of X G cC3.a,g11.b0⟩,⟨⟨cC4.ms,g12.m.at_,g12.m.fn,cC4.kc⟩,ok_bag g12.F pc4 dga mD GP g2.F.b4,PySem.W.mg_of X G cC4.a,g12.F.b2⟩⟩
 have GF:FnOk l.prog w K mg base CX0 1 f3 _ ["self"] (spFree K ⟨f3,f4,f5,f6,f7⟩):=ok_free g3.F
 have GQ:FnOk l.prog w K mg base CX0 1 f4 _ ["self"] (spIn K ⟨f3,f4,f5,f6,f7⟩ bpL):=ok_by_place g4.F Wd
 have GN:FnOk l.prog w K mg base CX0 1 f5 _ ["self"] (spIn K ⟨f3,f4,f5,f6,f7⟩ bnL):=ok_by_name g5.F Wd
 have cM1:=g23.c2 B (ok_many g23.F TF)
 have cM2:=g24.c1 B (ok_order g24.F TF PP)
 have cM3:=g25.c1 B (ok_rbars g25.F cI)
 have cM4:=g26.c2 B (ok_twice g26.F TF PP GN g5.F.b1)
 have cW:=g27.c2 B (ok_numw g27.F TF PP)
 have GK:=ok_keep g14.F TF PP FK cW GQ g4.F.b1 GN g5.F.b1
 have GI:=ok_finit g13.F FK g14.m cM1 cM2 cM3 cM4 GK (g14.F.b3)
 have Gpa:FnOk l.prog w K mg base CX0 1 f15 _ ["self"] (spPars ⟨C0,C1,C2,C3,C4⟩ FM):=ok_fpars g15.F TF FK
 have Gba:FnOk l.prog w K mg base CX0 1 f16 _ ["self"] (spBars ⟨C0,C1,C2,C3,C4⟩ FM):=ok_fbars g16.F TF FK
 have Gpl:FnOk l.prog w K mg base CX0 1 f17 _ ["self"] (spPlaces ⟨C0,C1,C2,C3,C4⟩ FM):=ok_fplaces g17.F FK
 have Gta:FnOk l.prog w K mg base CX0 1 f18 _ ["self"] (spWord ⟨C0,C1,C2,C3,C4⟩ FM 2):=ok_ftail g18.F FK
 have Gbg:FnOk l.prog w K mg base CX0 1 f19 _ ["self"] (spWord ⟨C0,C1,C2,C3,C4⟩ FM 4):=ok_fbag g19.F FK
 have Gnu:FnOk l.prog w K mg base CX0 1 f20 _ ["self","name"] (spNum ⟨C0,C1,C2,C3,C4⟩ FM):=ok_fnum g20.F FK
 have cL:=g31.c1 B (ok_laid g31.F)
 have cSh:=g34.c1 B (ok_shape g34.F (no zlen) cL)
 have cFn:=g35.c1 B (ok_firsts g35.F (no zenumerate))
 have cOv:=g37.c2 B (ok_overs g37.F (no zrange) FK g18.m Gta (g18.F.b1) g17.m Gpl (g17.F.b1))
 have cUn:=g38.c3 B (ok_unw g38.F (no zset) FK g16.m Gba (g16.F.b1) g20.m Gnu (g20.F.b2) g19.m Gbg (g19.F.b1) g17.m Gpl (g17.F.b1))
 have cEn:=g40.c4 B (ok_oneE g40.F PP GQ g4.F.b1 GN g5.F.b1)
 have cLa:=g39.c3 B (ok_lacks g39.F (no zenumerate) PP FK g15.m Gpa (g15.F.b1) GF g3.F.b1 cEn)
 have cMo:=g36.c3 B (ok_mof g36.F (no zenumerate) cFn cOv cUn cLa)
 have cMi:=g32.c2 B (ok_mis g32.F cSh cMo)
 have cFi:=g33.c2 B (ok_fits g33.F cMi)
 have GTk:FnOk l.prog w K mg base CX0 1 f6 _ ["self"] (spIn K ⟨f3,f4,f5,f6,f7⟩ otL):=ok_takes_one g6.F Wd
 have GO:FnOk l.prog w K mg base CX0 2 f7 _ ["self"] (spTold K ⟨f3,f4,f5,f6,f7⟩):=ok_told g7.F GTk g6.F.b1
 have GFT:FnOk l.prog w K mg base CX0 3 f21 _ ["self"] (spFTold ⟨C0,C1,C2,C3,C4⟩ FM):=ok_ftold g21.F TF FK PP GO g7.F.b1
 have cPf:=g22.c1 B (ok_pof g22.F UC)
 have cDo:=g30.c1 B (ok_doors g30.F PP GN g5.F.b1)
 have cRo:=g29.c2 B (ok_rowOf g29.F UR PP FK cDo g15.m Gpa (g15.F.b1) g16.m Gba (g16.F.b1) g19.m Gbg (g19.F.b1) GF g3.F.b1 GN g5.F.b1)
 have cTa:=g28.c1 B (ok_table g28.F UR FK cRo g17.m Gpl (g17.F.b1) g18.m Gta (g18.F.b1))
 have cN:=g41.c2 B (ok_nth g41.F)
 have cSt:=g42.c2 B (ok_stir g42.F)
 have cPo:=g43.c1 B (ok_pool g43.F UL)
 have cR:=g44.c3 B (ok_row g44.F UL cSt)
 have cB:=g45.c3 B (ok_lbars g45.F)
 have cFo:=g46.c2 B (ok_lform g46.F (no zlist) (PySem.W.mg_of X G cFM.a) ⟨cFM.ms,g13.m.at_,g13.m.fn,cFM.kc⟩ GI g13.b0 cPf)
 have cTk:=g47.c4 B (ok_takes g47.F ⟨no zlen,no zset⟩)
 have cIN:=g48.c2 B (ok_isnames g48.F ⟨no zisinstance,no zlist,no zstr,no zsorted,no zset,no zall⟩)
 have cMy:=g49.c5 B (ok_may g49.F cTk)
 have cRi:=g50.c4 B (ok_right g50.F ⟨no zlen,no zisinstance,no ztuple,no zbool,no zlist,no zrange⟩ T FK g21.m GFT (g21.F.b1) cTk cIN cFi cMy)
 have cCo:=g51.c1 B (ok_copied g51.F (no zlist))
 exact ok_law g52.F ⟨no zlen,no zisinstance,no ztuple,no zlist,no zbool,no zrange,no zmin⟩ cN cPo cR cB cFo cTa cRi cCo
theorem walk {l:PySem.W.OpenLaw} {q:Program} {loose:List Str} {XP:(Str->Option Value)->Heap->Prop} {YP:World->Heap->Prop} {d:DefRec} {K:Params->PySem.W.Frag} (hn:l.most = some 63) (hdf:d.params.defaults = [])
  (hY:∀ (w:World) (h:Heap),YP w h->(K w.params).In h)
  (F:∀ (w:World) (mg:Str->Option Value) (fa:Addr) (h:Heap),(K w.params).In h->h.Ns mainGlobals mg->mg d.name = some (.ref fa)->
   ∃ fd:FuncData,(∀ (s:Shared) (u:Value),BindsTo s fd ⟨[u],[]⟩ [("_law_script",u)])/\∀ base:Heap,(K w.params).In base->base.Ns mainGlobals mg->FnOk l.prog w (K w.params) mg base CX0 8 fa fd ["_law_script"] (spLawB (K w.params))) :
  PySem.W.WalkO q loose XP YP l.row.toRowW d [] (fun f vs=>PySem.call f vs):=
 L2.walk_ofB (n:=63) (k:=8) (x:="_law_script") (CX:=fun _=>CX0) (sp:=fun w=>spLawB (K w.params)) hn (by decide) hdf ⟨rfl,by decide,by decide⟩ hY F (fun _ _ a ns hl hb _ hS=>⟨a,ns,rfl,hS,hl,hb,fun _=>rfl⟩) fun _ _ _ _ _ z=>z
end K81
open PySem PySem.W PyProof.Rows
set_option maxRecDepth 100000 in
set_option maxHeartbeats 0 in
theorem PySem.Challenge.cw_callbinds_k81_rows_holds : PySem.Challenge.rw_callbinds_k81_rows.Holds := by
 w_on; o_law; k_head; (case hw => w_witness2)
 k_fill
 refine K81.walk (l := PySem.Challenge.rw_callbinds_k81_rows) rfl rfl (fun w h Y => PySem.W.kIn_of Y) ?F
 case F =>
  intro w mg fa h KX G hmg
  refine' K81.all_mk KX G hmg ?cD ?cC0 ?nC0 ?cC1 ?nC1 ?cC2 ?nC2 ?cC3 ?nC3 ?cC4 ?nC4 ?cFM ?nFM ?g1 ?g2 ?g3 ?g4 ?g5 ?g6 ?g7 ?g8 ?g9 ?g10 ?g11 ?g12 ?g13 ?g14 ?g15 ?g16 ?g17 ?g18 ?g19 ?g20 ?g21 ?g22 ?g23 ?g24 ?g25 ?g26 ?g27 ?g28 ?g29 ?g30 ?g31 ?g32 ?g33 ?g34 ?g35 ?g36 ?g37 ?g38 ?g39 ?g40 ?g41 ?g42 ?g43 ?g44 ?g45 ?g46 ?g47 ?g48 ?g49 ?g50 ?g51 ?g52 ?zisinstance ?zstr ?zbool ?zlen ?zall ?zrange ?zlist ?zenumerate ?zset ?zany ?zsorted ?zmin ?ztuple ?gL ?gN ?gMP ?gMB ?ytP ?utP ?ytB ?utB ?ytO ?utO ?ysg ?usg ?yGr ?lGr ?kGr ?eG0 ?eG1 ?eG2 ?eG3 ?eG4 ?dga ?h0 ?h1 ?h2 ?h3 ?h4
  (case cD | cC0 => apply L2.cd_mk <;> k_is)
  (case nC0 => exact ⟨by k_is, by k_is, by k_is⟩)
  (case cC1 => apply L2.cd_mk <;> k_is)
  (case nC1 => exact ⟨by k_is, by k_is, by k_is⟩)
  (case cC2 => apply L2.cd_mk <;> k_is)
  (case nC2 => exact ⟨by k_is, by k_is, by k_is⟩)
  (case cC3 => apply L2.cd_mk <;> k_is)
  (case nC3 => exact ⟨by k_is, by k_is, by k_is⟩)
  (case cC4 => apply L2.cd_mk <;> k_is)
  (case nC4 => exact ⟨by k_is, by k_is, by k_is⟩)
  (case cFM => apply L2.cd_mk <;> k_is)
  (case nFM => exact ⟨by k_is, by k_is, by k_is, by k_is, by k_is, by k_is⟩)
  (case g1 => apply L2.gd_mk <;> k_is)
  (case g2 | g3 | g4 | g5 | g6 | g7 => apply L2.md_mk <;> k_is)
  (case g8 | g9 => apply L2.dd_mk <;> k_is)
  (case g10 => apply L2.md_mk <;> k_is)
  (case g11 => apply L2.dd_mk <;> k_is)
  (case g12 => apply L2.md_mk <;> k_is)
  (case g13 => apply L2.dd_mk <;> k_is)
  (case g14 | g15 | g16 | g17 | g18 | g19 | g20 | g21 => apply L2.md_mk <;> k_is)
  (case g22 | g23 | g24 | g25 | g26 | g27 | g28 | g29 | g30 | g31 | g32 | g33 | g34 | g35 | g36 | g37 | g38 | g39 | g40 | g41 | g42 | g43 | g44 | g45 | g46 | g47 | g48 | g49 | g50 | g51 | g52 => apply L2.gd_mk <;> k_is)
  (case zisinstance | zstr | zbool | zlen | zall | zrange | zlist | zenumerate | zset | zany | zsorted | zmin | ztuple | gL | gN | gMP | gMB | ytP | utP | ytB | utB | ytO | utO | ysg | usg | yGr | lGr => k_is)
  (case kGr => k_keys)
  (case eG0 | eG1 | eG2 | eG3 | eG4 => k_is)
  (case dga => exact ⟨by k_is, by k_is, by k_is, by k_is⟩)
  (case h0 | h1 | h2 | h3 | h4 => exact ⟨by k_is, by k_is, by k_is, by k_is, by k_is⟩)
#print axioms PySem.Challenge.cw_callbinds_k81_rows_holds
