import PyProof.Rows.All
import Wide.All
import OpenK.AllK
import Wide.FinOn
import Lean
import PyProof.EqAt
import PyProof.EqKinds
import PyProof.TupleCall
import KE.KTryMore
import PyProof.ExcAttrAll.ValueError
import KE.KRevIter
import PyProof.SetNew
import PyProof.SetRoads
import PyProof.Rows.SetObj
import PyProof.DictCompW
import PyProof.DictItems
import PyProof.Rows.SetFrom
import PyProof.ListRange
import PyProof.Rows.Range3
import KE.IntBitsLaws
import PyProof.AttrMissHeap
import PyProof.FactsAll.bool_1
import KE.KDictOf
import PyProof.WalkInts
import PyProof.CollectIter
import PyProof.Rows.SortWalk
import KE.RegKIsAll
import KE.RegKTryMore
import PySem.Challenge.RW_callbinds_k22_papers_walked
set_option Elab.async false
set_option linter.all false
set_option maxRecDepth 100000
set_option maxHeartbeats 4000000
open PySem.W (instObj methodObj hideAll lookIn plainGet hasDictIn findIn plainGet_of isFn plainOver takerIn makesIn emptyDict keepIn methodCall_KW specialIn kitOne kia_one callWith_K fnOf codeIn KeysLit nsIn excIn mg_of Frag)
namespace L2
open PySem PySem.Spec PyProof.Rows
theorem zz0 : 0<=sizeLine:=by decide
theorem zz2 : 2<=sizeLine:=by decide
theorem zz1 : 1<=sizeLine:=by decide
theorem zz3 : 3<=sizeLine:=by decide
theorem zp2:(0:Int) < 2:=by decide
theorem zp8:(0:Int) < 8:=by decide
theorem zp4:(0:Int) < 4:=by decide
abbrev Key:=Sum Int Str
def jZ:Key->Value->Bool
 | .inl k,v=>Value.isInt k v
 | .inr x,v=>Value.isStrOf x v
def zkh (w:World):Key->Int
 | .inl k=>hashInt k
 | .inr x=>hashStr w x
theorem yh:∀ {k:Key} {v:Value},jZ k v = true->(∃ i t,k = Sum.inl i/\v = Value.int i t)\/(∃ x t,k = Sum.inr x/\v = Value.str x t)
 | .inl i,v,h=>by
  obtain ⟨t,e⟩:=Value.isInt_shape (k:=i) (v:=v) h
  exact .inl ⟨i,t,rfl,e⟩
 | .inr x,v,h=>by
  obtain ⟨t,e⟩:=Value.isStrOf_shape (x:=x) (v:=v) h
  exact .inr ⟨x,t,rfl,e⟩
theorem zeo (i:Int) (t:Tok):jZ (.inl i) (.int i t) = true:=by simp [jZ,Value.isInt]
theorem zen (x:Str) (t:Tok):jZ (.inr x) (.str x t) = true:=by simp [jZ,Value.isStrOf]
theorem ziu (a b:Int):decide ((Sum.inl a:Key) = Sum.inl b) = (a == b):=by
 by_cases e:a = b
 ·subst e; simp
 ·have h:¬ (Sum.inl a:Key) = Sum.inl b:=fun q=>e (Sum.inl.inj q)
  rw [decide_eq_false h]
  exact (beq_eq_false_iff_ne.mpr e).symm
theorem zfS (a b:Str):decide ((Sum.inr a:Key) = Sum.inr b) = decide (a = b):=by
 by_cases e:a = b
 ·subst e; simp
 ·have h:¬ (Sum.inr a:Key) = Sum.inr b:=fun q=>e (Sum.inr.inj q)
  rw [decide_eq_false h,decide_eq_false e]
theorem zit (a:Int) (b:Str):decide ((Sum.inl a:Key) = Sum.inr b) = false:=decide_eq_false (fun q=>nomatch q)
theorem zis (a:Str) (b:Int):decide ((Sum.inr a:Key) = Sum.inl b) = false:=decide_eq_false (fun q=>nomatch q)
def zY (prog:Program) (w:World):PySem.KeyKind prog w Key where
 is:=jZ
 hash:=zkh w
 inj:=fun v a b ha hb=>by
  rcases yh ha with ⟨i,t,rfl,rfl⟩ | ⟨x,t,rfl,rfl⟩
  ·rcases yh hb with ⟨j,u,rfl,e⟩ | ⟨y,u,rfl,e⟩
   ·injection e with e1 _; rw [e1]
   ·exact nomatch e
  ·rcases yh hb with ⟨j,u,rfl,e⟩ | ⟨y,u,rfl,e⟩
   ·exact nomatch e
   ·injection e with e1 _; rw [e1]
 byValue:=fun k v h=>by
  rcases yh h with ⟨i,t,rfl,rfl⟩ | ⟨x,t,rfl,rfl⟩ <;> rfl
 pyHash:=fun hv h=>by
  rcases yh hv with ⟨i,t,rfl,rfl⟩ | ⟨x,t,rfl,rfl⟩
  ·exact wpAny_pyHash_int h
  ·exact wpAny_pyHash_str h
 eqBool:=fun hu hv h=>by
  rcases yh hu with ⟨i,t,rfl,rfl⟩ | ⟨x,t,rfl,rfl⟩
  ·rcases yh hv with ⟨j,u,rfl,rfl⟩ | ⟨y,u,rfl,rfl⟩
   ·rw [ziu] at h; exact wpAny_eqBool_int h
   ·rw [zit] at h; exact SeqAt.EqAt.int_str i t y u _ _ _ _ h
  ·rcases yh hv with ⟨j,u,rfl,rfl⟩ | ⟨y,u,rfl,rfl⟩
   ·rw [zis] at h; exact SeqAt.EqAt.str_int x t j u _ _ _ _ h
   ·rw [zfS] at h; exact wpAny_eqBool_str h
 «strs»:=fun k x t v h=>by
  rcases yh h with ⟨i,u,rfl,e⟩ | ⟨y,u,rfl,e⟩
  ·exact nomatch e
  ·injection e with e1 _
   subst e1
   cases v <;> rfl
theorem zbE (prog:Program) (w:World) (i:Int) (t:Tok):(zY prog w).is (.inl i) (.int i t) = true:=zeo i t
theorem zbD (prog:Program) (w:World) (x:Str) (t:Tok):(zY prog w).is (.inr x) (.str x t) = true:=zen x t
inductive V where
 | non | bl (b:Bool) | int (i:Int) | str (x:Str) | byt (b:Array UInt8) | flt (b:UInt64) | ref (a:Addr) | ty (n:String)
 deriving DecidableEq
def zN:V->Value->Prop
 | .non,u=>u = Value.none
 | .bl b,u=>u = Value.bool b
 | .int i,u=>∃ t,u = Value.int i t
 | .str x,u=>∃ t,u = Value.str x t
 | .byt b,u=>∃ t,u = Value.bytes b t
 | .flt b,u=>∃ t,u = Value.float b t
 | .ref a,u=>u = Value.ref a
 | .ty n,u=>u = Value.type n
abbrev zP:List V->List Value->Prop:=Paired zN
theorem zP.length {xs:List V} {us:List Value} (r:zP xs us):xs.length = us.length:=Paired.length r
theorem zP.get:∀ {xs:List V} {us:List Value} {i:Nat} {x:V},zP xs us->xs[i]? = some x->∃ u,us[i]? = some u/\zN x u
 | _,_,_,_,.nil,e=>by simp at e
 | _,_,0,_,.cons r _,e=>by simp at e; subst e; exact ⟨_,rfl,r⟩
 | _,_,i + 1,x,.cons _ t,e=>by
  obtain ⟨u,h1,h2⟩:=zP.get (i:=i) (x:=x) t (by simpa using e)
  exact ⟨u,by simpa using h1,h2⟩
theorem zP.append:∀ {xs ys:List V} {us ws:List Value},zP xs us->zP ys ws->zP (xs ++ ys) (us ++ ws)
 | _,_,_,_,.nil,s=>s
 | _,_,_,_,.cons r t,s=>.cons r (zP.append t s)
theorem zP.take:∀ {xs:List V} {us:List Value} (n:Nat),zP xs us->zP (xs.take n) (us.take n)
 | _,_,0,_=>.nil
 | _,_,_ + 1,.nil=>.nil
 | _,_,n + 1,.cons r t=>.cons r (zP.take n t)
theorem zP.drop:∀ {xs:List V} {us:List Value} (n:Nat),zP xs us->zP (xs.drop n) (us.drop n)
 | _,_,0,r=>r
 | _,_,_ + 1,.nil=>.nil
 | _,_,n + 1,.cons _ t=>zP.drop n t
def wl:Option V->Option Value->Prop
 | some v,some u=>zN v u
 | none,none=>True
 | _,_=>False
def KV {κ : Type}:List (κ × V)->List (κ × Value)->Prop:=Paired fun (p : κ × V) (q : κ × Value)=>p.1 = q.1/\zN p.2 q.2
def kV:Key->V
 | .inl i=>.int i
 | .inr x=>.str x
inductive HO where
 | lst (xs:List V)
 | tup (xs:List V)
 | dK (kvs:List (Key × V)) | dT (kvs:List (List Key × V))
 | set (S:Int->Bool) (n:Nat)
 | ins (C dx:Addr) (fs:List (Str × V))
 | own (x:Addr)
 | xd (fs:List (Str × V))
 | met (f x:Addr)
 | rng (lo hi:Int)
 | frz (o:Obj) (u:HO)
 | tbl (ps:Array Value)
 | ext (φ : Heap->Prop)
abbrev Hp:=Addr->Option HO
def upd (H:Hp) (a:Addr) (o:HO):Hp:=fun b=>if b = a then some o else H b
theorem za {H:Hp} {a:Addr} {o:HO}:upd H a o a = some o:=by unfold upd; rw [if_pos rfl]
theorem zi {H:Hp} {a b:Addr} {o:HO} (h:b ≠ a):upd H a o b = H b:=by unfold upd; rw [if_neg h]
theorem zaq {H:Hp} {a:Addr} {o u:HO}:upd (upd H a o) a u = upd H a u:=by
 funext b; unfold upd; split <;> rfl
theorem xC {H:Hp} {a b:Addr} {o u:HO} (h:H a = some o) (h':H b = some u) (d:o ≠ u):a ≠ b:=by
 intro e; subst e; rw [h] at h'; exact d (Option.some.inj h')
theorem zf {H:Hp} {a b:Addr} {o:HO} (h:H a = some o) (h':H b = none):a ≠ b:=by
 intro e; subst e; rw [h] at h'; cases h'
section
variable (P:Program) (w:World)
def yi (H:Hp) (h:Heap) (a:Addr):HO->Prop
 | .lst xs=>xs.length<=sizeLine/\∃ (its:List Value) (n:Nat),zP xs its/\h.get? a = some { cls:=.type "list",data:=.seq its.toArray n }
 | .tup xs=>xs.length<=sizeLine/\∃ its:List Value,zP xs its/\IsTup h a its.toArray
 | .dK kvs=>kvs.length<=sizeLine/\(a == sysModules) = false/\∃ vs,KV kvs vs/\h.DictOf (zY P w) a vs
 | .dT kvs=>kvs.length<=sizeLine/\(a == sysModules) = false/\∃ xs:List (List Key × Addr × Value),
   Paired (fun (p:List Key × V) (q:List Key × Addr × Value)=>p.1 = q.1/\H q.2.1 = some (.tup (p.1.map kV))/\zN p.2 q.2.2) kvs xs/\
   ∃ o es ep,h.get? a = some o/\o.ExactDict/\o.data = .dict es ep/\es.toList = xs.map (entryOfKey (tupleKind (zY P w)))/\(xs.map (·.1)).Nodup
 | .set S n=>h.SetOf (intKind P w) a S n
 | .ins C dx fs=>H dx = some (.own a)/\fs.length<=1000/\dx ≠ a/\h.get? a = some (instObj C dx)/\
   ∃ mA,h.Ns1 dx mA/\(∀ f,wl (fs.lookup f) (mA f))/\PySem.Within mA (fs.map (·.1))
 | .own _=>∃ o,h.get? a = some o
 | .xd fs=>∃ mA,h.Ns1 a mA/\∀ f,wl (fs.lookup f) (mA f)
 | .rng lo hi=>∃ t u v,h.get? a = some { cls:=.type "range",data:=.fields #[.int lo t,.int hi u,.int 1 v] }
 | .frz o u=>h.get? a = some o/\yi H h a u
 | .tbl ps=>h.get? a = some { cls:=.none,data:=.fields ps }
 | .met f x=>h.get? a = some (methodObj (.ref f) (.ref x))
 | .ext φ=>φ h/\(∃ o,h.get? a = some o)/\∀ h1 h2:Heap,φ h1->(∀ o,h1.get? a = some o->h2.get? a = some o)->φ h2
def HOk (H:Hp) (h:Heap):Prop:=∀ a o,H a = some o->yi P w H h a o
end
section
variable {P:Program} {w:World} {H H':Hp} {h h':Heap} {a:Addr} {o:HO}
theorem yi.lt (x:yi P w H h a o):a < h.objs.size:=by
 cases o with
 | lst xs=>obtain ⟨_,_,_,_,e⟩:=x; exact Heap.lt_size e
 | tup xs=>obtain ⟨_,_,_,p⟩:=x; exact p.lt
 | dK kvs=>obtain ⟨_,_,_,_,o,_,_,e,_⟩:=x; exact Heap.lt_size e
 | dT kvs=>obtain ⟨_,_,_,_,o,_,_,e,_⟩:=x; exact Heap.lt_size e
 | set S n=>obtain ⟨o,_,_,_,e,_⟩:=x; exact Heap.lt_size e
 | ins C dx fs=>obtain ⟨_,_,_,e,_⟩:=x; exact Heap.lt_size e
 | own y=>obtain ⟨_,e⟩:=x; exact Heap.lt_size e
 | xd fs=>obtain ⟨_,⟨_,_,_,e,_⟩,_⟩:=x; exact Heap.lt_size e
 | rng lo hi=>obtain ⟨_,_,_,e⟩:=x; exact Heap.lt_size e
 | frz ob u=>obtain ⟨e,_⟩:=x; exact Heap.lt_size e
 | tbl ps=>exact Heap.lt_size (show h.get? a = some _ from x)
 | met f y=>exact Heap.lt_size (show h.get? a = some _ from x)
 | ext φ=>obtain ⟨_,⟨_,e⟩,_⟩:=x; exact Heap.lt_size e
theorem Paired.mapP {α β : Type} {F G : α->β->Prop}:∀ {l₁:List α} {l₂:List β},Paired F l₁ l₂->(∀ a b,F a b->G a b)->Paired G l₁ l₂
 | _,_,.nil,_=>.nil
 | _,_,.cons r t,f=>.cons (f _ _ r) (Paired.mapP t f)
theorem Paired.imp' {α β : Type} {F G : α->β->Prop} (f:∀ a b,F a b->G a b) {l₁:List α} {l₂:List β} (r:Paired F l₁ l₂):Paired G l₁ l₂:=Paired.mapP r f
theorem yi.stay (x:yi P w H h a o) (k:∀ b u,(b = a\/H b = some (.own a))->h.get? b = some u->h'.get? b = some u)
  (ho:∀ b,H b = some (.own a)->H' b = some (.own a)) (ht:∀ b xs,H b = some (.tup xs)->H' b = some (.tup xs)):yi P w H' h' a o:=by
 induction o with
 | lst xs=>obtain ⟨z,its,n,r,e⟩:=x; exact ⟨z,its,n,r,k _ _ (.inl rfl) e⟩
 | tup xs=>obtain ⟨z,its,r,ob,e,c⟩:=x; exact ⟨z,its,r,ob,k _ _ (.inl rfl) e,c⟩
 | dK kvs=>obtain ⟨z,y,vs,r,ob,es,ep,e,c⟩:=x; exact ⟨z,y,vs,r,ob,es,ep,k _ _ (.inl rfl) e,c⟩
 | dT kvs=>
  obtain ⟨z,y,xs,r,ob,es,ep,e,c⟩:=x
  exact ⟨z,y,xs,Paired.mapP r fun p q z=>⟨z.1,ht _ _ z.2.1,z.2.2⟩,ob,es,ep,k _ _ (.inl rfl) e,c⟩
 | set S n=>obtain ⟨ob,es,ep,t,e,c⟩:=x; exact ⟨ob,es,ep,t,k _ _ (.inl rfl) e,c⟩
 | ins C dx fs=>
  obtain ⟨d,z,ne,e,mA,⟨od,es,ep,e2,c⟩,r⟩:=x
  exact ⟨ho _ d,z,ne,k _ _ (.inl rfl) e,mA,⟨od,es,ep,k _ _ (.inr d) e2,c⟩,r⟩
 | own y=>obtain ⟨ob,e⟩:=x; exact ⟨ob,k _ _ (.inl rfl) e⟩
 | xd fs=>obtain ⟨mA,⟨od,es,ep,e,c⟩,r⟩:=x; exact ⟨mA,⟨od,es,ep,k _ _ (.inl rfl) e,c⟩,r⟩
 | rng lo hi=>obtain ⟨t,u,v,e⟩:=x; exact ⟨t,u,v,k _ _ (.inl rfl) e⟩
 | frz ob u ih=>obtain ⟨e,q⟩:=x; exact ⟨k _ _ (.inl rfl) e,ih q⟩
 | tbl ps=>
  have e:h.get? a = some { cls:=.none,data:=.fields ps }:=x
  show h'.get? a = some { cls:=.none,data:=.fields ps }
  exact k a _ (.inl rfl) e
 | met f y=>
  have e:h.get? a = some (methodObj (.ref f) (.ref y)):=x
  show h'.get? a = some (methodObj (.ref f) (.ref y))
  exact k a _ (.inl rfl) e
 | ext φ=>obtain ⟨p,⟨o,e⟩,st⟩:=x; exact ⟨st _ _ p fun o q=>k _ _ (.inl rfl) q,⟨o,k _ _ (.inl rfl) e⟩,st⟩
theorem HOk.lt (x:HOk P w H h) (e:H a = some o):a < h.objs.size:=(x a o e).lt
theorem HOk.fresh (x:HOk P w H h) (e:h.objs.size<=a):H a = none:=by
 cases q:H a with
 | none=>rfl
 | some u=>exact absurd (Nat.lt_of_lt_of_le (x.lt q) e) (Nat.lt_irrefl _)
theorem HOk.kept (x:HOk P w H h) (k:∀ b u,h.get? b = some u->h'.get? b = some u):HOk P w H h':=fun a o e=>
 (x a o e).stay (fun b u _ q=>k b u q) (fun _ q=>q) fun _ _ q=>q
theorem HOk.laid (x:HOk P w H h) (k:∀ b u,h.get? b = some u->h'.get? b = some u) (hp:h.objs.size<=a) (new:yi P w (upd H a o) h' a o):HOk P w (upd H a o) h':=fun b u e=>by
 have hn:=x.fresh hp
 by_cases hb:b = a
 ·subst hb; rw [za] at e; cases e; exact new
 ·rw [zi hb] at e
  exact (x b u e).stay (fun c v _ q=>k c v q) (fun c q=>by rw [zi (zf q hn)]; exact q) fun c xs q=>by rw [zi (zf q hn)]; exact q
end
def Rd (H:Hp) (a:Addr) (u:HO):Prop:=H a = some u\/∃ o,H a = some (.frz o u)
theorem Rd.ok {P:Program} {w:World} {H:Hp} {h:Heap} {a:Addr} {u:HO} (r:Rd H a u) (x:HOk P w H h):yi P w H h a u:=by
 rcases r with r | ⟨o,r⟩
 ·exact x a u r
 ·obtain ⟨_,q⟩:=x a _ r
  exact q
def Mut:Option HO->Prop
 | some (.lst _)=>True
 | some (.dK _)=>True
 | some (.dT _)=>True
 | some (.set _ _)=>True
 | some (.ins _ _ _)=>True
 | some (.ext _)=>True
 | _=>False
section
variable {P:Program} {w:World} {H:Hp} {h h':Heap} {x e:Addr} {o':HO}
theorem HOk.write (ok:HOk P w H h) (mu:Mut (H x)) (he:e = x\/H e = some (.own x)) (k:∀ b u,b ≠ e->h.get? b = some u->h'.get? b = some u) (heo:∃ u,h'.get? e = some u)
  (new:yi P w (upd H x o') h' x o'):HOk P w (upd H x o') h':=fun b u q=>by
 have nown:∀ c y,H c = some (.own y)->c ≠ x:=fun c y r z=>by subst z; rw [r] at mu; exact mu
 have ntup:∀ c xs,H c = some (.tup xs)->c ≠ x:=fun c xs r z=>by subst z; rw [r] at mu; exact mu
 by_cases hb:b = x
 ·subst hb; rw [za] at q; cases q; exact new
 ·rw [zi hb] at q
  by_cases hbe:b = e
  ·have q':H b = some (.own x):=by
    rcases he with z | z
    ·exact absurd (hbe.trans z) hb
    ·rw [hbe]; exact z
   rw [q] at q'; cases q'
   obtain ⟨v,hv⟩:=heo
   exact ⟨v,by rw [hbe]; exact hv⟩
  ·refine (ok b u q).stay (fun c v hc r=>k c v ?_ r) (fun c r=>by rw [zi (nown c b r)]; exact r) fun c xs r=>by rw [zi (ntup c xs r)]; exact r
   rcases hc with rfl | hc
   ·exact hbe
   ·rintro rfl
    rcases he with z | z
    ·exact nown c b hc z
    ·rw [hc] at z; cases z; exact hb rfl
end
structure Un (fs ex:List Addr) (H H':Hp) (h h':Heap):Prop where
 keep:∀ b o,h.get? b = some o->H b = none->b ∉ fs->b ∉ ex->h'.get? b = some o
 slot:∀ b o,h.get? b = some o->H b = none->b ∈ fs->b ∉ ex->∃ sl,h'.get? b = some { o with slots:=sl }
 free:∀ b o,h.get? b = some o->H b = none->b ∉ ex->H' b = none
 there:∀ b o,h.get? b = some o->b ∉ ex->∃ o',h'.get? b = some o'
 tups:∀ b xs,H b = some (.tup xs)->H' b = some (.tup xs)
 frzs:∀ b o u,H b = some (.frz o u)->H' b = some (.frz o u)
 tbls:∀ b ps,H b = some (.tbl ps)->∃ more,H' b = some (.tbl (ps ++ more))
section
variable {fs fs' ex ex':List Addr} {H H1 H2:Hp} {h h1 h2 h':Heap} {a x e:Addr} {o:HO}
theorem Un.any (u:Un fs ex H H1 h h1) {b:Addr} {ob:Obj} (q:h.get? b = some ob) (n:H b = none) (hx:b ∉ ex):∃ sl,h1.get? b = some { ob with slots:=sl }:=by
 by_cases hb:b ∈ fs
 ·exact u.slot b ob q n hb hx
 ·exact ⟨ob.slots,u.keep b ob q n hb hx⟩
theorem Un.kept (k:∀ b u,h.get? b = some u->h'.get? b = some u):Un fs ex H H h h':=
 ⟨fun b ob q _ _ _=>k b ob q,fun b ob q _ _ _=>⟨ob.slots,k b ob q⟩,fun _ _ _ n _=>n,fun b ob q _=>⟨ob,k b ob q⟩,fun _ _ q=>q,fun _ _ _ q=>q,fun _ ps q=>⟨#[],by rw [q]; simp⟩⟩
theorem Un.refl:Un fs ex H H h h:=Un.kept fun _ _ q=>q
theorem Un.laid (k:∀ b u,h.get? b = some u->h'.get? b = some u) (hp:h.objs.size<=a) (hn:H a = none):Un fs ex H (upd H a o) h h' where
 keep:=fun b u q _ _ _=>k b u q
 slot:=fun b u q _ _ _=>⟨u.slots,k b u q⟩
 free:=fun b u q n _=>by rw [zi (Nat.ne_of_lt (Nat.lt_of_lt_of_le (Heap.lt_size q) hp))]; exact n
 there:=fun b u q _=>⟨u,k b u q⟩
 tups:=fun b xs q=>by rw [zi (zf q hn)]; exact q
 frzs:=fun b u xs q=>by rw [zi (zf q hn)]; exact q
 tbls:=fun b ps q=>⟨#[],by rw [zi (zf q hn),q]; simp⟩
theorem Un.write (mu:Mut (H x)) (he:e = x\/H e = some (.own x)) (k:∀ b u,b ≠ e->h.get? b = some u->h'.get? b = some u) (heo:∃ u,h'.get? e = some u):Un fs ex H (upd H x o) h h':=by
 have hx:∀ b,H b = none->b ≠ x:=fun b n z=>by subst z; rw [n] at mu; exact mu
 have hb:∀ b,H b = none->b ≠ e:=fun b n z=>by
  subst z
  rcases he with r | r
  ·exact hx b n r
  ·rw [n] at r; cases r
 have hm:∀ b u,H b = some u->¬ Mut (some u)->b ≠ x:=fun b u q nm z=>by subst z; rw [q] at mu; exact nm mu
 refine ⟨fun b u q n _ _=>k b u (hb b n) q,fun b u q n _ _=>⟨u.slots,k b u (hb b n) q⟩,fun b u q n _=>by rw [zi (hx b n)]; exact n,fun b u q _=>?_,
  fun b xs q=>by rw [zi (hm b _ q fun z=>z)]; exact q,fun b u xs q=>by rw [zi (hm b _ q fun z=>z)]; exact q,fun b ps q=>⟨#[],by rw [zi (hm b _ q fun z=>z),q]; simp⟩⟩
 by_cases hbe:b = e
 ·subst hbe; exact heo
 ·exact ⟨u,k b u hbe q⟩
end
def trk (h:Heap) (H:Hp):List Addr:=(List.range h.objs.size).filter fun a=>(H a).isSome
def zaW (h:Heap) (H:Hp):Heap:=hideAll h (trk h H)
theorem zes (h:Heap) (H:Hp):(zaW h H).objs.size = h.objs.size:=PySem.W.hideAll_size _ _
theorem zfX {h:Heap} {H:Hp} {b:Addr} {o:Obj} (e:h.get? b = some o) (n:H b = none):(zaW h H).get? b = some o:=
 PySem.W.hideAll_get _ e fun hm=>by
  have q:(H b).isSome = true:=(List.mem_filter.mp hm).2
  rw [n] at q; simp at q
theorem zg1 {h:Heap} {H:Hp} {b:Addr} {o:Obj} (e:(zaW h H).get? b = some o):h.get? b = some o/\H b = none:=by
 have e':h.get? b = some o:=PySem.W.of_hideAll (trk h H) e
 refine ⟨e',?_⟩
 cases q:H b with
 | none=>rfl
 | some x=>
  have hm:b ∈ trk h H:=List.mem_filter.mpr ⟨List.mem_range.mpr (Heap.lt_size e'),by simp [q]⟩
  have z:(zaW h H).get? b = none:=PySem.W.hideAll_none (trk h H) hm
  rw [z] at e; cases e
def zhm (g h:Heap) (L:Addr):List (Addr × Obj):=(List.range h.objs.size).filterMap fun a=>if a = L\/(g.get? a).isSome = true then none else (h.get? a).map fun o=>(a,o)
def wH (g h:Heap) (L d:Addr):List (Addr × Obj):=(zhm g h L).filter fun p=>decide (p.1 ≠ d)
structure Mod (K:Frag) (mg:Str->Option Value) (base:Heap):Prop where
 kin:K.In base
 glob:base.Ns mainGlobals mg
 blt:∃ mb,base.Ns builtinsNs mb/\∀ x:Str,x ≠ "__name__"->mb x = bootBuiltins x
 nolimit:base.NoLimit
structure Cx where
 prog:Program
 w:World
 K:Frag
 mg:Str->Option Value
 base:Heap
 A:Around
 N:List Str
 s₀:Shared
 H₀:Hp
 env:Env
 outer:List Env
 stack:List Env
 ex:List Addr
 fn:Str->Bool
 calm:Bool
 pn:List (Addr × Obj)
 xe:Value->Shared->Prop
def frs (l:List Env):List Addr:=l.filterMap (·.frame)
abbrev Cx.fs (X:Cx):List Addr:=frs X.outer
def Vis (sc:Scope) (x:Str):Prop:=sc.names.lookup x = some .local\/sc.names.lookup x = some .cell\/sc.names.lookup x = some .free
def Loc (sc:Scope) (x:Str):Prop:=sc.names.lookup x = some .local\/sc.names.lookup x = some .cell
def zko (env:Env) (h:Heap) (m:Str->Option Value) (x:Str) (u:Value):Prop:=
 (env.kindOf x = some .local/\m x = some u)\/((env.kindOf x = some .cell\/env.kindOf x = some .free)/\∃ c,env.cells.lookup x = some c/\h.IsCell c (some u))
structure Cx.Ok (X:Cx):Prop where
 mod:Mod X.K X.mg X.base
 kind:X.env.scope.kind = .function
 glob:X.env.globals = mainGlobals
 blt:X.env.builtins = builtinsNs
 above:X.s₀.heap.objs.size<=X.env.locals
 inj:∀ x y c,X.env.cells.lookup x = some c->X.env.cells.lookup y = some c->x = y
 has:∀ x,(X.env.kindOf x = some .cell\/X.env.kindOf x = some .free)->∃ c,X.env.cells.lookup x = some c
 cab:∀ x c,X.fn x = true->X.env.cells.lookup x = some c->X.s₀.heap.objs.size<=c
 hd:X.calm = true->X.A.handled = none
 frames:X.A.frames = some X.stack
 stk:X.stack = X.outer\/(X.stack = X.env :: X.outer/\X.env.frame = some X.env.locals)
 exf:∀ b ∈ X.ex,b ≠ X.env.locals/\∀ x c,X.env.cells.lookup x = some c->c ≠ b
 bs:∀ b o,X.base.get? b = some o->X.s₀.heap.get? b = some o/\X.H₀ b = none
 bsz:X.base.objs.size<=X.s₀.heap.objs.size
 noex:∀ b o,X.base.get? b = some o->b ∉ X.ex
 exfs:∀ b ∈ X.ex,b ∉ X.fs
 funs:X.s₀.heap.FunFrames X.base X.outer
 frf:∀ b ∈ X.fs,X.H₀ b = none
structure Inv (X:Cx) (pins:List (Addr × Obj)) (σ : List (Option V)) (H:Hp) (s:Shared):Prop where
 ok:X.Ok
 os:s.os = X.s₀.os
 bare:AllBare s.gens
 base:Un X.fs X.ex X.H₀ H X.s₀.heap s.heap
 loc:∃ m,s.heap.Ns X.env.locals m/\∀ (i:Nat) (x:Str) (v:V),X.N[i]? = some x->σ[i]? = some (some v)->Vis X.env.scope x->∃ u,zN v u/\zko X.env s.heap m x u
 cell:∀ x c,X.env.cells.lookup x = some c->∃ v,s.heap.IsCell c v
 free:H X.env.locals = none
 freeC:∀ x c,X.env.cells.lookup x = some c->H c = none
 pin:∀ p ∈ X.pn ++ pins,s.heap.get? p.1 = some p.2/\H p.1 = none/\p.1 ≠ X.env.locals/\p.1 ∉ X.fs/\∀ v,p.2.data ≠ .cell v
 hok:HOk X.prog X.w H s.heap
 len : σ.length = X.N.length
section
variable {X:Cx} {pins:List (Addr × Obj)} {σ : List (Option V)} {H H':Hp} {s:Shared} {h':Heap}
theorem Cx.Ok.nofr (ok:X.Ok) {b:Addr} {o:Obj} (e:X.base.get? b = some o):b ∉ X.fs:=fun hb=>by
 have:=(ok.funs.mem hb).1
 rw [e] at this; cases this
theorem Inv.bs (I:Inv X pins σ H s):∀ b o,X.base.get? b = some o->s.heap.get? b = some o/\H b = none:=fun b o e=>
 ⟨I.base.keep b o (I.ok.bs b o e).1 (I.ok.bs b o e).2 (I.ok.nofr e) (I.ok.noex b o e),I.base.free b o (I.ok.bs b o e).1 (I.ok.bs b o e).2 (I.ok.noex b o e)⟩
theorem Inv.bk (I:Inv X pins σ H s):∀ b o,X.base.get? b = some o->s.heap.get? b = some o:=fun b o e=>(I.bs b o e).1
theorem Inv.mod (I:Inv X pins σ H s):Mod X.K X.mg X.base:=I.ok.mod
theorem Inv.kIn (I:Inv X pins σ H s):X.K.In s.heap:=I.ok.mod.kin.keeps I.bk
theorem Inv.fr (I:Inv X pins σ H s):∃ m,Fr X.base X.env.locals s.heap m:=
 let ⟨m,hn,_⟩:=I.loc
 ⟨m,hn,I.bk,Nat.le_trans I.ok.bsz I.ok.above⟩
theorem Inv.lt (I:Inv X pins σ H s):X.env.locals < s.heap.objs.size:=let ⟨_,hn,_⟩:=I.loc; hn.lt
theorem Inv.sz (I:Inv X pins σ H s):X.s₀.heap.objs.size<=s.heap.objs.size:=Nat.le_trans I.ok.above (Nat.le_of_lt I.lt)
theorem Inv.nofs (I:Inv X pins σ H s) {a:Addr} (h:s.heap.objs.size<=a):a ∉ X.fs:=fun hb=>by
 obtain ⟨_,o,ho,_⟩:=I.ok.funs.mem hb
 exact absurd (Nat.lt_of_lt_of_le (Heap.lt_size ho) (Nat.le_trans I.sz h)) (Nat.lt_irrefl _)
theorem Inv.cne (I:Inv X pins σ H s):∀ x c,X.env.cells.lookup x = some c->c ≠ X.env.locals:=fun x c e z=>by
 obtain ⟨v,o,ho,hd⟩:=I.cell x c e
 obtain ⟨m,⟨o',es,ep,ho',hd',_⟩,_⟩:=I.loc
 rw [z,ho'] at ho; cases ho; rw [hd'] at hd; cases hd
theorem Inv.funs (I:Inv X pins σ H s):s.heap.FunFrames X.base X.outer:=by
 have all:∀ (l:List Env),(∀ b ∈ frs l,b ∈ X.fs)->X.s₀.heap.FunFrames X.base l->s.heap.FunFrames X.base l:=by
  intro l
  induction l with
  | nil=>intro _ _; trivial
  | cons env r ih=>
   intro hs hl
   obtain ⟨hk,⟨L,o,hf,hn,ho,hd⟩,hr⟩:=hl
   have hL:L ∈ X.fs:=hs L (by unfold frs; rw [List.filterMap_cons,hf]; exact List.mem_cons_self)
   obtain ⟨sl,e⟩:=I.base.slot L o ho (I.ok.frf L hL) hL fun z=>I.ok.exfs L z hL
   exact ⟨hk,⟨L,_,hf,hn,e,hd⟩,ih (fun b hb=>hs b (by unfold frs; rw [List.filterMap_cons,hf]; exact List.mem_cons_of_mem _ hb)) hr⟩
 exact all X.outer (fun _ hb=>hb) I.ok.funs
theorem Inv.stack (I:Inv X pins σ H s):s.heap.FunFrames X.base X.stack:=by
 rcases I.ok.stk with e | ⟨e,hf⟩
 ·rw [e]; exact I.funs
 ·rw [e]
  obtain ⟨m,hn,_⟩:=I.loc
  refine .cons (by rw [I.ok.kind]; decide) hf hn ?_ I.funs
  exact Heap.get?_none_of_le (Nat.le_trans I.ok.bsz I.ok.above)
theorem Inv.stkSub (I:Inv X pins σ H s):∀ b ∈ frs X.stack,b ∈ X.env.locals :: X.fs:=fun b hb=>by
 rcases I.ok.stk with e | ⟨e,hf⟩
 ·rw [e] at hb; exact List.mem_cons_of_mem _ hb
 ·rw [e] at hb
  unfold frs at hb
  rw [List.filterMap_cons,hf] at hb
  exact hb
theorem Inv.stkFree (I:Inv X pins σ H s):∀ b ∈ frs X.stack,H b = none:=fun b hb=>by
 rcases List.mem_cons.mp (I.stkSub b hb) with e | hb
 ·rw [e]; exact I.free
 ·obtain ⟨_,o,ho,_⟩:=I.ok.funs.mem hb
  exact I.base.free b o ho (I.ok.frf b hb) fun z=>I.ok.exfs b z hb
theorem Inv.step {g':Array GenState} {t':Nat} {d':Drawn} {ch:List Addr} (I:Inv X pins σ H s)
  (hch:∀ b ∈ ch,(b ∈ X.ex\/X.s₀.heap.objs.size<=b)/\b ≠ X.env.locals/\(∀ x c,X.env.cells.lookup x = some c->c ≠ b)/\∀ p ∈ X.pn ++ pins,p.1 ≠ b)
  (keep:∀ b o,b ≠ X.env.locals->b ∉ X.fs->b ∉ ch->s.heap.get? b = some o->H b = none->h'.get? b = some o)
  (slot:∀ b o,b ≠ X.env.locals->b ∈ X.fs->b ∉ ch->s.heap.get? b = some o->H b = none->∃ sl,h'.get? b = some { o with slots:=sl }) (free:∀ b o,b ∉ ch->s.heap.get? b = some o->H b = none->H' b = none)
  (there:∀ b o,b ∉ ch->s.heap.get? b = some o->∃ o',h'.get? b = some o')
  (tups:∀ b xs,H b = some (.tup xs)->H' b = some (.tup xs)) (frzs:∀ b o u,H b = some (.frz o u)->H' b = some (.frz o u)) (tbls:∀ b ps,H b = some (.tbl ps)->∃ more,H' b = some (.tbl (ps ++ more)))
  (ns:∀ m,s.heap.Ns X.env.locals m->h'.Ns X.env.locals m) (hok:HOk X.prog X.w H' h') (hg:AllBare g') :
  Inv X pins σ H' { s with heap:=h',gens:=g',drawn:=d',toks:=t' }:=by
 have neL:∀ b o,X.s₀.heap.get? b = some o->b ≠ X.env.locals:=fun b o e=>Nat.ne_of_lt (Nat.lt_of_lt_of_le (Heap.lt_size e) I.ok.above)
 have neC:∀ b o,X.s₀.heap.get? b = some o->b ∉ X.ex->b ∉ ch:=fun b o e hx hb=>by
  rcases (hch b hb).1 with z | z
  ·exact hx z
  ·exact absurd (Nat.lt_of_lt_of_le (Heap.lt_size e) z) (Nat.lt_irrefl _)
 have cellK:∀ x c,X.env.cells.lookup x = some c->∀ v,s.heap.IsCell c v->h'.IsCell c v:=fun x c e v ⟨o,ho,hd⟩=>by
  have nch:c ∉ ch:=fun z=>(hch c z).2.2.1 x c e rfl
  by_cases hc:c ∈ X.fs
  ·obtain ⟨sl,q⟩:=slot c o (I.cne x c e) hc nch ho (I.freeC x c e)
   exact ⟨_,q,hd⟩
  ·exact ⟨o,keep c o (I.cne x c e) hc nch ho (I.freeC x c e),hd⟩
 refine ⟨I.ok,I.os,hg,⟨fun b o e n hb hx=>?_,fun b o e n hb hx=>?_,fun b o e n hx=>?_,fun b o e hx=>?_,fun b xs e=>tups b xs (I.base.tups b xs e),fun b o xs e=>frzs b o xs (I.base.frzs b o xs e),fun b ps e=>?_⟩,?_,fun x c e=>?_,?_,fun x c e=>?_,fun p hp=>?_,hok,I.len⟩
 ·exact keep b o (neL b o e) hb (neC b o e hx) (I.base.keep b o e n hb hx) (I.base.free b o e n hx)
 ·obtain ⟨sl,e1⟩:=I.base.slot b o e n hb hx
  obtain ⟨sl',e2⟩:=slot b _ (neL b o e) hb (neC b o e hx) e1 (I.base.free b o e n hx)
  exact ⟨sl',e2⟩
 ·obtain ⟨o',e1⟩:=I.base.there b o e hx
  exact free b o' (neC b o e hx) e1 (I.base.free b o e n hx)
 ·obtain ⟨o',e1⟩:=I.base.there b o e hx
  exact there b o' (neC b o e hx) e1
 ·obtain ⟨m1,e1⟩:=I.base.tbls b ps e
  obtain ⟨m2,e2⟩:=tbls b _ e1
  exact ⟨m1 ++ m2,by rw [e2,Array.append_assoc]⟩
 ·obtain ⟨m,hn,hl⟩:=I.loc
  refine ⟨m,ns m hn,fun i x v e1 e2 e3=>?_⟩
  obtain ⟨u,r,l⟩:=hl i x v e1 e2 e3
  refine ⟨u,r,?_⟩
  rcases l with l | ⟨k,c,e,z⟩
  ·exact .inl l
  ·exact .inr ⟨k,c,e,cellK x c e _ z⟩
 ·obtain ⟨v,z⟩:=I.cell x c e
  exact ⟨v,cellK x c e v z⟩
 ·obtain ⟨m,⟨o,_,_,ho,_⟩,_⟩:=I.loc
  exact free _ o (fun z=>(hch _ z).2.1 rfl) ho I.free
 ·obtain ⟨v,o,ho,hd⟩:=I.cell x c e
  exact free c o (fun z=>(hch c z).2.2.1 x c e rfl) ho (I.freeC x c e)
 ·obtain ⟨e,n,ne,nf,d⟩:=I.pin p hp
  have nch:p.1 ∉ ch:=fun z=>(hch p.1 z).2.2.2 p hp rfl
  exact ⟨keep p.1 p.2 ne nf nch e n,free p.1 p.2 nch e n,ne,nf,d⟩
theorem Inv.un {t':Nat} (I:Inv X pins σ H s) (u:Un X.fs [] H H' s.heap h') (hok:HOk X.prog X.w H' h'):Inv X pins σ H' { s with heap:=h',toks:=t' }:=by
 obtain ⟨m,⟨o,es,ep,ho,r⟩,_⟩:=id I.loc
 obtain ⟨sl,hL⟩:=u.any ho I.free (by simp)
 exact I.step (g':=s.gens) (d':=s.drawn) (ch:=[]) (fun _ z=>nomatch z) (fun b o _ hb _ e n=>u.keep b o e n hb (by simp)) (fun b o _ hb _ e n=>u.slot b o e n hb (by simp)) (fun b o _ e n=>u.free b o e n (by simp)) (fun b o _ e=>u.there b o e (by simp)) u.tups u.frzs u.tbls (fun m' hm=>by
  obtain ⟨o',es',ep',ho',r'⟩:=hm
  rw [ho] at ho'; cases ho'
  exact ⟨_,es',ep',hL,r'⟩) hok I.bare
theorem Inv.call {g':Array GenState} {t':Nat} {d':Drawn} {ch:List Addr} (I:Inv X pins σ H s) (u:Un (frs X.stack) ch H H' s.heap h') (hok:HOk X.prog X.w H' h') (hg:AllBare g')
  (hch:∀ b ∈ ch,(b ∈ X.ex\/X.s₀.heap.objs.size<=b)/\b ≠ X.env.locals/\(∀ x c,X.env.cells.lookup x = some c->c ≠ b)/\∀ p ∈ X.pn ++ pins,p.1 ≠ b) :
  Inv X pins σ H' { s with heap:=h',gens:=g',drawn:=d',toks:=t' }:=by
 obtain ⟨m,⟨o,es,ep,ho,r⟩,_⟩:=id I.loc
 obtain ⟨sl,hL⟩:=u.any ho I.free fun z=>(hch _ z).2.1 rfl
 exact I.step (ch:=ch) hch (fun b o hL hb hc e n=>u.keep b o e n (fun z=>(List.mem_cons.mp (I.stkSub b z)).elim hL hb) hc) (fun b o _ _ hc e n=>u.any e n hc) (fun b o hc e n=>u.free b o e n hc) (fun b o hc e=>u.there b o e hc) u.tups u.frzs u.tbls (fun m' hm=>by
  obtain ⟨o',es',ep',ho',r'⟩:=hm
  rw [ho] at ho'; cases ho'
  exact ⟨_,es',ep',hL,r'⟩) hok hg
theorem Inv.turned {t':Nat} {it:Addr} (I:Inv X pins σ H s) (k:∀ b o,b ≠ it->s.heap.get? b = some o->h'.get? b = some o) (hn:H it = none) (hL:it ≠ X.env.locals)
  (h1:it ∈ X.ex\/X.s₀.heap.objs.size<=it) (h2:∀ x c,X.env.cells.lookup x = some c->c ≠ it) (h3:∀ p ∈ X.pn ++ pins,p.1 ≠ it):Inv X pins σ H { s with heap:=h',toks:=t' }:=by
 have nit:∀ b u,H b = some u->b ≠ it:=fun b u e z=>by rw [z,hn] at e; cases e
 refine I.step (g':=s.gens) (d':=s.drawn) (ch:=[it]) (fun b hb=>?_) (fun b o _ _ hc e _=>k b o (fun z=>hc (by simp [z])) e) (fun b o _ _ hc e _=>⟨o.slots,k b o (fun z=>hc (by simp [z])) e⟩) (fun _ _ _ _ n=>n)
  (fun b o hc e=>⟨o,k b o (fun z=>hc (by simp [z])) e⟩) (fun _ _ e=>e) (fun _ _ _ e=>e) (fun b ps e=>⟨#[],by rw [e]; simp⟩) (fun m hm=>?_) (fun b u e=>?_) I.bare
 ·have e:b = it:=by simpa using hb
  subst e
  exact ⟨h1,hL,h2,h3⟩
 ·obtain ⟨o,es,ep,ho,r⟩:=hm
  exact ⟨o,es,ep,k _ o (Ne.symm hL) ho,r⟩
 ·refine (I.hok b u e).stay (fun c v hc q=>k c v ?_ q) (fun _ q=>q) fun _ _ q=>q
  rcases hc with z | z
  ·rw [z]; exact nit b u e
  ·exact nit c _ z
theorem Inv.tok (I:Inv X pins σ H s) (t:Nat):Inv X pins σ H { s with toks:=t }:=I.un (h':=s.heap) (t':=t) Un.refl I.hok
theorem Inv.kept {t':Nat} (I:Inv X pins σ H s) (k:∀ b u,s.heap.get? b = some u->h'.get? b = some u):Inv X pins σ H { s with heap:=h',toks:=t' }:=I.un (Un.kept k) (I.hok.kept k)
theorem Inv.laid {a:Addr} {o:HO} {t':Nat} (I:Inv X pins σ H s) (k:∀ b u,s.heap.get? b = some u->h'.get? b = some u) (hp:s.heap.objs.size<=a) (new:yi X.prog X.w (upd H a o) h' a o) :
  Inv X pins σ (upd H a o) { s with heap:=h',toks:=t' }:=I.un (Un.laid k hp (I.hok.fresh hp)) (I.hok.laid k hp new)
theorem Inv.write {x e:Addr} {o:HO} {t':Nat} (I:Inv X pins σ H s) (mu:Mut (H x)) (he:e = x\/H e = some (.own x)) (k:∀ b u,b ≠ e->s.heap.get? b = some u->h'.get? b = some u) (heo:∃ u,h'.get? e = some u)
  (new:yi X.prog X.w (upd H x o) h' x o):Inv X pins σ (upd H x o) { s with heap:=h',toks:=t' }:=I.un (Un.write mu he k heo) (I.hok.write mu he k heo new)
theorem Inv.weak {σ':List (Option V)} (I:Inv X pins σ H s) (hl : σ'.length = σ.length) (w:∀ (i:Nat) v,σ'[i]? = some (some v)->σ[i]? = some (some v)):Inv X pins σ' H s:=
 ⟨I.ok,I.os,I.bare,I.base,let ⟨m,hn,hl'⟩:=I.loc; ⟨m,hn,fun i x v e1 e2 e3=>hl' i x v e1 (w i v e2) e3⟩,I.cell,I.free,I.freeC,I.pin,I.hok,hl.trans I.len⟩
theorem Inv.pins_of {pins':List (Addr × Obj)} (I:Inv X pins σ H s) (h:∀ p ∈ pins',s.heap.get? p.1 = some p.2/\H p.1 = none/\p.1 ≠ X.env.locals/\p.1 ∉ X.fs/\∀ v,p.2.data ≠ .cell v):Inv X pins' σ H s:=
 ⟨I.ok,I.os,I.bare,I.base,I.loc,I.cell,I.free,I.freeC,fun p hp=>(List.mem_append.mp hp).elim (fun z=>I.pin p (List.mem_append_left _ z)) (h p),I.hok,I.len⟩
theorem zbB {N:List Str} (hN:N.Nodup) {i j:Nat} {x:Str} (a:N[i]? = some x) (b:N[j]? = some x):i = j:=by
 obtain ⟨h1,e1⟩:=List.getElem?_eq_some_iff.mp a
 obtain ⟨h2,e2⟩:=List.getElem?_eq_some_iff.mp b
 exact (List.getElem_inj hN).mp (e1.trans e2.symm)
theorem qu {M:Model} {A:Around} {E:Value->Shared->Prop} {i:Nat} {x:Str} {v:V} {u:Value} {Q:Unit->Shared->Prop} (I:Inv X pins σ H s) (hN:X.N.Nodup) (hi:X.N[i]? = some x) (hx:Loc X.env.scope x) (r:zN v u)
  (h:∀ s',Inv X pins (σ.set i (some v)) H s'->(∃ a,Heap.SameBut a s.heap s'.heap/\(a = X.env.locals\/X.env.cells.lookup x = some a))->Q () s') (hf:X.fn x = true\/X.env.scope.names.lookup x = some .local:=by first | exact .inl rfl | exact .inr rfl | assumption):wpAny M A (storeName X.env x u) Q E s:=by
 obtain ⟨m,hn,hl⟩:=id I.loc
 have hcls:(X.env.scope.kind == .class || (X.env.scope.kind == .module && X.env.locals != X.env.globals)) = false:=by rw [I.ok.kind]; rfl
 have hiσ : i < σ.length:=by rw [I.len]; exact (List.getElem?_eq_some_iff.mp hi).1
 have cne:=I.cne
 have tracked:∀ {a:Addr} {h':Heap},(∃ o,s.heap.get? a = some o/\H a = none)->Heap.SameBut a s.heap h'->HOk X.prog X.w H h':=fun {a h'} ha hs b ob e=>by
  obtain ⟨_,_,hfree⟩:=ha
  refine (I.hok b ob e).stay (fun c w' hc q=>(hs.2 c ?_).trans q) (fun _ q=>q) fun _ _ q=>q
  rintro rfl
  rcases hc with rfl | hc
  ·rw [hfree] at e; cases e
  ·rw [hfree] at hc; cases hc
 rcases hx with hk | hk
 ·refine wpAny_storeName_local hk hn (fun h' hn' hs=>?_) hcls
  obtain ⟨oL,_,_,hoL,_⟩:=id hn
  refine h _ ⟨I.ok,I.os,I.bare,⟨fun b o e n hb hx=>?_,fun b o e n hb hx=>?_,I.base.free,fun b o e hx=>?_,I.base.tups,I.base.frzs,I.base.tbls⟩,⟨_,hn',fun j y v' e1 e2 e3=>?_⟩,fun y c e=>?_,I.free,I.freeC,fun p hp=>?_,tracked ⟨oL,hoL,I.free⟩ hs,by simpa using I.len⟩ ⟨_,hs,.inl rfl⟩
  ·exact (hs.2 b (Nat.ne_of_lt (Nat.lt_of_lt_of_le (Heap.lt_size e) I.ok.above))).trans (I.base.keep b o e n hb hx)
  ·obtain ⟨sl,e1⟩:=I.base.slot b o e n hb hx
   exact ⟨sl,(hs.2 b (Nat.ne_of_lt (Nat.lt_of_lt_of_le (Heap.lt_size e) I.ok.above))).trans e1⟩
  ·obtain ⟨o',e1⟩:=I.base.there b o e hx
   exact ⟨o',(hs.2 b (Nat.ne_of_lt (Nat.lt_of_lt_of_le (Heap.lt_size e) I.ok.above))).trans e1⟩
  ·by_cases hj:j = i
   ·subst hj
    rw [hi] at e1; cases e1
    rw [List.getElem?_set_self hiσ] at e2
    cases e2
    exact ⟨u,r,.inl ⟨hk,by simp⟩⟩
   ·rw [List.getElem?_set_ne (Ne.symm hj)] at e2
    obtain ⟨u',r',q⟩:=hl j y v' e1 e2 e3
    refine ⟨u',r',?_⟩
    rcases q with ⟨k,e⟩ | ⟨k,c,e,z⟩
    ·refine .inl ⟨k,?_⟩
     have:y ≠ x:=fun e=>hj (zbB hN e1 (e ▸ hi))
     simp [this,e]
    ·exact .inr ⟨k,c,e,z.sameBut hs (cne y c e)⟩
  ·obtain ⟨w',z⟩:=I.cell y c e
   exact ⟨w',z.sameBut hs (cne y c e)⟩
  ·obtain ⟨e,n,ne,nf,d⟩:=I.pin p hp
   exact ⟨(hs.2 p.1 ne).trans e,n,ne,nf,d⟩
 ·have hfn:X.fn x = true:=by
   rcases hf with z | z
   ·exact z
   ·rw [z] at hk; cases hk
  obtain ⟨c,hc⟩:=I.ok.has x (.inl hk)
  obtain ⟨w',z⟩:=I.cell x c hc
  refine wpAny_storeName_cell I.ok.kind hk hc z (fun h' hc' hs=>?_)
  obtain ⟨oc,hoc,hocd⟩:=id z
  refine h { s with heap:=h' } ⟨I.ok,I.os,I.bare,⟨fun b o e n hb hx=>?_,fun b o e n hb hx=>?_,I.base.free,fun b o e hx=>?_,I.base.tups,I.base.frzs,I.base.tbls⟩,⟨m,hn.sameBut hs (Ne.symm (cne x c hc)),fun j y v' e1 e2 e3=>?_⟩,fun y c' e=>?_,I.free,I.freeC,fun p hp=>?_,tracked ⟨oc,hoc,I.freeC x c hc⟩ hs,by simpa using I.len⟩ ⟨c,hs,.inr hc⟩
  ·exact (hs.2 b (Nat.ne_of_lt (Nat.lt_of_lt_of_le (Heap.lt_size e) (I.ok.cab x c hfn hc)))).trans (I.base.keep b o e n hb hx)
  ·obtain ⟨sl,e1⟩:=I.base.slot b o e n hb hx
   exact ⟨sl,(hs.2 b (Nat.ne_of_lt (Nat.lt_of_lt_of_le (Heap.lt_size e) (I.ok.cab x c hfn hc)))).trans e1⟩
  ·obtain ⟨o',e1⟩:=I.base.there b o e hx
   exact ⟨o',(hs.2 b (Nat.ne_of_lt (Nat.lt_of_lt_of_le (Heap.lt_size e) (I.ok.cab x c hfn hc)))).trans e1⟩
  ·by_cases hj:j = i
   ·subst hj
    rw [hi] at e1; cases e1
    rw [List.getElem?_set_self hiσ] at e2
    cases e2
    exact ⟨u,r,.inr ⟨.inl hk,c,hc,hc'⟩⟩
   ·rw [List.getElem?_set_ne (Ne.symm hj)] at e2
    obtain ⟨u',r',q⟩:=hl j y v' e1 e2 e3
    refine ⟨u',r',?_⟩
    rcases q with q | ⟨k,c',e,z'⟩
    ·exact .inl q
    ·refine .inr ⟨k,c',e,z'.sameBut hs ?_⟩
     rintro rfl
     exact hj (zbB hN e1 (I.ok.inj _ _ _ e hc ▸ hi))
  ·by_cases hcc:c' = c
   ·subst hcc; exact ⟨_,hc'⟩
   ·obtain ⟨w2,z2⟩:=I.cell y c' e
    exact ⟨w2,z2.sameBut hs hcc⟩
  ·obtain ⟨e,n,ne,nf,d⟩:=I.pin p hp
   refine ⟨(hs.2 p.1 ?_).trans e,n,ne,nf,d⟩
   intro q
   rw [q,hoc] at e
   have q':oc = p.2:=Option.some.inj e
   exact d w' (by rw [<- q']; exact hocd)
theorem zbd {M:Model} {A:Around} {E:Value->Shared->Prop} {i:Nat} {x:Str} {v:V} {u:Value} {Q:Unit->Shared->Prop} (I:Inv X pins σ H s) (hN:X.N.Nodup) (hi:X.N[i]? = some x) (hx:Loc X.env.scope x) (r:zN v u)
  (h:∀ s',Inv X pins (σ.set i (some v)) H s'->Q () s') (hf:X.fn x = true\/X.env.scope.names.lookup x = some .local:=by first | exact .inl rfl | exact .inr rfl | assumption):wpAny M A (storeName X.env x u) Q E s:=
 qu I hN hi hx r (fun s' I' _=>h s' I') hf
theorem Inv.call' {s':Shared} {ch:List Addr} (I:Inv X pins σ H s) (ho:s'.os = s.os) (u:Un (frs X.stack) ch H H' s.heap s'.heap) (hok:HOk X.prog X.w H' s'.heap) (hg:AllBare s'.gens)
  (hch:∀ b ∈ ch,(b ∈ X.ex\/X.s₀.heap.objs.size<=b)/\b ≠ X.env.locals/\(∀ x c,X.env.cells.lookup x = some c->c ≠ b)/\∀ p ∈ X.pn ++ pins,p.1 ≠ b):Inv X pins σ H' s':=by
 obtain ⟨h',g',d',t',o'⟩:=s'
 have e:o' = s.os:=ho
 subst e
 exact I.call (g':=g') (t':=t') (d':=d') u hok hg hch
end
abbrev XK:=Value->Option Addr->Hp->Prop
abbrev St:=List (Option V)
abbrev VK:=V->Hp->Prop
abbrev TE:=St->Hp->VK->Prop
abbrev TT:=St->Hp->(Bool->Hp->Prop)->Prop
abbrev TA:=St->Hp->(List V->Hp->Prop)->Prop
structure u7 where
 nx:St->Hp->Prop
 rt:VK
 bk:St->Hp->Prop:=fun _ _=>False
 ct:St->Hp->Prop:=fun _ _=>False
abbrev TS:=u7->St->Hp->Prop
def EP (X:Cx) (pins:List (Addr × Obj)) (σ : St) (Q:VK) (u:Value) (s':Shared):Prop:=∃ v H',Inv X pins σ H' s'/\zN v u/\Q v H'
def TP (X:Cx) (pins:List (Addr × Obj)) (σ : St) (Q:Bool->Hp->Prop) (b:Bool) (s':Shared):Prop:=∃ H',Inv X pins σ H' s'/\Q b H'
def AP (X:Cx) (pins:List (Addr × Obj)) (σ : St) (Q:List V->Hp->Prop) (us:List Value) (s':Shared):Prop:=∃ vs H',Inv X pins σ H' s'/\zP vs us/\Q vs H'
def SP (X:Cx) (pins:List (Addr × Obj)) (D:u7) (f:Flow) (s':Shared):Prop:=
 match f with
 | .next=>∃ σ' H',Inv X pins σ' H' s'/\D.nx σ' H'
 | .brk=>∃ σ' H',Inv X pins σ' H' s'/\D.bk σ' H'
 | .cont=>∃ σ' H',Inv X pins σ' H' s'/\D.ct σ' H'
 | .ret u=>∃ v σ' H',Inv X pins σ' H' s'/\zN v u/\D.rt v H'
structure PE (X:Cx) (e:Expr) (t:TE):Prop where
 run:∀ (pins:List (Addr × Obj)) (s:Shared) (σ : St) (H:Hp) (Q:VK),Inv X pins σ H s->t σ H Q->wpAny (model X.prog X.w) X.A (eval e X.env) (EP X pins σ Q) X.xe s
instance {X:Cx} {e:Expr} {t:TE}:CoeFun (PE X e t) (fun _=>∀ (pins:List (Addr × Obj)) (s:Shared) (σ : St) (H:Hp) (Q:VK),Inv X pins σ H s->t σ H Q->wpAny (model X.prog X.w) X.A (eval e X.env) (EP X pins σ Q) X.xe s):=⟨PE.run⟩
structure PT (X:Cx) (e:Expr) (t:TT):Prop where
 run:∀ (pins:List (Addr × Obj)) (s:Shared) (σ : St) (H:Hp) (Q:Bool->Hp->Prop),Inv X pins σ H s->t σ H Q->wpAny (model X.prog X.w) X.A (isTrue e X.env (eval e X.env)) (TP X pins σ Q) X.xe s
instance {X:Cx} {e:Expr} {t:TT}:CoeFun (PT X e t) (fun _=>∀ (pins:List (Addr × Obj)) (s:Shared) (σ : St) (H:Hp) (Q:Bool->Hp->Prop),Inv X pins σ H s->t σ H Q->wpAny (model X.prog X.w) X.A (isTrue e X.env (eval e X.env)) (TP X pins σ Q) X.xe s):=⟨PT.run⟩
structure PW (X:Cx) (e:Expr) (t:TT):Prop where
 run:∀ (whole:Sem Value) (pins:List (Addr × Obj)) (s:Shared) (σ : St) (H:Hp) (Q:Bool->Hp->Prop),Inv X pins σ H s->t σ H Q->wpAny (model X.prog X.w) X.A (isTrue e X.env whole) (TP X pins σ Q) X.xe s
instance {X:Cx} {e:Expr} {t:TT}:CoeFun (PW X e t) (fun _=>∀ (whole:Sem Value) (pins:List (Addr × Obj)) (s:Shared) (σ : St) (H:Hp) (Q:Bool->Hp->Prop),Inv X pins σ H s->t σ H Q->wpAny (model X.prog X.w) X.A (isTrue e X.env whole) (TP X pins σ Q) X.xe s):=⟨PW.run⟩
theorem PW.pt {X:Cx} {e:Expr} {t:TT} (h:PW X e t):PT X e t:=⟨h _⟩
structure PA (X:Cx) (es:List Expr) (t:TA):Prop where
 run:∀ (pos:Pos) (pins:List (Addr × Obj)) (s:Shared) (σ : St) (H:Hp) (Q:List V->Hp->Prop),Inv X pins σ H s->t σ H Q->wpAny (model X.prog X.w) X.A (spliced (backTo pos (starEach es X.env))) (AP X pins σ Q) X.xe s
instance {X:Cx} {es:List Expr} {t:TA}:CoeFun (PA X es t) (fun _=>∀ (pos:Pos) (pins:List (Addr × Obj)) (s:Shared) (σ : St) (H:Hp) (Q:List V->Hp->Prop),Inv X pins σ H s->t σ H Q->wpAny (model X.prog X.w) X.A (spliced (backTo pos (starEach es X.env))) (AP X pins σ Q) X.xe s):=⟨PA.run⟩
structure PS (X:Cx) (st:Stmt) (t:TS):Prop where
 run:∀ (pins:List (Addr × Obj)) (s:Shared) (σ : St) (H:Hp) (D:u7),Inv X pins σ H s->t D σ H->wpAny (model X.prog X.w) X.A (exec st X.env) (SP X pins D) X.xe s
instance {X:Cx} {st:Stmt} {t:TS}:CoeFun (PS X st t) (fun _=>∀ (pins:List (Addr × Obj)) (s:Shared) (σ : St) (H:Hp) (D:u7),Inv X pins σ H s->t D σ H->wpAny (model X.prog X.w) X.A (exec st X.env) (SP X pins D) X.xe s):=⟨PS.run⟩
structure PSs (X:Cx) (st:List Stmt) (t:TS):Prop where
 run:∀ (pins:List (Addr × Obj)) (s:Shared) (σ : St) (H:Hp) (D:u7),Inv X pins σ H s->t D σ H->wpAny (model X.prog X.w) X.A (execs st X.env) (SP X pins D) X.xe s
instance {X:Cx} {st:List Stmt} {t:TS}:CoeFun (PSs X st t) (fun _=>∀ (pins:List (Addr × Obj)) (s:Shared) (σ : St) (H:Hp) (D:u7),Inv X pins σ H s->t D σ H->wpAny (model X.prog X.w) X.A (execs st X.env) (SP X pins D) X.xe s):=⟨PSs.run⟩
theorem thn {α : Type} {t:Sem α} {Q Q' : α->Shared->Prop} {M:Model} {A:Around} {E:Value->Shared->Prop} {s:Shared} (h:wpAny M A t Q E s) (hQ:∀ a s,Q a s->Q' a s):wpAny M A t Q' E s:=wpAny_mono h hQ fun _ _ x=>x
section
variable {X:Cx}
theorem bin {a b:Expr} {ta tb:TE} (ha:PE X a ta) (hb:PE X b tb) {pins:List (Addr × Obj)} {s:Shared} {σ : St} {H:Hp} {R:V->V->Hp->Prop} (I:Inv X pins σ H s) (h:ta σ H fun x H1=>tb σ H1 fun y H2=>R x y H2)
  {α : Type} {Q : α->Shared->Prop} {f:Value->Value->Sem α}
  (hf:∀ v u s2 x y H2,Inv X pins σ H2 s2->zN x v->zN y u->R x y H2->wpAny (model X.prog X.w) X.A (f v u) Q X.xe s2) :
  wpAny (model X.prog X.w) X.A (eval a X.env) (fun v s₁=>wpAny (model X.prog X.w) X.A (eval b X.env) (fun u s₂=>wpAny (model X.prog X.w) X.A (f v u) Q X.xe s₂) X.xe s₁) X.xe s:=by
 refine thn (ha pins s σ H _ I h) fun v s1 ⟨x,H1,I1,r1,q1⟩=>?_
 refine thn (hb pins s1 σ H1 _ I1 q1) fun u s2 ⟨y,H2,I2,r2,q2⟩=>?_
 exact hf v u s2 x y H2 I2 r1 r2 q2
def zhK (i:Nat):TE:=fun σ H Q=>∃ v,σ[i]? = some (some v)/\Q v H
def tC (v:V):TE:=fun _ H Q=>Q v H
theorem zic {i:Nat} {x:Str} {pos:Pos} (hN:X.N[i]? = some x) (hv:Vis X.env.scope x) (hd:(x == ("__debug__" : Str)) = false:=by decide) (hcd:(x == ("__classdict__" : Str)) = false:=by decide):PE X (.Name x pos) (zhK i):=by
 refine ⟨?_⟩
 intro pins s σ H Q I h
 obtain ⟨v,e,h⟩:=h
 obtain ⟨m,hn,hl⟩:=I.loc
 obtain ⟨u,r,l⟩:=hl i x v hN e hv
 have fin:EP X pins σ Q u s:=⟨v,H,I,r,h⟩
 rcases l with ⟨hk,hm⟩ | ⟨hk,c,hc,hcell⟩
 ·exact wpAny_Name (wpAny_loadName_local I.ok.kind hk hn hm fin) hd
 ·rcases hk with hk | hk
  ·exact wpAny_Name (wpAny_loadName_cell I.ok.kind hk hc hcell fin) hd
  ·exact wpAny_Name (wpAny_loadName_free I.ok.kind hk hc hcell fin hcd) hd
theorem zg {i j pos}:PE X (.Constant (.int i) j pos) (tC (.int i)):=⟨fun _ _ _ H _ I h=>wpAny_Constant_int ⟨.int i,H,I.tok _,⟨_,rfl⟩,h⟩⟩
theorem wD {b j pos}:PE X (.Constant (.bool b) j pos) (tC (.bl b)):=⟨fun _ _ _ H _ I h=>Constant_bool ⟨.bl b,H,I,rfl,h⟩⟩
theorem zie {j pos}:PE X (.Constant .none j pos) (tC .non):=⟨fun _ _ _ H _ I h=>Constant_none ⟨.non,H,I,rfl,h⟩⟩
theorem zl {x j pos}:PE X (.Constant (.str x) j pos) (tC (.str x)):=⟨fun _ _ _ H _ I h=>Calls.Constant_str ⟨.str x,H,I.tok _,⟨_,rfl⟩,h⟩⟩
def Gl (X:Cx) (x:Str):Prop:=X.env.kindOf x = some .globalImplicit
theorem vg {E:Value->Shared->Prop} {pins:List (Addr × Obj)} {s:Shared} {σ : St} {H:Hp} {x:Str} {u:Value} {pos:Pos} {Q:Value->Shared->Prop} (I:Inv X pins σ H s) (hg:Gl X x) (hm:X.mg x = some u) (h:Q u s)
  (hd:(x == ("__debug__" : Str)) = false:=by decide):wpAny (model X.prog X.w) X.A (eval (.Name x pos) X.env) Q E s:=
 Calls.Name_function_global I.ok.kind hg (Calls.loadGlobal_global (by rw [I.ok.glob]; exact I.mod.glob.keeps I.bk) hm h) hd
theorem wR {E:Value->Shared->Prop} {pins:List (Addr × Obj)} {s:Shared} {σ : St} {H:Hp} {x:Str} {u:Value} {pos:Pos} {Q:Value->Shared->Prop} (I:Inv X pins σ H s) (hg:Gl X x) (hm:X.mg x = none) (hv:bootBuiltins x = some u) (h:Q u s)
  (hn:x ≠ "__name__":=by decide) (hd:(x == ("__debug__" : Str)) = false:=by decide):wpAny (model X.prog X.w) X.A (eval (.Name x pos) X.env) Q E s:=by
 obtain ⟨mb,h1,h2⟩:=I.mod.blt
 exact Calls.Name_function_global I.ok.kind hg (Calls.loadGlobal_builtin (by rw [I.ok.glob]; exact I.mod.glob.keeps I.bk) hm (by rw [I.ok.blt]; exact h1.keeps I.bk) ((h2 x hn).trans hv) h) hd
theorem wv {x:Str} {v:V} {u:Value} {pos:Pos} (hg:Gl X x) (hm:X.mg x = some u) (r:zN v u) (hd:(x == ("__debug__" : Str)) = false:=by decide):PE X (.Name x pos) (tC v):=⟨fun _ _ _ H _ I h=>vg I hg hm ⟨v,H,I,r,h⟩ hd⟩
theorem ve {x:Str} {v:V} {u:Value} {pos:Pos} (hg:Gl X x) (hm:X.mg x = none) (hv:bootBuiltins x = some u) (r:zN v u) (hn:x ≠ "__name__":=by decide) (hd:(x == ("__debug__" : Str)) = false:=by decide):PE X (.Name x pos) (tC v):=⟨fun _ _ _ H _ I h=>wR I hg hm hv ⟨v,H,I,r,h⟩ hn hd⟩
variable {a b:Expr} {ta tb:TE} {pos:Pos}
structure PC (X:Cx) (op:CmpOp) (a b:Expr) (t:TE):Prop where
 run:∀ (pins:List (Addr × Obj)) (s:Shared) (σ : St) (H:Hp) (Q:VK),Inv X pins σ H s->t σ H Q->
  wpAny (model X.prog X.w) X.A (eval a X.env) (fun v s₁=>wpAny (model X.prog X.w) X.A (eval b X.env) (fun u s₂=>wpAny (model X.prog X.w) X.A (compareOp op v u) (EP X pins σ Q) X.xe s₂) X.xe s₁) X.xe s
instance {X:Cx} {op:CmpOp} {a b:Expr} {t:TE}:CoeFun (PC X op a b t) (fun _=>∀ (pins:List (Addr × Obj)) (s:Shared) (σ : St) (H:Hp) (Q:VK),Inv X pins σ H s->t σ H Q->
  wpAny (model X.prog X.w) X.A (eval a X.env) (fun v s₁=>wpAny (model X.prog X.w) X.A (eval b X.env) (fun u s₂=>wpAny (model X.prog X.w) X.A (compareOp op v u) (EP X pins σ Q) X.xe s₂) X.xe s₁) X.xe s):=⟨PC.run⟩
theorem zfI (b:Expr) {op:CmpOp} (h:op ≠ .In) (h2:op ≠ .NotIn):behindInMarks op b = false:=by
 have e1:(op == CmpOp.In) = false:=by cases op <;> first | rfl | exact absurd rfl h
 have e2:(op == CmpOp.NotIn) = false:=by cases op <;> first | rfl | exact absurd rfl h2
 cases b <;> simp [behindInMarks,e1,e2]
def zjP (ta:TE):TE:=fun σ H Q=>ta σ H fun x H1=>Q (.bl (decide (x = .non))) H1
def ziX (ta:TE):TE:=fun σ H Q=>ta σ H fun x H1=>Q (.bl (!decide (x = .non))) H1
theorem zN.none_iff {x:V} {v:Value} (r:zN x v):(v == Value.none) = decide (x = .non):=by
 cases x with
 | non=>cases r; rfl
 | bl _=>cases r; rfl
 | int _=>obtain ⟨t,rfl⟩:=r; rfl
 | str _=>obtain ⟨t,rfl⟩:=r; rfl
 | byt _=>obtain ⟨t,rfl⟩:=r; rfl
 | flt _=>obtain ⟨t,rfl⟩:=r; rfl
 | ref _=>cases r; rfl
 | ty _=>cases r; rfl
theorem zaN {j pos'} (ha:PE X a ta):PC X .Is a (.Constant .none j pos') (zjP ta):=by
 refine ⟨?_⟩
 intro pins s σ H Q I h
 refine thn (ha pins s σ H _ I h) fun v s1 ⟨x,H1,I1,r1,q1⟩=>?_
 exact Constant_none (is_none_gen ⟨.bl _,H1,I1,by rw [r1.none_iff]; rfl,q1⟩)
theorem zgH {j pos'} (ha:PE X a ta):PC X .IsNot a (.Constant .none j pos') (ziX ta):=by
 refine ⟨?_⟩
 intro pins s σ H Q I h
 refine thn (ha pins s σ H _ I h) fun v s1 ⟨x,H1,I1,r1,q1⟩=>?_
 exact Constant_none (isnot_none_gen ⟨.bl _,H1,I1,by rw [r1.none_iff]; rfl,q1⟩)
def tB (t:TE):TT:=fun σ H Q=>t σ H fun x H1=>∃ c,x = .bl c/\Q c H1
theorem vA {op:CmpOp} {t:TE} (h:PC X op a b t) (h1:behindInMarks op b = false:=by first | exact zfI _ (by decide) (by decide) | rfl):PT X (.Compare a [op] [b] pos) (tB t):=by
 refine ⟨?_⟩
 intro pins s σ H Q I hw
 refine wpAny_isTrue_Compare1 (thn (h pins s σ H _ I hw) fun v s1 h1=>thn h1 fun u s2 h2=>thn h2 fun c s3 ⟨x,H1,I1,r1,q1⟩=>?_) h1
 obtain ⟨d,rfl,q⟩:=q1
 cases r1
 exact wpAny_truthy_bool ⟨H1,I1,q⟩
theorem yr {e:Expr} {t:TE} (h:PE X e t) (he:∀ whole,isTrue e X.env whole = (do let v <- whole; standAt e.pos; holding [v] (truthy v)):=by intro _; rfl):PT X e (tB t):=by
 refine ⟨?_⟩
 intro pins s σ H Q I hw
 refine isTrue_plain (thn (h pins s σ H _ I hw) fun v s1 ⟨x,H1,I1,r1,q1⟩=>?_) (he _)
 obtain ⟨d,rfl,q⟩:=q1
 cases r1
 exact wpAny_truthy_bool ⟨H1,I1,q⟩
variable {tA tB':TT} {wH:List Expr}
def zjU (t u:TT):TT:=fun σ H Q=>t σ H fun c H1=>if c = true then u σ H1 Q else Q false H1
def tOr (t u:TT):TT:=fun σ H Q=>t σ H fun c H1=>if c = true then Q true H1 else u σ H1 Q
def zjO (t:TT):TT:=fun σ H Q=>t σ H fun c H1=>Q (!c) H1
theorem yQ (ha:PT X a tA):PW X (.BoolOp .And [a] pos) tA:=by
 refine ⟨?_⟩
 intro wh pins s σ H Q I h
 refine isTrue_and (thn (ha pins s σ H Q I h) fun c s1 e=>?_)
 cases c with
 | true=>exact isTrue_and_nil e
 | false=>exact e
theorem xH (ha:PT X a tA):PW X (.BoolOp .Or [a] pos) tA:=by
 refine ⟨?_⟩
 intro wh pins s σ H Q I h
 refine isTrue_or (thn (ha pins s σ H Q I h) fun c s1 e=>?_)
 cases c with
 | false=>exact isTrue_or_nil e
 | true=>exact e
theorem xn (ha:PT X a tA) (hb:PW X (.BoolOp .And (b :: wH) pos) tB'):PW X (.BoolOp .And (a :: b :: wH) pos) (zjU tA tB'):=by
 refine ⟨?_⟩
 intro wh pins s σ H Q I h
 refine isTrue_and (thn (ha pins s σ H _ I h) fun c s1 ⟨H1,I1,q1⟩=>?_)
 cases c with
 | true=>exact hb wh pins s1 σ H1 Q I1 q1
 | false=>exact ⟨H1,I1,q1⟩
theorem xW (ha:PT X a tA) (hb:PW X (.BoolOp .Or (b :: wH) pos) tB'):PW X (.BoolOp .Or (a :: b :: wH) pos) (tOr tA tB'):=by
 refine ⟨?_⟩
 intro wh pins s σ H Q I h
 refine isTrue_or (thn (ha pins s σ H _ I h) fun c s1 ⟨H1,I1,q1⟩=>?_)
 cases c with
 | true=>exact ⟨H1,I1,q1⟩
 | false=>exact hb wh pins s1 σ H1 Q I1 q1
theorem xg (ha:PT X a tA):PT X (.UnaryOp .Not a pos) (zjO tA):=by
 refine ⟨?_⟩
 intro pins s σ H Q I h
 exact isTrue_not (ha pins s σ H (fun c H1=>Q (!c) H1) I h)
def zi3 (ta tb:TE):TE:=fun σ H Q=>ta σ H fun x H1=>∃ c,x = .bl c/\if c = true then tb σ H1 Q else Q (.bl false) H1
def ziW (ta:TE):TE:=fun σ H Q=>ta σ H fun x H1=>∃ c,x = .bl c/\Q (.bl (!c)) H1
theorem uS {op} {t:TE} (h:PE X a t):PE X (.BoolOp op [a] pos) t:=⟨fun pins s σ H Q I hw=>BoolOp_one (h pins s σ H Q I hw)⟩
theorem xO (ha:PE X a ta) (hb:PE X (.BoolOp .And (b :: wH) pos) tb):PE X (.BoolOp .And (a :: b :: wH) pos) (zi3 ta tb):=by
 refine ⟨?_⟩
 intro pins s σ H Q I h
 refine BoolOp_and (thn (ha pins s σ H _ I h) fun v s1 ⟨x,H1,I1,r1,q1⟩=>?_)
 obtain ⟨c,rfl,q1⟩:=q1
 cases r1
 refine wpAny_truthy_bool ?_
 cases c with
 | true=>exact hb pins s1 σ H1 Q I1 q1
 | false=>exact ⟨.bl false,H1,I1,rfl,q1⟩
theorem zid (ha:PE X a ta):PE X (.UnaryOp .Not a pos) (ziW ta):=by
 refine ⟨?_⟩
 intro pins s σ H Q I h
 refine UnaryOp_ (thn (ha pins s σ H _ I h) fun v s1 ⟨x,H1,I1,r1,q1⟩=>?_)
 obtain ⟨c,rfl,q1⟩:=q1
 cases r1
 exact not_of (wpAny_truthy_bool ⟨.bl (!c),H1,I1,rfl,q1⟩)
def tIf (t:TT) (ta tb:TE):TE:=fun σ H Q=>t σ H fun c H1=>if c = true then ta σ H1 Q else tb σ H1 Q
theorem zbp {c:Expr} (hc:PT X c tA) (ha:PE X a ta) (hb:PE X b tb):PE X (.IfExp c a b pos) (tIf tA ta tb):=by
 refine ⟨?_⟩
 intro pins s σ H Q I h
 refine wpAny_IfExp (thn (hc pins s σ H _ I h) fun d s1 ⟨H1,I1,q1⟩=>?_)
 cases d with
 | true=>exact ha pins s1 σ H1 Q I1 q1
 | false=>exact hb pins s1 σ H1 Q I1 q1
end
def SqL (K:Frag) (H:Hp) (a:Addr) (xs:List V):Prop:=
 Rd H a (.lst xs)\/
  ∃ (o:Obj) (its:Array Value) (n:Nat),K.lookup a = some o/\o.cls = .type "list"/\o.dict = none/\o.data = .seq its n/\its.size<=sizeLine/\zP xs its.toList
def SqT (K:Frag) (H:Hp) (a:Addr) (xs:List V):Prop:=
 Rd H a (.tup xs)\/
  ∃ (o:Obj) (its:Array Value) (n:Nat),K.lookup a = some o/\o.cls = .type "tuple"/\o.data = .seq its n/\its.size<=sizeLine/\zP xs its.toList
def zkl:Value->Option V
 | .none=>some .non
 | .bool b=>some (.bl b)
 | .int i _=>some (.int i)
 | .str x _=>some (.str x)
 | .bytes b _=>some (.byt b)
 | .float b _=>some (.flt b)
 | .ref a=>some (.ref a)
 | .type n=>some (.ty n)
 | _=>none
theorem zN.abs {x:V} {u:Value} (r:zN x u):zkl u = some x:=by
 cases x with
 | non=>cases r; rfl
 | bl _=>cases r; rfl
 | int _=>obtain ⟨t,rfl⟩:=r; rfl
 | str _=>obtain ⟨t,rfl⟩:=r; rfl
 | byt _=>obtain ⟨t,rfl⟩:=r; rfl
 | flt _=>obtain ⟨t,rfl⟩:=r; rfl
 | ref _=>cases r; rfl
 | ty _=>cases r; rfl
theorem zN.inj {x y:V} {u:Value} (r:zN x u) (q:zN y u):x = y:=Option.some.inj (r.abs.symm.trans q.abs)
theorem zP.inj:∀ {xs ys:List V} {us:List Value},zP xs us->zP ys us->xs = ys
 | _,_,_,.nil,.nil=>rfl
 | _,_,_,.cons r t,.cons r' t'=>by rw [r.inj r',zP.inj t t']
section
variable {X:Cx} {pins:List (Addr × Obj)} {σ : St} {H:Hp} {s:Shared} {a:Addr} {xs ys:List V}
theorem SqL.of {K:Frag} (h:H a = some (.lst xs)):SqL K H a xs:=.inl (.inl h)
theorem SqT.of {K:Frag} (h:H a = some (.tup xs)):SqT K H a xs:=.inl (.inl h)
theorem Inv.list (I:Inv X pins σ H s) (h:SqL X.K H a xs):∃ its:List Value,zP xs its/\PlainL s.heap a its.toArray/\xs.length<=sizeLine:=by
 rcases h with h | ⟨o,its,n,hk,hc,hd,hs,hz,r⟩
 ·obtain ⟨z,its,n,r,e⟩:=h.ok I.hok
  exact ⟨its,r,⟨_,n,e,rfl,rfl,rfl⟩,z⟩
 ·refine ⟨its.toList,r,⟨o,n,I.kIn a o hk,hc,hd,by simpa using hs⟩,?_⟩
  have e:=r.length
  simp only [Array.length_toList] at e
  omega
theorem Inv.tuple (I:Inv X pins σ H s) (h:SqT X.K H a xs):∃ its:List Value,zP xs its/\IsTup s.heap a its.toArray/\xs.length<=sizeLine:=by
 rcases h with h | ⟨o,its,n,hk,hc,hs,hz,r⟩
 ·obtain ⟨z,its,r,p⟩:=h.ok I.hok
  exact ⟨its,r,p,z⟩
 ·refine ⟨its.toList,r,⟨o,I.kIn a o hk,hc,n,by simpa using hs⟩,?_⟩
  have e:=r.length
  simp only [Array.length_toList] at e
  omega
theorem Inv.list_inj (I:Inv X pins σ H s) (h:SqL X.K H a xs) (h':SqL X.K H a ys):xs = ys:=by
 obtain ⟨its,r,⟨o,n,e,_,_,d⟩,_⟩:=I.list h
 obtain ⟨its',r',⟨o',n',e',_,_,d'⟩,_⟩:=I.list h'
 rw [e] at e'; cases e'
 rw [d] at d'
 injection d' with d1 _
 have:its = its':=by simpa using congrArg Array.toList d1
 subst this
 exact r.inj r'
end
abbrev Cx.wish (X:Cx) (E:Value->Shared->Prop):Cx:={ X with xe:=E }
abbrev Cx.nox (X:Cx):Cx:=X.wish fun _ _=>False
theorem Cx.Ok.wish {X:Cx} (ok:X.Ok) (E:Value->Shared->Prop):(X.wish E).Ok:=
 ⟨ok.mod,ok.kind,ok.glob,ok.blt,ok.above,ok.inj,ok.has,ok.cab,ok.hd,ok.frames,ok.stk,ok.exf,ok.bs,ok.bsz,ok.noex,ok.exfs,ok.funs,ok.frf⟩
theorem Cx.Ok.unwish {X:Cx} {E:Value->Shared->Prop} (ok:(X.wish E).Ok):X.Ok:=
 ⟨ok.mod,ok.kind,ok.glob,ok.blt,ok.above,ok.inj,ok.has,ok.cab,ok.hd,ok.frames,ok.stk,ok.exf,ok.bs,ok.bsz,ok.noex,ok.exfs,ok.funs,ok.frf⟩
section
variable {X:Cx} {pins:List (Addr × Obj)} {σ : St} {H:Hp} {s:Shared} {E:Value->Shared->Prop}
theorem Inv.wish (I:Inv X pins σ H s) (E:Value->Shared->Prop):Inv (X.wish E) pins σ H s:=⟨I.ok.wish E,I.os,I.bare,I.base,I.loc,I.cell,I.free,I.freeC,I.pin,I.hok,I.len⟩
theorem Inv.unwish (I:Inv (X.wish E) pins σ H s):Inv X pins σ H s:=⟨I.ok.unwish,I.os,I.bare,I.base,I.loc,I.cell,I.free,I.freeC,I.pin,I.hok,I.len⟩
theorem SP.unwish {D:u7} {f:Flow} {s':Shared} (h:SP (X.wish E) pins D f s'):SP X pins D f s':=by
 cases f with
 | next=>obtain ⟨σ',H',I,q⟩:=h; exact ⟨σ',H',I.unwish,q⟩
 | brk=>obtain ⟨σ',H',I,q⟩:=h; exact ⟨σ',H',I.unwish,q⟩
 | cont=>obtain ⟨σ',H',I,q⟩:=h; exact ⟨σ',H',I.unwish,q⟩
 | ret u=>obtain ⟨v,σ',H',I,r,q⟩:=h; exact ⟨v,σ',H',I.unwish,r,q⟩
theorem PSs.nox {st:List Stmt} {t:TS} (h:PSs X.nox st t):PSs X st t:=⟨fun pins s σ H D I hw=>
 wpAny_mono (h pins s σ H D (I.wish _) hw) (fun _ _ q=>q.unwish) fun _ _ z=>False.elim z⟩
end
section
variable {X:Cx} {st:Stmt} {wH:List Stmt} {t u:TS} {e:Expr} {te:TE} {pos:Pos}
def zhq:TS:=fun D σ H=>D.nx σ H
def xS (t u:TS):TS:=fun D σ H=>t { D with nx:=u D } σ H
theorem zC:PSs X [] zhq:=⟨fun _ _ σ H _ I h=>wpAny_execs_nil ⟨σ,H,I,h⟩⟩
theorem zd (h1:PS X st t) (h2:PSs X wH u):PSs X (st :: wH) (xS t u):=by
 refine ⟨?_⟩
 intro pins s σ H D I h
 refine wpAny_execs_cons (thn (h1 pins s σ H { D with nx:=u D } I h) fun f s1 q=>?_)
 cases f with
 | next=>
  obtain ⟨σ',H',I',q⟩:=q
  exact h2 pins s1 σ' H' D I' q
 | ret v=>exact q
 | brk=>exact q
 | cont=>exact q
theorem zh (h1:PS X st t):PSs X [st] t:=by
 refine ⟨?_⟩
 intro pins s σ H D I h
 refine wpAny_execs_cons (thn (h1 pins s σ H D I h) fun f s1 q=>?_)
 cases f with
 | next=>exact wpAny_execs_nil q
 | ret v=>exact q
 | brk=>exact q
 | cont=>exact q
theorem Inv.quiet {pins:List (Addr × Obj)} {σ : St} {H:Hp} {s:Shared} (I:Inv X pins σ H s):interactive X.env = false:=by simp [interactive,I.ok.kind]
def zi0 (te:TE):TS:=fun D σ H=>te σ H fun _ H1=>D.nx σ H1
theorem zJ (he:PE X e te) (hs:swapsWith e none pos.line X.env = pure false:=by rfl):PS X (.Expr e pos) (zi0 te):=by
 refine ⟨?_⟩
 intro pins s σ H D I h
 exact wpAny_Expr_any (thn (he pins s σ H _ I h) fun v s1 ⟨x,H1,I1,r1,q1⟩=>⟨σ,H1,I1,q1⟩) I.quiet hs
def zjN (te:TE):TS:=fun D σ H=>te σ H D.rt
theorem zA (he:PE X e te):PS X (.Return (some e) pos) (zjN te):=by
 refine ⟨?_⟩
 intro pins s σ H D I h
 exact wpAny_Return_some (thn (he pins s σ H _ I h) fun v s1 ⟨x,H1,I1,r1,q1⟩=>⟨x,σ,H1,I1,r1,q1⟩)
def zjQ (c:TT) (t u:TS):TS:=fun D σ H=>c σ H fun b H1=>if b = true then t D σ H1 else u D σ H1
theorem zI {c:Expr} {a b:List Stmt} {tc:TT} (hc:PT X c tc) (ha:PSs X a t) (hb:PSs X b u):PS X (.If c a b pos) (zjQ tc t u):=by
 refine ⟨?_⟩
 intro pins s σ H D I h
 refine wpAny_If (thn (hc pins s σ H _ I h) fun d s1 ⟨H1,I1,q1⟩=>?_)
 cases d with
 | true=>exact ha pins s1 σ H1 D I1 q1
 | false=>exact hb pins s1 σ H1 D I1 q1
end
abbrev TG:=V->St->Hp->(St->Hp->Prop)->Prop
abbrev TGs:=List V->St->Hp->(St->Hp->Prop)->Prop
structure PG (X:Cx) (target:Expr) (t:TG):Prop where
 run:∀ (pins:List (Addr × Obj)) (s:Shared) (σ : St) (H:Hp) (v:V) (u:Value) (Q:St->Hp->Prop),Inv X pins σ H s->zN v u->t v σ H Q->
  wpAny (model X.prog X.w) X.A (assign target X.env u) (fun _ s'=>∃ σ' H',Inv X pins σ' H' s'/\Q σ' H') X.xe s
instance {X:Cx} {target:Expr} {t:TG}:CoeFun (PG X target t) (fun _=>∀ (pins:List (Addr × Obj)) (s:Shared) (σ : St) (H:Hp) (v:V) (u:Value) (Q:St->Hp->Prop),Inv X pins σ H s->zN v u->t v σ H Q->
  wpAny (model X.prog X.w) X.A (assign target X.env u) (fun _ s'=>∃ σ' H',Inv X pins σ' H' s'/\Q σ' H') X.xe s):=⟨PG.run⟩
structure PGs (X:Cx) (ts:List Expr) (t:TGs):Prop where
 run:∀ (pins:List (Addr × Obj)) (s:Shared) (σ : St) (H:Hp) (vs:List V) (us:List Value) (Q:St->Hp->Prop),Inv X pins σ H s->zP vs us->t vs σ H Q->
  wpAny (model X.prog X.w) X.A (assignInOrder ((assignEach ts X.env).map (·.2)) us) (fun _ s'=>∃ σ' H',Inv X pins σ' H' s'/\Q σ' H') X.xe s
instance {X:Cx} {ts:List Expr} {t:TGs}:CoeFun (PGs X ts t) (fun _=>∀ (pins:List (Addr × Obj)) (s:Shared) (σ : St) (H:Hp) (vs:List V) (us:List Value) (Q:St->Hp->Prop),Inv X pins σ H s->zP vs us->t vs σ H Q->
  wpAny (model X.prog X.w) X.A (assignInOrder ((assignEach ts X.env).map (·.2)) us) (fun _ s'=>∃ σ' H',Inv X pins σ' H' s'/\Q σ' H') X.xe s):=⟨PGs.run⟩
section
variable {X:Cx} {pos:Pos}
def yZ (i:Nat):TG:=fun v σ H Q=>Q (σ.set i (some v)) H
theorem zn {i:Nat} {x:Str} (hN:X.N.Nodup) (hi:X.N[i]? = some x) (hx:Loc X.env.scope x) (hf:X.fn x = true\/X.env.scope.names.lookup x = some .local:=by first | exact .inl rfl | exact .inr rfl | assumption):PG X (.Name x pos) (yZ i):=by
 refine ⟨?_⟩
 intro pins s σ H v u Q I r h
 exact wpAny_assign_Name (zbd I hN hi hx r (fun s' I'=>⟨_,H,I',h⟩) hf)
def zjF:TGs:=fun vs σ H Q=>vs = []/\Q σ H
def zfZ (t:TG) (u:TGs):TGs:=fun vs σ H Q=>∃ v r,vs = v :: r/\t v σ H fun σ' H'=>u r σ' H' Q
theorem z7:PGs X [] zjF:=by
 refine ⟨?_⟩
 intro pins s σ H vs us Q I r h
 obtain ⟨e,h⟩:=h
 subst e
 cases r
 exact assignInOrder_nil ⟨σ,H,I,h⟩
theorem zv {e:Expr} {es:List Expr} {t:TG} {u:TGs} (h1:PG X e t) (h2:PGs X es u)
  (hs:(assignEach (e :: es) X.env).map (·.2) = assign e X.env :: (assignEach es X.env).map (·.2):=by rfl):PGs X (e :: es) (zfZ t u):=by
 refine ⟨?_⟩
 intro pins s σ H vs us Q I r h
 obtain ⟨v,vr,e1,h⟩:=h
 subst e1
 cases r with
 | cons r rr=>
  rw [hs]
  refine assignInOrder_cons (thn (h1 pins s σ H _ _ _ I r h) fun _ s1 ⟨σ1,H1,I1,q1⟩=>?_)
  exact h2 pins s1 σ1 H1 _ _ Q I1 rr q1
def zjE (K:Frag) (n:Nat) (t:TGs):TG:=fun v σ H Q=>∃ a xs,v = .ref a/\SqT K H a xs/\xs.length = n/\t xs σ H Q
theorem yp {es:List Expr} {k:Nat} {t:TGs} {n:Nat} (hc:X.calm = true) (h:PGs X es t)
  (hn:(assignEach es X.env).length = n:=by rfl) (hst:(assignEach es X.env).findIdx? (·.1) = none:=by rfl):PG X (.Tuple es k pos) (zjE X.K n t):=by
 refine ⟨?_⟩
 intro pins s σ H v u Q I r hw
 obtain ⟨a,xs,e1,hq,hl,hw⟩:=hw
 subst e1
 cases r
 obtain ⟨its,rv,ht,hz⟩:=I.tuple hq
 refine assign_Tuple_tuple (I.ok.hd hc) ht (by simp [hn,<- hl,rv.length]) hst fun h' hx=>?_
 have I1:Inv X pins σ H { s with heap:=h' }:=I.kept (t':=s.toks) fun b o e=>hx b o (Nat.ne_of_lt (Heap.lt_size e)) e
 exact h pins _ σ H xs _ Q I1 (by simpa using rv) hw
def zhR (te:TE) (g:TG):TS:=fun D σ H=>te σ H fun x H1=>g x σ H1 D.nx
theorem uQ {tg e:Expr} {te:TE} {g:TG} (he:PE X e te) (hg:PG X tg g) (hs:swapsWithSole [tg] e pos.line X.env = pure false:=by rfl) (hw:swappedStores [tg] e X.env = pure none:=by rfl)
  (h1:(assignEach [tg] X.env).map (·.2) = [assign tg X.env]:=by rfl):PS X (.Assign [tg] e pos) (zhR te g):=by
 refine ⟨?_⟩
 intro pins s σ H D I h
 refine wpAny_Assign_stores (thn (he pins s σ H _ I h) fun v s1 ⟨x,H1,I1,r1,q1⟩=>?_) hs hw
 rw [h1]
 exact thn (hg pins s1 σ H1 x v _ I1 r1 q1) fun _ s2 q=>q
theorem zw {i:Nat} {x:Str} {e:Expr} {te:TE} {pos':Pos} (hN:X.N.Nodup) (hi:X.N[i]? = some x) (hx:Loc X.env.scope x) (he:PE X e te) (hs:swapsWith e (some (.Name x pos')) pos.line X.env = pure false:=by rfl) (hf:X.fn x = true\/X.env.scope.names.lookup x = some .local:=by first | exact .inl rfl | exact .inr rfl | assumption) :
  PS X (.Assign [.Name x pos'] e pos) (zhR te (yZ i)):=by
 refine ⟨?_⟩
 intro pins s σ H D I h
 refine wpAny_Assign_Name (thn (he pins s σ H _ I h) fun v s1 ⟨y,H1,I1,r1,q1⟩=>?_) hs
 exact zbd I1 hN hi hx r1 (fun s2 I2=>⟨_,H1,I2,q1⟩) hf
def zhJ (c:TT) (tb:TS):TS:=fun D σ H=>∃ W:Nat->St->Hp->Prop,(∃ m,W m σ H)/\∀ m σ H,W m σ H->
 c σ H fun b H1=>if b = true then ∃ N:St->Hp->Prop,(∀ σ' H',N σ' H'->∃ m',m' < m/\W m' σ' H')/\tb { D with nx:=N,ct:=N,bk:=D.nx } σ H1 else D.nx σ H1
theorem ze8 {c:Expr} {body:List Stmt} {tc:TT} {tb:TS} (hp:PassesOwn (model X.prog X.w) X.A X.env X.xe) (hc:PT X c tc) (hb:PSs X body tb):PS X (.While c body [] pos) (zhJ tc tb):=by
 refine ⟨?_⟩
 intro pins s σ H D I h
 obtain ⟨W,⟨m0,w0⟩,turn⟩:=h
 refine wpAny_While (codeAny_whileLoop (fun n s'=>∃ σ' H',Inv X pins σ' H' s'/\W n σ' H') ?_ m0 ⟨σ,H,I,w0⟩)
 rintro n s1 ⟨σ1,H1,I1,w1⟩
 refine wpAny_passesOwn hp (thn (hc pins s1 σ1 H1 _ I1 (turn n σ1 H1 w1)) fun b s2 ⟨H2,I2,q2⟩=>?_)
 cases b with
 | true=>
  obtain ⟨N,hN,q2⟩:=q2
  rw [if_pos rfl]
  refine wpAny_passesOwn hp (thn (hb pins s2 σ1 H2 _ I2 q2) fun f s3 q3=>?_)
  cases f with
  | next=>
   obtain ⟨σ3,H3,I3,n3⟩:=q3
   obtain ⟨m',hm,w3⟩:=hN σ3 H3 n3
   exact ⟨m',hm,σ3,H3,I3,w3⟩
  | cont=>
   obtain ⟨σ3,H3,I3,n3⟩:=q3
   obtain ⟨m',hm,w3⟩:=hN σ3 H3 n3
   exact ⟨m',hm,σ3,H3,I3,w3⟩
  | brk=>exact q3
  | ret v=>exact q3
 | false=>
  rw [if_neg Bool.false_ne_true]
  exact wpAny_execs_nil ⟨σ1,H2,I2,q2⟩
end
structure It where
 go:Nat->Hp->Prop
 yld:Nat->Hp->V->Hp->Prop
 stop:Nat->Hp->Prop
def wT (X:Cx) (pins:List (Addr × Obj)) (H:Hp) (b:Addr):Prop:=
 H b = none/\b ≠ X.env.locals/\b ∉ X.fs/\(b ∈ X.ex\/X.s₀.heap.objs.size<=b)/\(∀ x c,X.env.cells.lookup x = some c->c ≠ b)/\∀ p ∈ X.pn ++ pins,p.1 ≠ b
theorem Inv.fpOk {X:Cx} {pins:List (Addr × Obj)} {σ : St} {H H':Hp} {s:Shared} {b:Addr} (I:Inv X pins σ H s) (hb:s.heap.objs.size<=b) (hn:H' b = none):wT X pins H' b:=by
 refine ⟨hn,Nat.ne_of_gt (Nat.lt_of_lt_of_le I.lt hb),I.nofs hb,.inr (Nat.le_trans I.sz hb),fun x c e z=>?_,fun p hp z=>?_⟩
 ·obtain ⟨v,q⟩:=I.cell x c e
  exact absurd (Nat.lt_of_lt_of_le q.lt (by rw [z]; exact hb)) (Nat.lt_irrefl _)
 ·exact absurd (Nat.lt_of_lt_of_le (Heap.lt_size (I.pin p hp).1) (by rw [z]; exact hb)) (Nat.lt_irrefl _)
structure za6 (P:Program) (w:World) (K:Frag) (tg:Expr) (J:It) (fp:List Addr) (it:Addr) (tn:Nat->Heap->Prop):Prop where
 mem:it ∈ fp
 obj:∀ i h,tn i h->∀ b ∈ fp,∃ o,h.get? b = some o/\∀ v,o.data ≠ .cell v
 keep:∀ i h h',tn i h->(∀ b ∈ fp,∀ o,h.get? b = some o->h'.get? b = some o)->tn i h'
 item:∀ (X:Cx),X.prog = P->X.w = w->X.K = K->X.calm = true->∀ (i:Nat) (pins:List (Addr × Obj)) (s:Shared) (σ : St) (H:Hp) (E:Value->Shared->Prop),Inv X pins σ H s->(∀ b ∈ fp,wT X pins H b)->tn i s.heap->J.go i H->
  wpAny (model P w) X.A (pyNext (.ref it)) (fun r s1=>∃ u,r = some u/\
   wpAny (model P w) X.A (letOwnedTupleGo tg (.ref it) u) (fun _ s2=>∃ x H',Inv X pins σ H' s2/\zN x u/\J.yld i H x H'/\tn (i + 1) s2.heap/\∀ b ∈ fp,H' b = none) E s1) E s
 done:∀ (X:Cx),X.prog = P->X.w = w->X.K = K->X.calm = true->∀ (i:Nat) (pins:List (Addr × Obj)) (s:Shared) (σ : St) (H:Hp) (E:Value->Shared->Prop),Inv X pins σ H s->(∀ b ∈ fp,wT X pins H b)->tn i s.heap->J.stop i H->
  wpAny (model P w) X.A (pyNext (.ref it)) (fun r s1=>r = none/\Inv X pins σ H s1) E s
 self:∀ (A:Around) (i:Nat) (s:Shared) (Q:Value->Shared->Prop) (E:Value->Shared->Prop),tn i s.heap->Q (.ref it) s->wpAny (model P w) A (pyIter (.ref it)) Q E s
abbrev TI:=St->Hp->(It->Hp->Prop)->Prop
def PIE (X:Cx) (pins:List (Addr × Obj)) (σ : St) (tg:Expr) (R:It->Hp->Prop) (itv:Value) (s2:Shared):Prop:=
 ∃ (it:Addr) (fp:List Addr) (tn:Nat->Heap->Prop) (J:It) (H':Hp),itv = .ref it/\Inv X pins σ H' s2/\za6 X.prog X.w X.K tg J fp it tn/\tn 0 s2.heap/\(∀ b ∈ fp,wT X pins H' b)/\R J H'
structure PI (X:Cx) (tg iter:Expr) (wi:TI):Prop where
 run:∀ (pins:List (Addr × Obj)) (s:Shared) (σ : St) (H:Hp) (R:It->Hp->Prop),Inv X pins σ H s->wi σ H R->
  wpAny (model X.prog X.w) X.A (eval iter X.env) (fun v s1=>wpAny (model X.prog X.w) X.A (pyIter v) (PIE X pins σ tg R) X.xe s1) X.xe s
instance {X:Cx} {tg iter:Expr} {wi:TI}:CoeFun (PI X tg iter wi) (fun _=>∀ (pins:List (Addr × Obj)) (s:Shared) (σ : St) (H:Hp) (R:It->Hp->Prop),Inv X pins σ H s->wi σ H R->
  wpAny (model X.prog X.w) X.A (eval iter X.env) (fun v s1=>wpAny (model X.prog X.w) X.A (pyIter v) (PIE X pins σ tg R) X.xe s1) X.xe s):=⟨PI.run⟩
theorem zdx {M:Model} {A:Around} {E:Value->Shared->Prop} {s:Shared} {tg:Expr} {it:Addr} {u:Value} {o:Obj} {n:String} {vs:Array Value} {Q:Unit->Shared->Prop} (ho:s.heap.get? it = some o) (hc:o.cls = .type n) (hd:o.data = .fields vs)
  (hn:["enumerate","zip","dict_itemiterator","dict_reverseitemiterator","odict_iterator","itertools.zip_longest","itertools.pairwise"].contains n = false) (hQ:Q () s):wpAny M A (letOwnedTupleGo tg (.ref it) u) Q E s:=by
 unfold letOwnedTupleGo
 cases tg <;> first
  | exact wpAny_pure hQ
  | (cases u <;> first
    | exact wpAny_pure hQ
    | (refine wpAny_bind (wpAny_load ho ?_)
       rw [hc,hd]
       show wpAny M A (if (["enumerate","zip","dict_itemiterator","dict_reverseitemiterator","odict_iterator","itertools.zip_longest","itertools.pairwise"].contains n && vs[0]? == some (rawInt _)) = true then _ else _) Q E s
       rw [if_neg (by intro h; rw [hn,Bool.false_and] at h; cases h)]
       exact wpAny_pure hQ))
def Itl (K:Frag) (a:Addr):It:=
 ⟨fun i H=>∃ xs x,SqL K H a xs/\xs[i]? = some x,fun i H x H'=>H' = H/\∀ xs,SqL K H a xs->xs[i]? = some x,fun i H=>∃ xs,SqL K H a xs/\xs.length<=i⟩
def Itr (lo:Int) (n:Nat):It:=⟨fun i _=>i < n,fun i H x H'=>H' = H/\x = .int (lo + i),fun i _=>n<=i⟩
theorem zdL {P:Program} {w:World} {K:Frag} {tg:Expr} (a it:Addr):za6 P w K tg (Itl K a) [it] it (fun i h=>h.IsListIter it a i) where
 mem:=by simp
 obj:=fun i h st b hb=>by
  have e:b = it:=by simpa using hb
  subst e
  obtain ⟨o,e,c,d⟩:=st
  exact ⟨o,e,fun v z=>by rw [d] at z; cases z⟩
 keep:=fun i h h' st k=>st.at fun o e=>k it (by simp) o e
 item:=by
  intro X hP hw hK hc i pins s σ H E I hf st hg
  subst hP hw hK
  obtain ⟨xs,x,hq,hx⟩:=hg
  obtain ⟨its,rv,p,hz⟩:=I.list hq
  obtain ⟨u,hu,ru⟩:=rv.get hx
  obtain ⟨f0,f1,f2,f3,f4,f5⟩:=hf it (by simp)
  refine wpAny_pyNext_list_item st p.isList (x:=u) (by simpa using hu) fun h' st' sb=>?_
  have I1:Inv X pins σ H { s with heap:=h' }:=I.turned (t':=s.toks) (fun b o hb e=>(sb.2 b hb).trans e) f0 f1 f3 f4 f5
  obtain ⟨o,e,c,d⟩:=id st'
  exact ⟨u,rfl,zdx (s:={ s with heap:=h' }) e c d (by decide) ⟨x,H,I1,ru,⟨rfl,fun ys hy=>by rw [I.list_inj hy hq]; exact hx⟩,st',fun b hb=>(hf b hb).1⟩⟩
 done:=by
  intro X hP hw hK hc i pins s σ H E I hf st hg
  subst hP hw hK
  obtain ⟨xs,hq,hx⟩:=hg
  obtain ⟨its,rv,p,hz⟩:=I.list hq
  obtain ⟨f0,f1,f2,f3,f4,f5⟩:=hf it (by simp)
  have hl:=rv.length
  exact wpAny_pyNext_list_end (I.ok.hd hc) st p.isList (by simp; omega) fun h' eb=>⟨rfl,I.turned (t':=s.toks) (fun b o hb e=>eb b o hb e) f0 f1 f3 f4 f5⟩
 self:=fun _ _ _ _ _ st h=>wpAny_pyIter_listiter st h
theorem zb7 {P:Program} {w:World} {K:Frag} {tg:Expr} (it:Addr) (lo:Int) (n:Nat):za6 P w K tg (Itr lo n) [it] it (fun i h=>IsRangeIter h it (lo + (i:Nat) * 1) ((n:Int) - (i:Nat)) 1) where
 mem:=by simp
 obj:=fun i h st b hb=>by
  have e:b = it:=by simpa using hb
  subst e
  exact ⟨_,st,fun v z=>by
   have z':Data.fields _ = Data.cell v:=z
   cases z'⟩
 keep:=fun i h h' st k=>k it (by simp) _ st
 item:=by
  intro X hP hw hK hc i pins s σ H E I hf st hg
  subst hP hw hK
  obtain ⟨f0,f1,f2,f3,f4,f5⟩:=hf it (by simp)
  have W:=Walks.range (prog:=X.prog) (w:=X.w) (I.ok.hd hc) it lo 1 n
  refine W.item i s _ _ hg st fun v h' tk hv st' kk=>?_
  obtain ⟨t,rfl⟩:=hv
  have I1:Inv X pins σ H { s with heap:=h',toks:=tk }:=I.turned (fun b o hb e=>kk b o (by simpa using hb) e) f0 f1 f3 f4 f5
  refine ⟨_,rfl,zdx (s:={ s with heap:=h',toks:=tk }) (n:="range_iterator") st' rfl rfl (by decide) ⟨.int (lo + i),H,I1,⟨t,?_⟩,⟨rfl,rfl⟩,st',fun b hb=>(hf b hb).1⟩⟩
  rw [Int.mul_one]
 done:=by
  intro X hP hw hK hc i pins s σ H E I hf st hg
  subst hP hw hK
  obtain ⟨f0,f1,f2,f3,f4,f5⟩:=hf it (by simp)
  exact wpAny_pyNext_range_end (I.ok.hd hc) st (by have:n<=i:=hg; omega) fun h' eb=>⟨rfl,I.turned (t':=s.toks) (fun b o hb e=>eb b o hb e) f0 f1 f3 f4 f5⟩
 self:=fun _ _ _ _ _ st h=>wpAny_pyIter_rangeiter st h
section
variable {X:Cx} {tg:Expr}
def zjC (K:Frag) (tl:TE):TI:=fun σ H R=>tl σ H fun x H1=>∃ a,x = .ref a/\(∃ xs,SqL K H1 a xs)/\R (Itl K a) H1
theorem z6 {l:Expr} {tl:TE} (hl:PE X l tl):PI X tg l (zjC X.K tl):=by
 refine ⟨?_⟩
 intro pins s σ H R I h
 refine thn (hl pins s σ H _ I h) fun v s1 ⟨x,H1,I1,r1,q1⟩=>?_
 obtain ⟨a,e,⟨xs,hq⟩,q⟩:=q1
 subst e
 cases r1
 obtain ⟨its,rv,p,hz⟩:=I1.list hq
 refine wpAny_pyIter_list p.isList ?_
 refine ⟨s1.heap.objs.size,[s1.heap.objs.size],_,_,H1,rfl,I1.kept (t':=s1.toks) fun b o e=>Heap.get?_push_of_some _ e,zdL a _,⟨_,Heap.get?_push_size _ rfl,rfl,rfl⟩,fun b hb=>?_,q⟩
 have e:b = s1.heap.objs.size:=by simpa using hb
 subst e
 exact I1.fpOk (Nat.le_refl _) (I1.hok.fresh (Nat.le_refl _))
theorem zbk {pins:List (Addr × Obj)} {σ : St} {H:Hp} {s:Shared} {R:It->Hp->Prop} {E:Value->Shared->Prop} {lo hi:Int} {t u v:Tok} {tk:Nat} (I:Inv X pins σ H s) (h1 : -(2 ^ 62)<=lo) (h2:lo < 2 ^ 62) (h3 : -(2 ^ 62)<=hi) (h4:hi < 2 ^ 62)
  (q:R (Itr lo (hi - lo).toNat) H):wpAny (model X.prog X.w) X.A (pyIter (.ref s.heap.objs.size)) (PIE X pins σ tg R) E { s with heap:=s.heap.push { cls:=.type "range",data:=.fields #[.int lo t,.int hi u,.int 1 v] },toks:=tk }:=by
 refine wpAny_pyIter_range (IsRange.new ..) (small_one h1 h2 h3 h4) ?_
 have I1:Inv X pins σ H { s with heap:=s.heap.push { cls:=.type "range",data:=.fields #[.int lo t,.int hi u,.int 1 v] },toks:=tk }:=I.kept fun b o e=>Heap.get?_push_of_some _ e
 refine ⟨(s.heap.push { cls:=.type "range",data:=.fields #[.int lo t,.int hi u,.int 1 v] }).objs.size,[(s.heap.push { cls:=.type "range",data:=.fields #[.int lo t,.int hi u,.int 1 v] }).objs.size],_,_,H,rfl,
  I1.kept (t':=tk) fun b o e=>Heap.get?_push_of_some _ e,zb7 _ lo (hi - lo).toNat,?_,fun b hb=>?_,q⟩
 ·have e1:lo + ((0:Nat):Int) * 1 = lo:=by simp
  have e2:(((hi - lo).toNat:Nat):Int) - ((0:Nat):Int) = Builtin.Range.rangeSize lo hi 1:=by rw [rangeSize_one]; split <;> omega
  show IsRangeIter _ _ (lo + ((0:Nat):Int) * 1) ((((hi - lo).toNat:Nat):Int) - ((0:Nat):Int)) 1
  rw [e1,e2]
  exact Heap.get?_push_size _ rfl
 ·have e:b = (s.heap.push { cls:=.type "range",data:=.fields #[.int lo t,.int hi u,.int 1 v] }).objs.size:=by simpa using hb
  subst e
  exact I1.fpOk (Nat.le_refl _) (I1.hok.fresh (Nat.le_refl _))
def zjB (ta:TA):TI:=fun σ H R=>ta σ H fun vs H1=>∃ j:Int,vs = [.int j]/\-(2 ^ 62)<=j/\j < 2 ^ 62/\R (Itr 0 j.toNat) H1
def zjA (ta:TA):TI:=fun σ H R=>ta σ H fun vs H1=>∃ i j:Int,vs = [.int i,.int j]/\(-(2 ^ 62)<=i/\i < 2 ^ 62/\-(2 ^ 62)<=j/\j < 2 ^ 62)/\R (Itr i (j - i).toNat) H1
theorem vd {a:Expr} {ta:TA} {p pos:Pos} (hg:Gl X "range") (hm:X.mg "range" = none) (ha:PA X [a] ta) (hs:starEach [a] X.env = [(false,eval a X.env)]:=by rfl):PI X tg (.Call (.Name "range" p) [a] [] pos) (zjB ta):=by
 refine ⟨?_⟩
 intro pins s σ H R I h
 refine Call_ (wR I hg hm boot_range (PyProof.Rows.callWith_type1 (thn (ha pos pins s σ H _ I h) fun us s1 ⟨vs,H1,I1,r1,q1⟩=>?_) hs rfl))
 obtain ⟨j,e,q1,q2,q⟩:=q1
 subst e
 cases r1 with
 | cons r rr=>
  cases rr
  obtain ⟨t,rfl⟩:=r
  exact call_range_1 (zbk I1 (by omega) (by omega) q1 q2 (by simpa using q))
theorem zd4 {a b:Expr} {ta:TA} {p pos:Pos} (hg:Gl X "range") (hm:X.mg "range" = none) (ha:PA X [a,b] ta) (hs:starEach [a,b] X.env = [(false,eval a X.env),(false,eval b X.env)]:=by rfl) (hs2:starEach [b] X.env = [(false,eval b X.env)]:=by rfl) :
  PI X tg (.Call (.Name "range" p) [a,b] [] pos) (zjA ta):=by
 refine ⟨?_⟩
 intro pins s σ H R I h
 refine Call_ (wR I hg hm boot_range (PyProof.Rows.callWith_type1 (thn (ha pos pins s σ H _ I h) fun us s1 ⟨vs,H1,I1,r1,q1⟩=>?_) (by rw [hs,hs2]) (by rw [hs2]; rfl)))
 obtain ⟨i,j,e,⟨q1,q2,q3,q4⟩,q⟩:=q1
 subst e
 cases r1 with
 | cons r rr=>
  cases rr with
  | cons r' rr=>
   cases rr
   obtain ⟨t,rfl⟩:=r
   obtain ⟨t',rfl⟩:=r'
   exact call_range_2 (zbk I1 q1 q2 q3 q4 q)
def zjS (wi:TI) (g:TG) (tb:TS):TS:=fun D σ H=>wi σ H fun J H1=>∃ W:Nat->Nat->St->Hp->Prop,(∃ m,W 0 m σ H1)/\∀ i m σ H,W i m σ H->
 (J.stop i H/\D.nx σ H)\/(J.go i H/\∃ N:St->Hp->Prop,(∀ σ' H',N σ' H'->∃ m',m' < m/\W (i + 1) m' σ' H')/\∀ x H',J.yld i H x H'->g x σ H' fun σ2 H2=>tb { D with nx:=N,ct:=N,bk:=D.nx } σ2 H2)
def uR (fp:List Addr) (h:Heap):List (Addr × Obj):=fp.filterMap fun b=>(h.get? b).map fun o=>(b,o)
theorem xw {fp:List Addr} {h:Heap} {b:Addr} {o:Obj} (hb:b ∈ fp) (e:h.get? b = some o):(b,o) ∈ uR fp h:=List.mem_filterMap.mpr ⟨b,hb,by rw [e]; rfl⟩
theorem zef {fp:List Addr} {h:Heap} {p:Addr × Obj} (hp:p ∈ uR fp h):p.1 ∈ fp/\h.get? p.1 = some p.2:=by
 obtain ⟨b,hb,e⟩:=List.mem_filterMap.mp hp
 cases q:h.get? b with
 | none=>rw [q] at e; cases e
 | some o=>
  rw [q] at e
  have e':(b,o) = p:=Option.some.inj e
  subst e'
  exact ⟨hb,q⟩
theorem Inv.pinned {pins:List (Addr × Obj)} {σ : St} {H:Hp} {s:Shared} {fp:List Addr} (I:Inv X pins σ H s) (hf:∀ b ∈ fp,wT X pins H b) (ho:∀ b ∈ fp,∃ o,s.heap.get? b = some o/\∀ v,o.data ≠ .cell v):Inv X (pins ++ uR fp s.heap) σ H s:=
 I.pins_of fun p hp=>(List.mem_append.mp hp).elim (fun z=>I.pin p (List.mem_append_right _ z)) fun z=>by
  obtain ⟨hb,e⟩:=zef z
  obtain ⟨f0,f1,f2,_⟩:=hf p.1 hb
  obtain ⟨o,e',d⟩:=ho p.1 hb
  rw [e] at e'; cases e'
  exact ⟨e,f0,f1,f2,d⟩
theorem Inv.unpinned {pins pl:List (Addr × Obj)} {σ : St} {H:Hp} {s:Shared} (I:Inv X (pins ++ pl) σ H s):Inv X pins σ H s:=I.pins_of fun p hp=>I.pin p (List.mem_append_right _ (List.mem_append_left _ hp))
theorem y9 {iter:Expr} {body:List Stmt} {wi:TI} {g:TG} {tb:TS} {pos:Pos} (hp:PassesOwn (model X.prog X.w) X.A X.env X.xe) (hc:X.calm = true) (hi:PI X tg iter wi) (hg:PG X tg g) (hb:PSs X body tb)
  (hs:∀ x,foldedSetIterable iter X.env x = pure x:=by intro _; rfl):PS X (.For tg iter body [] pos) (zjS wi g tb):=by
 refine ⟨?_⟩
 intro pins s σ H D I h
 refine wpAny_For (thn (hi pins s σ H _ I h) fun v s1 h1=>thn h1 fun itv s2 h2=>?_) hs
 obtain ⟨it,fp,tn,J,H2,e,I2,T,st2,f2,W,⟨m0,w0⟩,turn⟩:=h2
 subst e
 have stat:∀ {H':Hp},(∀ b ∈ fp,H' b = none)->∀ b ∈ fp,wT X pins H' b:=fun hn b hb=>⟨hn b hb,(f2 b hb).2⟩
 refine codeAny_forLoop_any (fun n s'=>∃ i σ' H',Inv X pins σ' H' s'/\tn i s'.heap/\(∀ b ∈ fp,H' b = none)/\W i n σ' H') ?_ m0 ⟨0,σ,H2,I2,st2,fun b hb=>(f2 b hb).1,w0⟩
 rintro n s3 ⟨i,σ3,H3,I3,st3,fr3,w3⟩
 rcases turn i n σ3 H3 w3 with ⟨stop,qn⟩ | ⟨go,N,hN,step⟩
 ·refine wpAny_passesOwn hp (thn (T.done X rfl rfl rfl hc i pins s3 σ3 H3 X.xe I3 (stat fr3) st3 stop) fun r s4 ⟨hr,I4⟩=>?_)
  subst hr
  exact wpAny_execs_nil ⟨σ3,H3,I4,qn⟩
 ·refine wpAny_passesOwn hp (thn (T.item X rfl rfl rfl hc i pins s3 σ3 H3 X.xe I3 (stat fr3) st3 go) fun r s4 ⟨u,hr,h4⟩=>?_)
  subst hr
  refine wpAny_passesOwn hp (thn h4 fun _ s5 ⟨x,H5,I5,r5,y5,st5,fr5⟩=>?_)
  have I5':=I5.pinned (stat fr5) (T.obj _ _ st5)
  refine wpAny_passesOwn hp (thn (hg _ s5 σ3 H5 x u _ I5' r5 (step x H5 y5)) fun _ s6 ⟨σ6,H6,I6,q6⟩=>?_)
  refine wpAny_passesOwn hp (thn (hb _ s6 σ6 H6 _ I6 q6) fun f s7 q7=>?_)
  have again:∀ {σ7:St} {H7:Hp},Inv X (pins ++ uR fp s5.heap) σ7 H7 s7->N σ7 H7->∃ m,m < n/\∃ i σ' H',Inv X pins σ' H' s7/\tn i s7.heap/\(∀ b ∈ fp,H' b = none)/\W i m σ' H':=fun {σ7 H7} I7 n7=>by
   obtain ⟨m',hm,w7⟩:=hN σ7 H7 n7
   refine ⟨m',hm,i + 1,σ7,H7,I7.unpinned,T.keep _ _ _ st5 fun b hb o e=>(I7.pin (b,o) (List.mem_append_right _ (List.mem_append_right _ (xw hb e)))).1,fun b hb=>?_,w7⟩
   obtain ⟨o,e,d⟩:=T.obj _ _ st5 b hb
   exact (I7.pin (b,o) (List.mem_append_right _ (List.mem_append_right _ (xw hb e)))).2.1
  cases f with
  | next=>obtain ⟨σ7,H7,I7,n7⟩:=q7; exact again I7 n7
  | cont=>obtain ⟨σ7,H7,I7,n7⟩:=q7; exact again I7 n7
  | brk=>obtain ⟨σ7,H7,I7,q7⟩:=q7; exact ⟨σ7,H7,I7.unpinned,q7⟩
  | ret v=>obtain ⟨x7,σ7,H7,I7,r7,q7⟩:=q7; exact ⟨x7,σ7,H7,I7.unpinned,r7,q7⟩
end
theorem wj {K:Frag} {a:Addr} {xs:List V} {g:TG} {tb:TS} {D:u7} {σ : St} {H:Hp} (Pv:Nat->St->Hp->Prop) (h0:Pv 0 σ H) (hl:∀ i σ H,i<=xs.length->Pv i σ H->SqL K H a xs)
  (hs:∀ i x σ H,xs[i]? = some x->Pv i σ H->g x σ H fun σ2 H2=>tb { D with nx:=Pv (i + 1),ct:=Pv (i + 1),bk:=D.nx } σ2 H2) (hd:∀ σ H,Pv xs.length σ H->D.nx σ H) :
  ∃ W:Nat->Nat->St->Hp->Prop,(∃ m,W 0 m σ H)/\∀ i m σ H,W i m σ H->
   ((Itl K a).stop i H/\D.nx σ H)\/((Itl K a).go i H/\∃ N:St->Hp->Prop,(∀ σ' H',N σ' H'->∃ m',m' < m/\W (i + 1) m' σ' H')/\∀ x H',(Itl K a).yld i H x H'->g x σ H' fun σ2 H2=>tb { D with nx:=N,ct:=N,bk:=D.nx } σ2 H2):=by
 refine ⟨fun i m σ H=>m = xs.length - i/\i<=xs.length/\Pv i σ H,⟨xs.length,by simp,Nat.zero_le _,h0⟩,?_⟩
 rintro i m σ H ⟨rfl,hi,p⟩
 have q:=hl i σ H hi p
 by_cases hlt:i < xs.length
 ·refine .inr ⟨⟨xs,xs[i],q,by simp [hlt]⟩,Pv (i + 1),fun σ' H' p'=>⟨xs.length - (i + 1),by omega,rfl,hlt,p'⟩,fun x H' y=>?_⟩
  obtain ⟨e,y⟩:=y
  subst e
  exact hs i x σ _ (y xs q) p
 ·have e:i = xs.length:=by omega
  subst e
  exact .inl ⟨⟨xs,q,Nat.le_refl _⟩,hd σ H p⟩
theorem zad {lo:Int} {n:Nat} {g:TG} {tb:TS} {D:u7} {σ : St} {H:Hp} (Pv:Nat->St->Hp->Prop) (h0:Pv 0 σ H)
  (hs:∀ i σ H,i < n->Pv i σ H->g (.int (lo + i)) σ H fun σ2 H2=>tb { D with nx:=Pv (i + 1),ct:=Pv (i + 1),bk:=D.nx } σ2 H2) (hd:∀ σ H,Pv n σ H->D.nx σ H) :
  ∃ W:Nat->Nat->St->Hp->Prop,(∃ m,W 0 m σ H)/\∀ i m σ H,W i m σ H->
   ((Itr lo n).stop i H/\D.nx σ H)\/((Itr lo n).go i H/\∃ N:St->Hp->Prop,(∀ σ' H',N σ' H'->∃ m',m' < m/\W (i + 1) m' σ' H')/\∀ x H',(Itr lo n).yld i H x H'->g x σ H' fun σ2 H2=>tb { D with nx:=N,ct:=N,bk:=D.nx } σ2 H2):=by
 refine ⟨fun i m σ H=>m = n - i/\i<=n/\Pv i σ H,⟨n,by simp,Nat.zero_le _,h0⟩,?_⟩
 rintro i m σ H ⟨rfl,hi,p⟩
 by_cases hlt:i < n
 ·refine .inr ⟨hlt,Pv (i + 1),fun σ' H' p'=>⟨n - (i + 1),by omega,rfl,hlt,p'⟩,fun x H' y=>?_⟩
  obtain ⟨e,y⟩:=y
  subst e y
  exact hs i σ _ hlt p
 ·have e:i = n:=by omega
  subst e
  exact .inl ⟨Nat.le_refl _,hd σ H p⟩
abbrev R2:=V->V->Hp->VK->Prop
def OpR (X:Cx) (f:Value->Value->Sem Value) (r:R2):Prop:=
 ∀ (pins:List (Addr × Obj)) (s:Shared) (σ : St) (H:Hp) (x y:V) (v u:Value) (Q:VK),Inv X pins σ H s->zN x v->zN y u->r x y H Q->
  wpAny (model X.prog X.w) X.A (f v u) (EP X pins σ Q) X.xe s
def UnR (X:Cx) (f:Value->Sem Value) (r:V->Hp->VK->Prop):Prop:=
 ∀ (pins:List (Addr × Obj)) (s:Shared) (σ : St) (H:Hp) (x:V) (v:Value) (Q:VK),Inv X pins σ H s->zN x v->r x H Q->
  wpAny (model X.prog X.w) X.A (f v) (EP X pins σ Q) X.xe s
def y1 (X:Cx) (f:Value) (r:List V->Hp->VK->Prop):Prop:=
 ∀ (pins:List (Addr × Obj)) (s:Shared) (σ : St) (H:Hp) (xs:List V) (us:List Value) (Q:VK),Inv X pins σ H s->zP xs us->r xs H Q->
  wpAny (model X.prog X.w) X.A (call f us) (EP X pins σ Q) X.xe s
def zkm (X:Cx) (r:V->Hp->(Bool->Hp->Prop)->Prop):Prop:=
 ∀ (pins:List (Addr × Obj)) (s:Shared) (σ : St) (H:Hp) (x:V) (v:Value) (Q:Bool->Hp->Prop),Inv X pins σ H s->zN x v->r x H Q->
  wpAny (model X.prog X.w) X.A (truthy v) (TP X pins σ Q) X.xe s
def tOp (r:R2) (ta tb:TE):TE:=fun σ H Q=>ta σ H fun x H1=>tb σ H1 fun y H2=>r x y H2 Q
def tUn (r:V->Hp->VK->Prop) (ta:TE):TE:=fun σ H Q=>ta σ H fun x H1=>r x H1 Q
def rI (C:Int->Int->Prop) (g:Int->Int->V):R2:=fun x y H Q=>∃ i j,x = .int i/\y = .int j/\C i j/\Q (g i j) H
def rI0 (g:Int->Int->V):R2:=fun x y H Q=>∃ i j,x = .int i/\y = .int j/\Q (g i j) H
def rU (g:Int->V):V->Hp->VK->Prop:=fun x H Q=>∃ i,x = .int i/\Q (g i) H
section
variable {X:Cx} {a b c:Expr} {ta tb tc:TE} {pos:Pos}
theorem ziK (ha:PE X a ta) (hb:PE X b tb) {pins:List (Addr × Obj)} {s:Shared} {σ : St} {H:Hp} {R:V->V->Hp->Prop} (I:Inv X pins σ H s)
  (h:ta σ H fun x H1=>tb σ H1 fun y H2=>R x y H2) {Q:Value->Shared->Prop} {f:Value->Value->Sem Value}
  (hf:∀ v u s2 x y H2,Inv X pins σ H2 s2->zN x v->zN y u->R x y H2->wpAny (model X.prog X.w) X.A (f v u) Q X.xe s2) :
  wpAny (model X.prog X.w) X.A (eval a X.env) (fun v s₁=>wpAny (model X.prog X.w) X.A (eval b X.env) (fun u s₂=>wpAny (model X.prog X.w) X.A (f v u) Q X.xe s₂) X.xe s₁) X.xe s:=by
 refine thn (ha pins s σ H _ I h) fun v s1 ⟨x,H1,I1,r1,q1⟩=>?_
 refine thn (hb pins s1 σ H1 _ I1 q1) fun u s2 ⟨y,H2,I2,r2,q2⟩=>?_
 exact hf v u s2 x y H2 I2 r1 r2 q2
theorem zx {op:Operator} {r:R2} (ho:OpR X (binaryOp op) r) (ha:PE X a ta) (hb:PE X b tb):PE X (.BinOp a op b pos) (tOp r ta tb):=by
 refine ⟨?_⟩
 intro pins s σ H Q I h
 exact wpAny_BinOp (ziK ha hb I h fun v u s2 x y H2 I2 rx ry q=>ho pins s2 σ H2 x y v u Q I2 rx ry q)
theorem zje {op:UnaryOp} {r:V->Hp->VK->Prop} (ho:UnR X (unaryOp op) r) (ha:PE X a ta):PE X (.UnaryOp op a pos) (tUn r ta):=by
 refine ⟨?_⟩
 intro pins s σ H Q I h
 exact UnaryOp_ (thn (ha pins s σ H _ I h) fun v s1 ⟨x,H1,I1,r1,q1⟩=>ho pins s1 σ H1 x v Q I1 r1 q1)
theorem opI {f:Value->Value->Sem Value} {C:Int->Int->Prop} {g:Int->Int->Int}
  (rule:∀ (i j:Int) (t u:Tok) (s:Shared) (Q:Value->Shared->Prop) (E:Value->Shared->Prop),C i j->Q (.int (g i j) s.toks) { s with toks:=s.toks + 1 }->wpAny (model X.prog X.w) X.A (f (.int i t) (.int j u)) Q E s) :
  OpR X f (rI C fun i j=>.int (g i j)):=by
 intro pins s σ H x y v u Q I rx ry h
 obtain ⟨i,j,rfl,rfl,hc,q⟩:=h
 obtain ⟨t,rfl⟩:=rx
 obtain ⟨t',rfl⟩:=ry
 exact rule i j t t' s _ _ hc ⟨.int (g i j),H,I.tok _,⟨_,rfl⟩,q⟩
theorem zjh {f:Value->Value->Sem Value} {g:Int->Int->Int}
  (rule:∀ (i j:Int) (t u:Tok) (s:Shared) (Q:Value->Shared->Prop) (E:Value->Shared->Prop),Q (.int (g i j) s.toks) { s with toks:=s.toks + 1 }->wpAny (model X.prog X.w) X.A (f (.int i t) (.int j u)) Q E s) :
  OpR X f (rI0 fun i j=>.int (g i j)):=by
 intro pins s σ H x y v u Q I rx ry h
 obtain ⟨i,j,rfl,rfl,q⟩:=h
 obtain ⟨t,rfl⟩:=rx
 obtain ⟨t',rfl⟩:=ry
 exact rule i j t t' s _ _ ⟨.int (g i j),H,I.tok _,⟨_,rfl⟩,q⟩
theorem zgL {f:Value->Value->Sem Value} {g:Int->Int->Bool}
  (rule:∀ (i j:Int) (t u:Tok) (s:Shared) (Q:Value->Shared->Prop) (E:Value->Shared->Prop),Q (.bool (g i j)) s->wpAny (model X.prog X.w) X.A (f (.int i t) (.int j u)) Q E s) :
  OpR X f (rI0 fun i j=>.bl (g i j)):=by
 intro pins s σ H x y v u Q I rx ry h
 obtain ⟨i,j,rfl,rfl,q⟩:=h
 obtain ⟨t,rfl⟩:=rx
 obtain ⟨t',rfl⟩:=ry
 exact rule i j t t' s _ _ ⟨.bl (g i j),H,I,rfl,q⟩
def zkq (i j:Int):Prop:=0 < j/\j < 1073741824
def zkp (i j:Int):Prop:=0<=j/\j<=1000000/\i.natAbs < 2 ^ 64
def ziP (i j:Int):Prop:=(-(2 ^ 64) < i/\i < 2 ^ 64)\/(-(2 ^ 64) < j/\j < 2 ^ 64)
theorem ziP.ok {i j:Int} (h:ziP i j):IntMulOk i j:=by
 rcases h with ⟨h1,h2⟩ | ⟨h1,h2⟩
 ·exact .of_left (intBits_le_64 h1 h2)
 ·exact .of_right (intBits_le_64 h1 h2)
theorem yt:OpR X (binaryOp .Add) (rI0 fun i j=>.int (i + j)):=zjh fun _ _ _ _ _ _ _ q=>add_int q
theorem jP:OpR X (binaryOp .Sub) (rI0 fun i j=>.int (i - j)):=zjh fun _ _ _ _ _ _ _ q=>sub_int q
theorem uT:OpR X (binaryOp .Mult) (rI ziP fun i j=>.int (i * j)):=opI fun _ _ _ _ _ _ _ hc q=>mul_int q hc.ok
theorem xK:OpR X (binaryOp .FloorDiv) (rI zkq fun i j=>.int (i / j)):=opI fun i j _ _ _ _ _ hc q=>by
 have h1:(0:Int) < j:=hc.1
 have h2:j < 1073741824:=hc.2
 exact floordiv_int (by omega) (by rw [Int.fdiv_eq_ediv_of_nonneg i (by omega)]; exact q) (.inl (PyProof.noPylong_small (by omega)))
theorem yd:OpR X (binaryOp .Mod) (rI (fun _ j=>0 < j) fun i j=>.int (i % j)):=opI fun i j _ _ _ _ _ hc q=>by
 have h1:(0:Int) < j:=hc
 exact mod_int' (by omega) (by rw [Int.fmod_eq_emod_of_nonneg i (by omega)]; exact q)
theorem zcr:OpR X (binaryOp .Pow) (rI zkp fun i j=>.int (i ^ j.toNat)):=opI fun _ _ _ _ _ _ _ hc q=>pow_int_small hc.1 hc.2.1 hc.2.2 q
theorem unI {f:Value->Sem Value} {g:Int->Int}
  (rule:∀ (i:Int) (t:Tok) (s:Shared) (Q:Value->Shared->Prop) (E:Value->Shared->Prop),Q (.int (g i) s.toks) { s with toks:=s.toks + 1 }->wpAny (model X.prog X.w) X.A (f (.int i t)) Q E s) :
  UnR X f (rU fun i=>.int (g i)):=by
 intro pins s σ H x v Q I rx h
 obtain ⟨i,rfl,q⟩:=h
 obtain ⟨t,rfl⟩:=rx
 exact rule i t s _ _ ⟨.int (g i),H,I.tok _,⟨_,rfl⟩,q⟩
theorem zhF:UnR X (unaryOp .USub) (rU fun i=>.int (-i)):=unI fun _ _ _ _ _ q=>neg_int q
end
def zi5:V->V->Bool
 | .non,.non=>true | .non,.int _=>true | .int _,.non=>true | .non,.bl _=>true | .bl _,.non=>true | .non,.str _=>true | .str _,.non=>true
 | .int _,.int _=>true | .bl _,.bl _=>true | .str _,.str _=>true | .byt _,.byt _=>true
 | .int _,.str _=>true | .str _,.int _=>true | .bl _,.str _=>true | .str _,.bl _=>true
 | _,_=>false
def rEq:R2:=fun x y H Q=>zi5 x y = true/\Q (.bl (decide (x = y))) H
def rNe:R2:=fun x y H Q=>zi5 x y = true/\Q (.bl (!decide (x = y))) H
theorem zdF {i j:Int}:decide (V.int i = V.int j) = (i == j):=by
 rw [Bool.eq_iff_iff]
 simp
theorem zf7 {i j:Bool}:decide (V.bl i = V.bl j) = (i == j):=by
 rw [Bool.eq_iff_iff]
 simp
theorem zdE {i j:Str}:decide (V.str i = V.str j) = (i == j):=by
 rw [Bool.eq_iff_iff]
 simp
theorem zdG {i j:Array UInt8}:decide (V.byt i = V.byt j) = (i.toList == j.toList):=by
 rw [Bool.eq_iff_iff]
 cases i
 cases j
 simp
section
variable {X:Cx} {a b c:Expr} {ta tb tc:TE} {pos:Pos}
theorem zX {pins:List (Addr × Obj)} {σ : St} {H:Hp} {s:Shared} {Q:VK} {k k':Bool} (I:Inv X pins σ H s) (q:Q (.bl k) H) (e:k = k'):EP X pins σ Q (.bool k') s:=by
 subst e
 exact ⟨.bl k,H,I,rfl,q⟩
theorem zZ:OpR X (compareOp .Eq) rEq:=by
 intro pins s σ H x y v u Q I rx ry h
 obtain ⟨hs,q⟩:=h
 cases x with
 | non=>
  cases rx
  cases y with
  | non=>cases ry; exact PySem.EqNone.eq_none_none (zX I q (by simp))
  | bl j=>cases ry; exact PySem.EqNone.eq_none_bool (zX I q (by simp))
  | int j=>obtain ⟨t',rfl⟩:=ry; exact PySem.EqNone.eq_none_int (zX I q (by simp))
  | str j=>obtain ⟨t',rfl⟩:=ry; exact PySem.EqNone.eq_none_str (zX I q (by simp))
  | _=>exact absurd (show false = true from hs) Bool.false_ne_true
 | bl i=>
  cases rx
  cases y with
  | non=>cases ry; exact PySem.EqNone.eq_bool_none (zX I q (by simp))
  | bl j=>cases ry; exact eq_bool (zX I q zf7)
  | str j=>obtain ⟨t',rfl⟩:=ry; exact PySem.EqMixed.eq_bool_str (zX I q (by simp))
  | _=>exact absurd (show false = true from hs) Bool.false_ne_true
 | int i=>
  obtain ⟨t,rfl⟩:=rx
  cases y with
  | non=>cases ry; exact PySem.EqNone.eq_int_none (zX I q (by simp))
  | int j=>obtain ⟨t',rfl⟩:=ry; exact eq_int (zX I q zdF)
  | str j=>obtain ⟨t',rfl⟩:=ry; exact PySem.EqMixed.eq_int_str (zX I q (by simp))
  | _=>exact absurd (show false = true from hs) Bool.false_ne_true
 | str i=>
  obtain ⟨t,rfl⟩:=rx
  cases y with
  | non=>cases ry; exact PySem.EqNone.eq_str_none (zX I q (by simp))
  | bl j=>cases ry; exact PySem.EqMixed.eq_str_bool (zX I q (by simp))
  | int j=>obtain ⟨t',rfl⟩:=ry; exact PySem.EqMixed.eq_str_int (zX I q (by simp))
  | str j=>obtain ⟨t',rfl⟩:=ry; exact eq_str (zX I q zdE)
  | _=>exact absurd (show false = true from hs) Bool.false_ne_true
 | byt i=>
  obtain ⟨t,rfl⟩:=rx
  cases y with
  | byt j=>obtain ⟨t',rfl⟩:=ry; exact PySem.W.eq_bytes (zX I q zdG)
  | _=>exact absurd (show false = true from hs) Bool.false_ne_true
 | _=>cases y <;> exact absurd (show false = true from hs) Bool.false_ne_true
theorem zbw:OpR X (compareOp .NotEq) rNe:=by
 intro pins s σ H x y v u Q I rx ry h
 obtain ⟨hs,q⟩:=h
 cases x with
 | non=>
  cases rx
  cases y with
  | non=>cases ry; exact PySem.EqNone.ne_none_none (zX I q (by simp))
  | bl j=>cases ry; exact PySem.EqNone.ne_none_bool (zX I q (by simp))
  | int j=>obtain ⟨t',rfl⟩:=ry; exact PySem.EqNone.ne_none_int (zX I q (by simp))
  | str j=>obtain ⟨t',rfl⟩:=ry; exact PySem.EqNone.ne_none_str (zX I q (by simp))
  | _=>exact absurd (show false = true from hs) Bool.false_ne_true
 | bl i=>
  cases rx
  cases y with
  | non=>cases ry; exact PySem.EqNone.ne_bool_none (zX I q (by simp))
  | bl j=>cases ry; exact ne_bool (zX I q (congrArg not zf7))
  | str j=>obtain ⟨t',rfl⟩:=ry; exact PySem.EqMixed.ne_bool_str (zX I q (by simp))
  | _=>exact absurd (show false = true from hs) Bool.false_ne_true
 | int i=>
  obtain ⟨t,rfl⟩:=rx
  cases y with
  | non=>cases ry; exact PySem.EqNone.ne_int_none (zX I q (by simp))
  | int j=>obtain ⟨t',rfl⟩:=ry; exact ne_int (zX I q (congrArg not zdF))
  | str j=>obtain ⟨t',rfl⟩:=ry; exact PySem.EqMixed.ne_int_str (zX I q (by simp))
  | _=>exact absurd (show false = true from hs) Bool.false_ne_true
 | str i=>
  obtain ⟨t,rfl⟩:=rx
  cases y with
  | non=>cases ry; exact PySem.EqNone.ne_str_none (zX I q (by simp))
  | bl j=>cases ry; exact PySem.EqMixed.ne_str_bool (zX I q (by simp))
  | int j=>obtain ⟨t',rfl⟩:=ry; exact PySem.EqMixed.ne_str_int (zX I q (by simp))
  | str j=>obtain ⟨t',rfl⟩:=ry; exact ne_str (zX I q (congrArg not zdE))
  | _=>exact absurd (show false = true from hs) Bool.false_ne_true
 | byt i=>
  obtain ⟨t,rfl⟩:=rx
  cases y with
  | byt j=>obtain ⟨t',rfl⟩:=ry; exact PySem.W.ne_bytes (zX I q (congrArg not zdG))
  | _=>exact absurd (show false = true from hs) Bool.false_ne_true
 | _=>cases y <;> exact absurd (show false = true from hs) Bool.false_ne_true
theorem ja:OpR X (compareOp .Lt) (rI0 fun i j=>.bl (decide (i < j))):=zgL fun _ _ _ _ _ _ _ q=>lt_int q
theorem zfm:OpR X (compareOp .LtE) (rI0 fun i j=>.bl (decide (i<=j))):=zgL fun _ _ _ _ _ _ _ q=>le_int q
theorem zbx:OpR X (compareOp .Gt) (rI0 fun i j=>.bl (decide (j < i))):=zgL fun _ _ _ _ _ _ _ q=>gt_int q
theorem zhy:OpR X (compareOp .GtE) (rI0 fun i j=>.bl (decide (j<=i))):=zgL fun _ _ _ _ _ _ _ q=>ge_int q
theorem zd9:OpR X (compareOp .In) (fun x y H Q=>∃ i j,x = .str i/\y = .str j/\Q (.bl (!(Builtin.Str.occurrences j i 0 j.length 1).isEmpty)) H):=by
 intro pins s σ H x y v u Q I rx ry h
 obtain ⟨i,j,rfl,rfl,q⟩:=h
 obtain ⟨t,rfl⟩:=rx
 obtain ⟨t',rfl⟩:=ry
 exact in_str (zX I q rfl)
theorem OpR.or {f:Value->Value->Sem Value} {r r':R2} (h:OpR X f r) (h':OpR X f r'):OpR X f (fun x y H Q=>r x y H Q\/r' x y H Q):=by
 intro pins s σ H x y v u Q I rx ry q
 rcases q with q | q
 ·exact h pins s σ H x y v u Q I rx ry q
 ·exact h' pins s σ H x y v u Q I rx ry q
theorem zt (b:Expr) {op:CmpOp} (h:op ≠ .In:=by decide) (h2:op ≠ .NotIn:=by decide):behindInMarks op b = false:=by
 have e1:(op == CmpOp.In) = false:=by cases op <;> first | rfl | exact absurd rfl h
 have e2:(op == CmpOp.NotIn) = false:=by cases op <;> first | rfl | exact absurd rfl h2
 cases b <;> simp [behindInMarks,e1,e2]
theorem yb {op:CmpOp} {r:R2} (ho:OpR X (compareOp op) r) (ha:PE X a ta) (hb:PE X b tb) (hm:behindInMarks op b = false):PE X (.Compare a [op] [b] pos) (tOp r ta tb):=by
 refine ⟨?_⟩
 intro pins s σ H Q I h
 exact wpAny_Compare1 (ziK ha hb I h fun v u s2 x y H2 I2 rx ry q=>ho pins s2 σ H2 x y v u Q I2 rx ry q) hm
def zeT (t:TE):TT:=fun σ H Q=>t σ H fun x H'=>∃ k,x = .bl k/\Q k H'
theorem zk {op:CmpOp} {r:R2} (ho:OpR X (compareOp op) r) (ha:PE X a ta) (hb:PE X b tb) (hm:behindInMarks op b = false):PT X (.Compare a [op] [b] pos) (zeT (tOp r ta tb)):=by
 refine ⟨?_⟩
 intro pins s σ H Q I h
 refine wpAny_isTrue_Compare1 (thn (ha pins s σ H _ I h) fun v s1 ⟨x,H1,I1,r1,q1⟩=>thn (hb pins s1 σ H1 _ I1 q1) fun u s2 ⟨y,H2,I2,r2,q2⟩=>
  thn (ho pins s2 σ H2 x y v u _ I2 r1 r2 q2) fun c s3 ⟨z,H3,I3,r3,k,e,q3⟩=>?_) hm
 subst e
 cases r3
 exact wpAny_truthy_bool ⟨H3,I3,q3⟩
def zhQ (r r':R2) (ta tb tc:TE):TE:=fun σ H Q=>ta σ H fun x H1=>tb σ H1 fun y H2=>r x y H2 fun z H3=>∃ k,z = .bl k/\
 (if k = true then tc σ H3 fun w' H4=>r' y w' H4 Q else Q (.bl false) H3)
theorem ze7 {op op':CmpOp} {r r':R2} (ho:OpR X (compareOp op) r) (ho':OpR X (compareOp op') r') (ha:PE X a ta) (hb:PE X b tb) (hc:PE X c tc)
  (hm:lastMarks [op,op'] [b,c] = false:=by with_unfolding_all rfl):PT X (.Compare a [op,op'] [b,c] pos) (zeT (zhQ r r' ta tb tc)):=by
 refine ⟨?_⟩
 intro pins s σ H Q I h
 refine isTrue_chain (thn (ha pins s σ H _ I h) fun v s1 ⟨x,H1,I1,r1,q1⟩=>test_link (thn (hb pins s1 σ H1 _ I1 q1) fun u s2 ⟨y,H2,I2,r2,q2⟩=>
  thn (ho pins s2 σ H2 x y v u _ I2 r1 r2 q2) fun d s3 ⟨z,H3,I3,r3,k,e,q3⟩=>?_)) hm
 subst e
 cases r3
 refine wpAny_truthy_bool ?_
 cases k with
 | false=>
  obtain ⟨k',e',q'⟩:=q3
  cases e'
  exact ite_ff ⟨H3,I3,q'⟩
 | true=>
  refine ite_tt (test_last (thn (hc pins s3 σ H3 _ I3 q3) fun w' s4 ⟨z',H4,I4,r4,q4⟩=>thn (ho' pins s4 σ H4 y z' u w' _ I4 r2 r4 q4) fun d' s5 ⟨z2,H5,I5,r5,k2,e2,q5⟩=>?_))
  subst e2
  cases r5
  exact wpAny_truthy_bool ⟨H5,I5,q5⟩
def zjK (K:Frag) (x:V) (H:Hp) (k:Bool):Prop:=
 match x with
 | .non=>k = false
 | .bl b=>k = b
 | .int i=>k = (i != 0)
 | .str y=>y.length<=sizeLine/\k = ((y.length:Int) != 0)
 | .byt y=>y.size<=sizeLine/\k = ((y.size:Int) != 0)
 | .ref p=>(∃ xs,SqL K H p xs/\k = !xs.isEmpty)\/(∃ xs,SqT K H p xs/\k = !xs.isEmpty)\/∃ kvs,H p = some (.dK kvs)/\k = !kvs.isEmpty
 | _=>False
theorem zcM {κ : Type} {kvs:List (κ × V)} {vs:List (κ × Value)} (r:KV kvs vs):(!vs.isEmpty) = !kvs.isEmpty:=by
 cases r <;> rfl
theorem j3 {xs:List V} {its:List Value} (r:zP xs its):(!its.toArray.isEmpty) = !xs.isEmpty:=by
 cases r <;> simp
theorem uW:(sizeLine:Nat) < 2 ^ 63:=by rw [sizeLine_eq]; decide
theorem zhH:zkm X (fun x H Q=>∃ k,zjK X.K x H k/\Q k H):=by
 intro pins s σ H x v Q I rx h
 obtain ⟨k,e,q⟩:=h
 have hl:=uW
 have hs:sizeLine = 16777216:=sizeLine_eq
 cases x with
 | non=>
  cases rx
  have e':k = false:=e
  subst e'
  exact truthy_none ⟨H,I,q⟩
 | bl b=>
  cases rx
  have e':k = b:=e
  subst e'
  exact wpAny_truthy_bool ⟨H,I,q⟩
 | int i=>
  obtain ⟨t,rfl⟩:=rx
  have e':k = (i != 0):=e
  subst e'
  exact PySem.P.truthy_int ⟨H,I,q⟩
 | str y=>
  obtain ⟨t,rfl⟩:=rx
  obtain ⟨hy,e'⟩:y.length<=sizeLine/\k = ((y.length:Int) != 0):=e
  subst e'
  exact PySem.P.truthy_str (by omega) ⟨H,I.tok _,q⟩
 | byt y=>
  obtain ⟨t,rfl⟩:=rx
  obtain ⟨hy,e'⟩:y.size<=sizeLine/\k = ((y.size:Int) != 0):=e
  subst e'
  exact PySem.W.truthy_bytes (by omega) ⟨H,I.tok _,q⟩
 | ref p=>
  cases rx
  have e':(∃ xs,SqL X.K H p xs/\k = !xs.isEmpty)\/(∃ xs,SqT X.K H p xs/\k = !xs.isEmpty)\/∃ kvs,H p = some (.dK kvs)/\k = !kvs.isEmpty:=e
  rcases e' with ⟨xs,hx,e'⟩ | ⟨xs,hx,e'⟩ | ⟨kvs,hx,e'⟩
  ·subst e'
   obtain ⟨its,r,pl,hz⟩:=I.list hx
   have hlen:=r.length
   exact wpAny_truthy_list pl.isList (by simp only [List.size_toArray]; omega) ⟨H,I.tok _,by rw [j3 r]; exact q⟩
  ·subst e'
   obtain ⟨its,r,pl,hz⟩:=I.tuple hx
   have hlen:=r.length
   exact truthy_tuple pl (by simp only [List.size_toArray]; omega) ⟨H,I.tok _,by rw [j3 r]; exact q⟩
  ·subst e'
   obtain ⟨hz,hS,vs,r,m⟩:kvs.length<=sizeLine/\(p == sysModules) = false/\∃ vs,KV kvs vs/\s.heap.DictOf (zY X.prog X.w) p vs:=I.hok p _ hx
   have hlen:kvs.length = vs.length:=Paired.length r
   exact wpAny_truthy_dict hS m (by omega) ⟨H,I.tok _,by rw [zcM r]; exact q⟩
 | _=>exact (show False from e).elim
theorem ze6 (ha:PE X a ta) (he:∀ whole,isTrue a X.env whole = (do let v <- whole; standAt a.pos; holding [v] (truthy v))) :
  PT X a (fun σ H Q=>ta σ H fun x H'=>∃ k,zjK X.K x H' k/\Q k H'):=by
 refine ⟨?_⟩
 intro pins s σ H Q I h
 exact isTrue_plain (thn (ha pins s σ H _ I h) fun v s1 ⟨x,H1,I1,r1,q1⟩=>zhH pins s1 σ H1 x v Q I1 r1 q1) (he _)
theorem zcs:OpR X (binaryOp .Add) (fun x y H Q=>∃ i j,x = .str i/\y = .str j/\i.length + j.length<=sizeLine/\Q (.str (i ++ j)) H):=by
 intro pins s σ H x y v u Q I rx ry h
 obtain ⟨i,j,rfl,rfl,hz,q⟩:=h
 obtain ⟨t,rfl⟩:=rx
 obtain ⟨t',rfl⟩:=ry
 exact add_str (fun t' tk=>⟨.str (i ++ j),H,I.tok _,⟨_,rfl⟩,q⟩) hz
theorem wB {x:V} {us:List Value} (r:zP [x] us):∃ u,us = [u]/\zN x u:=by
 cases r with
 | cons r1 r2=>cases r2; exact ⟨_,rfl,r1⟩
theorem qp {x y:V} {us:List Value} (r:zP [x,y] us):∃ u w',us = [u,w']/\zN x u/\zN y w':=by
 cases r with
 | cons r1 r2=>
  cases r2 with
  | cons r3 r4=>cases r4; exact ⟨_,_,rfl,r1,r3⟩
theorem zeF (hc:X.calm = true):y1 X (.builtin "max") (fun xs H Q=>∃ i j,xs = [.int i,.int j]/\Q (.int (if j > i then j else i)) H):=by
 intro pins s σ H xs us Q I r h
 obtain ⟨i,j,rfl,q⟩:=h
 obtain ⟨u,w',rfl,⟨t,rfl⟩,⟨t',rfl⟩⟩:=qp r
 refine max_two_ints (I.ok.hd hc) fun h' tk k=>⟨_,H,I.kept k,?_,q⟩
 by_cases hj:j > i
 ·rw [if_pos hj,if_pos hj]; exact ⟨_,rfl⟩
 ·rw [if_neg hj,if_neg hj]; exact ⟨_,rfl⟩
theorem zaj (hc:X.calm = true):y1 X (.builtin "min") (fun xs H Q=>∃ i j,xs = [.int i,.int j]/\Q (.int (if j < i then j else i)) H):=by
 intro pins s σ H xs us Q I r h
 obtain ⟨i,j,rfl,q⟩:=h
 obtain ⟨u,w',rfl,⟨t,rfl⟩,⟨t',rfl⟩⟩:=qp r
 refine min_two_ints (I.ok.hd hc) fun h' tk k=>⟨_,H,I.kept k,?_,q⟩
 by_cases hj:j < i
 ·rw [if_pos hj,if_pos hj]; exact ⟨_,rfl⟩
 ·rw [if_neg hj,if_neg hj]; exact ⟨_,rfl⟩
end
structure zcY (h:Heap) (x dx C:Addr) (mA:Str->Option Value):Prop where
 obj:h.get? x = some (instObj C dx)
 ns:h.Ns1 dx mA
 ne:dx ≠ x
theorem zej {h:Heap} {dx:Addr} {mA:Str->Option Value} (n:h.Ns1 dx mA):∃ od,h.get? dx = some od/\∀ name,lookIn name od = some (mA name):=by
 obtain ⟨o,es,ep,ho,hd,hk,_,hm⟩:=n
 refine ⟨o,ho,fun name=>?_⟩
 have e:=hm name
 unfold nsFind findBy at e
 rw [<- Array.find?_toList] at e
 unfold lookIn
 rw [hd]
 dsimp only
 split
 ·rename_i y q
  rw [q] at e
  exact congrArg some e
 ·rename_i q
  rw [q] at e
  have a:es.toList.any (·.refKey) = false:=by
   rw [List.any_eq_false]
   intro y hy
   obtain ⟨z,t,hkey⟩:=hk y (Array.mem_toList_iff.mp hy)
   simp [DictEntry.refKey,hkey]
  have a':¬ es.toList.any (·.refKey) = true:=by rw [a]; exact Bool.false_ne_true
  rw [if_neg a']
  exact congrArg some e
theorem zcY.look {h:Heap} {x dx C:Addr} {mA:Str->Option Value} (I:zcY h x dx C mA):∃ od,PySem.W.InstAt h x (instObj C dx) C (some od)/\∀ name,lookIn name od = some (mA name):=
 let ⟨od,ho,hl⟩:=zej I.ns
 ⟨od,⟨I.obj,rfl,rfl,ho⟩,hl⟩
section
variable {prog:Program} {w:World} {A:Around} {E:Value->Shared->Prop} {s:Shared} {K:Frag} {x dx C f:Addr} {mA:Str->Option Value} {name:Str} {v:Value}
theorem zg9 {expr:Bool} {Q:Value->Shared->Prop} (X:K.In s.heap) (I:zcY s.heap x dx C mA) (hg:plainGet K C name = true) (hh:hasDictIn K C = true)
  (ha:findIn K (.ref C) name = some none) (hv:mA name = some v) (hv':PySem.W.handedIn v = true) (h:Q v { s with toks:=s.toks + 1 }) :
  wpAny (model prog w) A (getAttr (.ref x) name expr) Q E s:=by
 obtain ⟨od,J,hl⟩:=I.look
 exact PySem.W.get_value X J (plainGet_of hg).1 (PySem.W.findObj_own hh ha rfl (by rw [hl,hv])) hv' h
theorem zfY {pl:Sem Bool} {Q:Value × List Value->Shared->Prop} (X:K.In s.heap) (I:zcY s.heap x dx C mA) (hg:plainGet K C name = true)
  (hf:findIn K (.ref C) name = some (some (.ref f))) (ht:isFn K (.ref f) = true) (hv:mA name = none) (h:Q (.ref f,[.ref x]) s) :
  wpAny (model prog w) A (getMethod (.ref x) name pl) Q E s:=by
 obtain ⟨od,J,hl⟩:=I.look
 exact PySem.W.method_fn X J (plainGet_of hg).1 (plainGet_of hg).2 hf (beq_iff_eq.mp ht) (by show (lookIn name od).map (·.isSome) = some false; rw [hl,hv]; rfl) h
theorem zgo {ns:List Str} {Q:Unit->Shared->Prop} (X:K.In s.heap) (I:zcY s.heap x dx C mA)
  (hs:findIn K (.ref C) "__setattr__" = some (some (.builtin "object.__setattr__"))) (hp:plainOver K C = true) (ht:takerIn K C name = some none) (hh:hasDictIn K C = true)
  (hw:PySem.Within mA ns) (hsz:ns.length<=sizeLine)
  (h:∀ h',zcY h' x dx C (fun y=>if y = name then some v else mA y)->Heap.SameBut dx s.heap h'->Q () { s with heap:=h',toks:=s.toks + 2 }) :
  wpAny (model prog w) A (setAttr (.ref x) name v) Q E s:=by
 obtain ⟨od,J,hl⟩:=I.look
 refine PySem.W.set_plain X J hs (PySem.W.osa_open (s:={ s with toks:=s.toks + 1 }) (r:=none) X J hp ht fun b=>?_)
 obtain ⟨cd,hc,hd'⟩:=PySem.W.any_some hh
 have hx:s.heap.get? x = some ⟨.ref C,some dx,.plain,#[]⟩:=I.obj
 refine wpAny_bind (wpAny_pure (wpAny_bind (wpAny_bind (wpAny_loadPart hx (wpAny_bind (PySem.W.Looks.here (s:={ s with toks:=s.toks + 1 }) (PySem.W.looks_clsIn X hc) ?_))))))
 rw [hd']
 refine wpAny_pure (a:=some dx) (wpAny_bind (wpAny_pure (wpAny_bind ?_)))
 refine wpAny_nsSet1 (s:={ s with toks:=s.toks + 1 }) I.ns fun h' hn2 hs2=>?_
 obtain ⟨oD,esD,epD,hoD,hdD,hcD⟩:=hn2.count (PySem.Within.cons name v hw)
 refine wpAny_bind (wpAny_lookBehind hoD (by rw [hdD]; exact pastItsLine_dict (Nat.le_trans hcD (by rw [List.length_cons]; omega))) ?_)
 exact wpAny_pure (h _ ⟨(hs2.2 _ (Ne.symm I.ne)).trans I.obj,hn2,I.ne⟩ hs2)
theorem zfM {R:Result->Shared->Prop} {vs:List Value} {kw:List (Str × Value)} (X:K.In s.heap) (hm:makesIn K C = true)
  (hi:findIn K (.ref C) "__init__" = some (some (.ref f))) (hf:PySem.W.typeIn K (.ref f) = some (.type "function"))
  (h:codeAny (model prog w) (A.under (.builtin "type.__call__" ⟨.ref C :: vs,kw⟩)) (.call (.ref f) ⟨.ref (s.heap.objs.size + 1) :: vs,kw⟩) (PySem.W.InitBack (s.heap.objs.size + 1) R)
   { s with heap:=(s.heap.push emptyDict).push (instObj C s.heap.objs.size) }) :
  codeAny (model prog w) A (.call (.ref C) ⟨vs,kw⟩) R s:=by
 obtain ⟨hh,g,d,t,os⟩:=s
 exact PySem.W.make_core (PySem.W.makes_of X hm) (PySem.W.looks_findIn X hi) (fun self=>PySem.W.bind_fn X self hf) (.inl rfl) h
end
def zT (f:Str) (v:V):List (Str × V)->List (Str × V)
 | []=>[(f,v)]
 | (g,x) :: r=>if g = f then (g,v) :: r else (g,x) :: zT f v r
theorem zj (f g:Str) (v:V):∀ fs:List (Str × V),(zT f v fs).lookup g = if g = f then some v else fs.lookup g
 | []=>by
  show List.lookup g [(f,v)] = _
  by_cases h:g = f
  ·have hb:(g == f) = true:=beq_iff_eq.mpr h
   simp only [List.lookup,hb,if_pos h]
  ·have hb:(g == f) = false:=beq_eq_false_iff_ne.mpr h
   simp only [List.lookup,hb,if_neg h]
 | (k,x) :: r=>by
  have ih:=zj f g v r
  rw [show zT f v ((k,x) :: r) = (if k = f then (k,v) :: r else (k,x) :: zT f v r) from rfl]
  by_cases hk:k = f
  ·rw [if_pos hk]
   by_cases h:g = k
   ·have hb:(g == k) = true:=beq_iff_eq.mpr h
    simp only [List.lookup,hb,if_pos (h.trans hk)]
   ·have hb:(g == k) = false:=beq_eq_false_iff_ne.mpr h
    simp only [List.lookup,hb,if_neg (fun e:g = f=>h (e.trans hk.symm))]
  ·rw [if_neg hk]
   by_cases h:g = k
   ·have hb:(g == k) = true:=beq_iff_eq.mpr h
    simp only [List.lookup,hb,if_neg (fun e:g = f=>hk (h.symm.trans e))]
   ·have hb:(g == k) = false:=beq_eq_false_iff_ne.mpr h
    simp only [List.lookup,hb]
    exact ih
theorem uZ (f:Str) (v:V):∀ fs:List (Str × V),f ∈ (zT f v fs).map (·.1)/\∀ g,g ∈ fs.map (·.1)->g ∈ (zT f v fs).map (·.1)
 | []=>⟨by simp [zT],fun g h=>by simp at h⟩
 | (k,x) :: r=>by
  obtain ⟨i1,i2⟩:=uZ f v r
  rw [show zT f v ((k,x) :: r) = (if k = f then (k,v) :: r else (k,x) :: zT f v r) from rfl]
  by_cases hk:k = f
  ·rw [if_pos hk]
   subst hk
   exact ⟨by simp,fun g h=>by simpa using h⟩
  ·rw [if_neg hk]
   refine ⟨?_,fun g h=>?_⟩
   ·rw [List.map_cons]
    exact List.mem_cons_of_mem _ i1
   ·rw [List.map_cons] at h |-
    rcases List.mem_cons.mp h with e | e
    ·exact List.mem_cons.mpr (.inl e)
    ·exact List.mem_cons_of_mem _ (i2 g e)
theorem jb (f:Str) (v:V):∀ fs:List (Str × V),(zT f v fs).length<=fs.length + 1
 | []=>by simp [zT]
 | (k,x) :: r=>by
  have ih:=jb f v r
  rw [show zT f v ((k,x) :: r) = (if k = f then (k,v) :: r else (k,x) :: zT f v r) from rfl]
  by_cases hk:k = f
  ·rw [if_pos hk,List.length_cons,List.length_cons]; omega
  ·rw [if_neg hk,List.length_cons,List.length_cons]; omega
theorem wl.some_of {v:V} {o:Option Value} (r:wl (some v) o):∃ u,o = some u/\zN v u:=by
 cases o with
 | none=>exact (show False from r).elim
 | some u=>exact ⟨u,rfl,r⟩
theorem wl.none_of {o:Option Value} (r:wl none o):o = none:=by
 cases o with
 | none=>rfl
 | some u=>exact (show False from r).elim
theorem zet {v:V} {u:Value} (r:zN v u):PySem.W.handedIn u = true:=by
 cases v with
 | non=>cases (show u = Value.none from r); rfl
 | bl b=>cases (show u = Value.bool b from r); rfl
 | int i=>obtain ⟨t,e⟩:=(show ∃ t,u = Value.int i t from r); cases e; rfl
 | str x=>obtain ⟨t,e⟩:=(show ∃ t,u = Value.str x t from r); cases e; rfl
 | byt b=>obtain ⟨t,e⟩:=(show ∃ t,u = Value.bytes b t from r); cases e; rfl
 | flt b=>obtain ⟨t,e⟩:=(show ∃ t,u = Value.float b t from r); cases e; rfl
 | ref a=>cases (show u = Value.ref a from r); rfl
 | ty n=>cases (show u = Value.type n from r); rfl
section
variable {P:Program} {w:World} {H H':Hp} {h h':Heap} {a C dx:Addr} {fs fs':List (Str × V)}
theorem js (hok:HOk P w H h) (e:H a = some (.ins C dx fs)):∃ mA,zcY h a dx C mA/\(∀ f,wl (fs.lookup f) (mA f))/\PySem.Within mA (fs.map (·.1))/\fs.length<=1000/\H dx = some (.own a):=by
 obtain ⟨d,z,ne,ob,mA,n,r,q⟩:=(show yi P w H h a (.ins C dx fs) from hok a _ e)
 exact ⟨mA,⟨ob,n,ne⟩,r,q,z,d⟩
end
structure Cls (K:Frag) (C:Addr):Prop where
 pg:plainGet K C Str.empty = true
 hd:hasDictIn K C = true
 po:plainOver K C = true
 sa:findIn K (.ref C) "__setattr__" = some (some (.builtin "object.__setattr__"))
theorem Cls.get {K:Frag} {C:Addr} (c:Cls K C) (f:Str):plainGet K C f = true:=c.pg
def xh (K:Frag) (C:Addr) (f:Str):Prop:=findIn K (.ref C) f = some none
theorem xh.taker {K:Frag} {C:Addr} {f:Str} (n:xh K C f):takerIn K C f = some none:=by
 unfold takerIn
 rw [show findIn K (.ref C) f = some none from n]
 rfl
structure y6 (K:Frag) (C:Addr) (m:Str) (f:Addr):Prop where
 at_:findIn K (.ref C) m = some (some (.ref f))
 fn:isFn K (.ref f) = true
 kp:keepIn K (.ref f) = true
section
variable {X:Cx} {pins:List (Addr × Obj)} {σ : St} {H:Hp} {s:Shared} {a C dx:Addr} {fs:List (Str × V)} {f:Str} {v:V} {A:Around} {E:Value->Shared->Prop}
theorem zcN {b:Bool} {Q:Value->Shared->Prop} (I:Inv X pins σ H s) (e:H a = some (.ins C dx fs)) (c:Cls X.K C) (n:xh X.K C f) (l:fs.lookup f = some v)
  (h:∀ u s',Inv X pins σ H s'->zN v u->Q u s'):wpAny (model X.prog X.w) A (getAttr (.ref a) f b) Q E s:=by
 obtain ⟨mA,O,r,_,_,_⟩:=js I.hok e
 obtain ⟨u,hu,ru⟩:=wl.some_of (v:=v) (o:=mA f) (by rw [<- l]; exact r f)
 exact zg9 I.kIn O (c.get f) c.hd n hu (zet ru) (h u _ (I.tok _) ru)
theorem wz {m:Str} {g:Addr} {pl:Sem Bool} {Q:Value × List Value->Shared->Prop} (I:Inv X pins σ H s) (e:H a = some (.ins C dx fs)) (c:Cls X.K C) (k:y6 X.K C m g) (l:fs.lookup m = none)
  (h:Q (.ref g,[.ref a]) s):wpAny (model X.prog X.w) A (getMethod (.ref a) m pl) Q E s:=by
 obtain ⟨mA,O,r,_,_,_⟩:=js I.hok e
 have hn:mA m = none:=wl.none_of (by rw [<- l]; exact r m)
 exact zfY I.kIn O (c.get m) k.at_ k.fn hn h
theorem zcl {y:V} {u:Value} {Q:Unit->Shared->Prop} (I:Inv X pins σ H s) (e:H a = some (.ins C dx fs)) (c:Cls X.K C) (n:xh X.K C f) (hl:fs.length < 1000) (ry:zN y u)
  (h:∀ s',Inv X pins σ (upd H a (.ins C dx (zT f y fs))) s'->Q () s'):wpAny (model X.prog X.w) A (setAttr (.ref a) f u) Q E s:=by
 obtain ⟨mA,O,r,wi,_,ho⟩:=js I.hok e
 have hz:(fs.map (·.1)).length<=sizeLine:=by rw [List.length_map,sizeLine_eq]; omega
 refine zgo I.kIn O c.sa c.po n.taker c.hd wi hz fun h' O' sb=>h _ ?_
 have hd:∃ o,h'.get? dx = some o:=let ⟨o,_,_,e',_⟩:=O'.ns; ⟨o,e'⟩
 refine I.write (x:=a) (e:=dx) (by rw [e]; exact True.intro) (.inr ho) (fun b q hb z=>(sb.2 b hb).trans z) hd ?_
 refine ⟨by rw [zi O.ne]; exact ho,?_,O.ne,O'.obj,_,O'.ns,fun g=>?_,fun g hg=>?_⟩
 ·have:=jb f y fs; omega
 ·show wl ((zT f y fs).lookup g) (if g = f then some u else mA g)
  rw [zj]
  by_cases q:g = f
  ·rw [if_pos q,if_pos q]; exact ry
  ·rw [if_neg q,if_neg q]; exact r g
 ·by_cases q:g = f
  ·rw [q]; exact (uZ f y fs).1
  ·refine (uZ f y fs).2 g (wi g fun z=>hg ?_)
   show (if g = f then some u else mA g) = none
   rw [if_neg q]; exact z
theorem Inv.made (I:Inv X pins σ H s):Inv X pins σ (upd (upd H s.heap.objs.size (.own (s.heap.objs.size + 1))) (s.heap.objs.size + 1) (.ins C s.heap.objs.size []))
  { s with heap:=(s.heap.push emptyDict).push (instObj C s.heap.objs.size) }:=by
 have e1:(s.heap.push emptyDict).get? s.heap.objs.size = some emptyDict:=Heap.get?_push_size s.heap rfl
 have e2:((s.heap.push emptyDict).push (instObj C s.heap.objs.size)).get? (s.heap.objs.size + 1) = some (instObj C s.heap.objs.size):=by
  have:=Heap.get?_push_size (s.heap.push emptyDict) (o:=instObj C s.heap.objs.size) rfl
  rwa [Heap.size_push] at this
 have e3:(s.heap.push emptyDict).Ns s.heap.objs.size (fun _=>none):=⟨emptyDict,#[],_,e1,rfl,(fun e he=>absurd he (by simp)),fun _=>rfl⟩
 have I1:=I.laid (a:=s.heap.objs.size) (o:=.own (s.heap.objs.size + 1)) (h':=s.heap.push emptyDict) (t':=s.toks) (fun b u q=>Heap.get?_push_of_some _ q) (Nat.le_refl _) ⟨_,e1⟩
 refine I1.laid (a:=s.heap.objs.size + 1) (o:=.ins C s.heap.objs.size []) (t':=s.toks) (fun b u q=>Heap.get?_push_of_some _ q) (Nat.le_of_eq (Heap.size_push _ _)) ?_
 have ne:s.heap.objs.size ≠ s.heap.objs.size + 1:=Nat.ne_of_lt (Nat.lt_succ_self _)
 refine ⟨by rw [zi ne,za],Nat.zero_le _,ne,e2,fun _=>none,(Heap.Ns1.of_empty e3).at fun o q=>Heap.get?_push_of_some _ q,fun _=>True.intro,fun y hy=>absurd rfl hy⟩
theorem zhj {prog:Program} {w:World} {env:Env} {e:Expr} {f:Str} {pos:Pos} {s:Shared} {Q:Value->Shared->Prop} (hb:attributeBase e f env (eval e env) = eval e env)
  (h:wpAny (model prog w) A (eval e env) (fun o s₁=>wpAny (model prog w) A (getAttr o f true) Q E s₁) E s):wpAny (model prog w) A (eval (.Attribute e f pos) env) Q E s:=
 Attribute_any_ h (by rw [arm_eval_Attribute,hb])
end
def ziZ (K:Frag) (ta:TE) (f:Str):TE:=fun σ H Q=>ta σ H fun x H1=>∃ a C dx fs v,x = .ref a/\H1 a = some (.ins C dx fs)/\Cls K C/\xh K C f/\fs.lookup f = some v/\Q v H1
def zjW (K:Frag) (ta tv:TE) (f:Str):TS:=fun D σ H=>tv σ H fun y H1=>ta σ H1 fun x H2=>∃ a C dx fs,x = .ref a/\H2 a = some (.ins C dx fs)/\Cls K C/\xh K C f/\fs.length < 1000/\
 D.nx σ (upd H2 a (.ins C dx (zT f y fs)))
section
variable {X:Cx} {o e value:Expr} {f:Str} {pos pos' tpos:Pos} {ta tv:TE}
theorem yO (he:PE X e ta) (hb:attributeBase e f X.env (eval e X.env) = eval e X.env):PE X (.Attribute e f pos) (ziZ X.K ta f):=by
 refine ⟨?_⟩
 intro pins s σ H Q I h
 refine zhj hb (thn (he pins s σ H _ I h) fun u s1 ⟨x,H1,I1,rx,a,C,dx,fs,v,ex,ea,c,n,l,q⟩=>?_)
 subst ex
 obtain rfl:u = Value.ref a:=rx
 exact zcN I1 ea c n l fun u' s2 I2 ru=>⟨v,H1,I2,ru,q⟩
theorem wu (ha:PE X o ta) (hv:PE X value tv) (hs:swapsWith value (some (.Attribute o f pos')) pos.line X.env = pure false):PS X (.Assign [.Attribute o f pos'] value pos) (zjW X.K ta tv f):=by
 refine ⟨?_⟩
 intro pins s σ H D I h
 refine plainObj_wpAny_Assign_Attribute (thn (hv pins s σ H _ I h) fun u s1 ⟨y,H1,I1,ry,q⟩=>thn (ha pins s1 σ H1 _ I1 q) fun ov s2 ⟨x,H2,I2,rx,a,C,dx,fs,ex,ea,c,n,l,q2⟩=>?_) hs
 subst ex
 obtain rfl:ov = Value.ref a:=rx
 exact zcl I2 ea c n l ry fun s3 I3=>⟨σ,_,I3,q2⟩
theorem zhB {pl:Sem Bool} {m:Str} {apos:Pos} {args:List Expr} {pins:List (Addr × Obj)} {s:Shared} {σ : St} {H:Hp} {Q:Value->Shared->Prop} {te:TE} (he:PE X e te) (I:Inv X pins σ H s)
  (h:te σ H fun x H1=>∃ a C dx fs g,x = .ref a/\H1 a = some (.ins C dx fs)/\Cls X.K C/\y6 X.K C m g/\fs.lookup m = none/\
   ∀ s1,Inv X pins σ H1 s1->wpAny (model X.prog X.w) X.A (callWith pos (.ref g) [.ref a] (backTo pos (starEach args X.env)) (backToKw pos (keywordEach [] X.env))) Q X.xe s1)
  (ht:eval (.Call (.Attribute e m apos) args [] pos) X.env = (do
   let ov <- eval e X.env
   standAt apos.atName
   let (f,first) <- holding [ov] (getMethod ov m pl)
   callWith pos f first (backTo pos (starEach args X.env)) (backToKw pos (keywordEach [] X.env)))) :
  wpAny (model X.prog X.w) X.A (eval (.Call (.Attribute e m apos) args [] pos) X.env) Q X.xe s:=by
 refine methodCall_KW (pl:=pl) (thn (he pins s σ H _ I h) fun u s1 ⟨x,H1,I1,rx,a,C,dx,fs,g,ex,ea,c,k,l,q⟩=>?_) ht
 subst ex
 obtain rfl:u = Value.ref a:=rx
 exact wz I1 ea c k l (q s1 I1)
end
section
variable {X:Cx} {pins:List (Addr × Obj)} {σ : St} {H:Hp} {s:Shared} {A:Around} {E:Value->Shared->Prop} {Q:Value->Shared->Prop} {c:Value} {b:Bool}
inductive vn (K:Frag) (H:Hp):V->Value->Prop where
 | non:vn K H .non (.type "NoneType")
 | bl (x:Bool):vn K H (.bl x) (.type "bool")
 | int (i:Int):vn K H (.int i) (.type "int")
 | str (x:Str):vn K H (.str x) (.type "str")
 | flt (x:UInt64):vn K H (.flt x) (.type "float")
 | lst {a:Addr} {xs:List V} (e:H a = some (.lst xs)):vn K H (.ref a) (.type "list")
 | frz {a:Addr} {o:Obj} {xs:List V} (e:H a = some (.frz o (.lst xs))):vn K H (.ref a) (.type "list")
 | tup {a:Addr} {xs:List V} (e:H a = some (.tup xs)):vn K H (.ref a) (.type "tuple")
 | dK {a:Addr} {kvs:List (Key × V)} (e:H a = some (.dK kvs)):vn K H (.ref a) (.type "dict")
 | dT {a:Addr} {kvs:List (List Key × V)} (e:H a = some (.dT kvs)):vn K H (.ref a) (.type "dict")
 | ins {a C dx:Addr} {fs:List (Str × V)} (e:H a = some (.ins C dx fs)) (cl:Cls K C) (ha:findIn K (.ref C) "__class__" = some (some (.builtin "object.__class__")))
   (hn:specialIn K (.builtin "object.__class__") "__get__" = some (some (.builtin "getset_descriptor.__get__"))) (htk:PySem.W.takesIn K (.builtin "object.__class__") = some true)
   (hm:PySem.W.mroIn K C (.type "object") = some true):vn K H (.ref a) (.ref C)
theorem zeq {x:V} {u t:Value} (I:Inv X pins σ H s) (rx:zN x u) (ty:vn X.K H x t) (e:kitOne X.K t c = some b) (h:∀ tk,Q (.bool b) { s with toks:=tk }) :
  wpAny (model X.prog X.w) A (call (.builtin "isinstance") [u,c]) Q E s:=by
 cases ty with
 | non=>cases (show u = Value.none from rx); exact kia_one PySem.W.kitx_none I.kIn True.intro e (fun z=>nomatch z) h
 | bl y=>cases (show u = Value.bool y from rx); exact kia_one PySem.W.kitx_bool I.kIn True.intro e (fun z=>nomatch z) h
 | int i=>obtain ⟨t,q⟩:=(show ∃ t,u = Value.int i t from rx); cases q; exact kia_one PySem.W.kitx_int I.kIn True.intro e (fun z=>nomatch z) h
 | str y=>obtain ⟨t,q⟩:=(show ∃ t,u = Value.str y t from rx); cases q; exact kia_one PySem.W.kitx_str I.kIn True.intro e (fun z=>nomatch z) h
 | flt y=>obtain ⟨t,q⟩:=(show ∃ t,u = Value.float y t from rx); cases q; exact kia_one PySem.W.kitx_float I.kIn True.intro e (fun z=>nomatch z) h
 | @lst a xs ea=>
  cases (show u = Value.ref a from rx)
  obtain ⟨_,_,n,_,h1⟩:=(show yi X.prog X.w H s.heap a (.lst xs) from I.hok a _ ea)
  exact kia_one PySem.W.kitx_list I.kIn ⟨_,h1,rfl⟩ e (fun z=>nomatch z) h
 | @frz a ob xs ea=>
  cases (show u = Value.ref a from rx)
  obtain ⟨_,_,_,n,_,h1⟩:=(show yi X.prog X.w H s.heap a (.frz ob (.lst xs)) from I.hok a _ ea)
  exact kia_one PySem.W.kitx_list I.kIn ⟨_,h1,rfl⟩ e (fun z=>nomatch z) h
 | @tup a xs ea=>
  cases (show u = Value.ref a from rx)
  obtain ⟨_,_,_,p⟩:=(show yi X.prog X.w H s.heap a (.tup xs) from I.hok a _ ea)
  obtain ⟨o,h1,h2,_⟩:=p
  exact kia_one PySem.W.kitx_tuple I.kIn ⟨o,h1,h2⟩ e (fun z=>nomatch z) h
 | @dK a kvs ea=>
  cases (show u = Value.ref a from rx)
  obtain ⟨_,_,vs,_,p⟩:=(show yi X.prog X.w H s.heap a (.dK kvs) from I.hok a _ ea)
  obtain ⟨o,es,ep,h1,h2,_⟩:=p
  exact kia_one PySem.W.kitx_dict I.kIn ⟨o,h1,h2.1⟩ e (fun z=>nomatch z) h
 | @dT a kvs ea=>
  cases (show u = Value.ref a from rx)
  obtain ⟨_,_,xs,_,o,es,ep,h1,h2,_⟩:=(show yi X.prog X.w H s.heap a (.dT kvs) from I.hok a _ ea)
  exact kia_one PySem.W.kitx_dict I.kIn ⟨o,h1,h2.1⟩ e (fun z=>nomatch z) h
 | @ins a C dx fs ea cl ha hn htk hm=>
  cases (show u = Value.ref a from rx)
  obtain ⟨mA,O,_⟩:=js I.hok ea
  obtain ⟨od,J,_⟩:=O.look
  exact kia_one (PySem.W.kitx_own (cl.get _) cl.hd ha hn htk hm) I.kIn J e (fun z=>nomatch z) h
end
structure z8 (k:Nat) (A:Around):Prop where
 hd:A.handled = none
 dp:A.depth + 3 * k + 5 < recursionLimit
 un:A.units + 16 * k + 200 < cLine
theorem z8.mono {j k:Nat} {A:Around} (r:z8 k A) (h:j<=k):z8 j A:=⟨r.hd,by have:=r.dp; omega,by have:=r.un; omega⟩
theorem z8.deeper {k:Nat} {A:Around} (r:z8 (k + 1) A) (env:Env):z8 k (A.deeper env):=
 ⟨r.hd,by have:=r.dp; show A.depth + 1 + 3 * k + 5 < _; omega,by have:=r.un; show A.units + 3 + 16 * k + 200 < _; omega⟩
theorem zcB {A:Around} {C:Addr} {us:List Value} {kw:List (Str × Value)}:(A.under (.builtin "type.__call__" ⟨.ref C :: us,kw⟩)).depth = A.depth + 1:=by
 first | rfl | simp [Around.under,Code.weight,Code.isCreation,Code.isGuard,Code.isCaller,Code.frames,Code.isFrame,guardIds]
theorem zcA {A:Around} {C:Addr} {us:List Value} {kw:List (Str × Value)}:(A.under (.builtin "type.__call__" ⟨.ref C :: us,kw⟩)).units = A.units + 1:=by
 first | rfl | simp [Around.under,Code.cUnits,Code.frames,Code.isFrame]
theorem z8.make {k:Nat} {A:Around} (r:z8 (k + 1) A) (C:Addr) (us:List Value) (kw:List (Str × Value)):z8 k (A.under (.builtin "type.__call__" ⟨.ref C :: us,kw⟩)):=
 ⟨r.hd,by have:=r.dp; rw [zcB]; omega,by have:=r.un; rw [zcA]; omega⟩
theorem z8.depth {k:Nat} {A:Around} (r:z8 k A):A.depth < recursionLimit:=by have:=r.dp; omega
theorem z8.units {k:Nat} {A:Around} (r:z8 k A):A.units + 64 < cLine:=by have:=r.un; omega
theorem z8.units0 {k:Nat} {A:Around} (r:z8 k A):A.units < cLine:=by have:=r.un; omega
def zgj:TA:=fun _ H Q=>Q [] H
def zc6 (ta:TE) (tr:TA):TA:=fun σ H Q=>ta σ H fun x H1=>tr σ H1 fun xs H2=>Q (x :: xs) H2
section
variable {X:Cx} {e:Expr} {es:List Expr} {te:TE} {t:TA} {pos:Pos}
theorem zc:PA X [] zgj:=⟨fun _ _ _ _ H Q I h=>Calls.spliced_nil ⟨[],H,I,.nil,h⟩⟩
theorem zgI (ha:PE X e te) (hr:PA X es t) (hs:starEach (e :: es) X.env = (false,eval e X.env) :: starEach es X.env:=by rfl):PA X (e :: es) (zc6 te t):=by
 refine ⟨?_⟩
 intro pos pins s σ H Q I h
 rw [hs]
 show wpAny _ _ (spliced ((false,eval e X.env) :: backTo pos (starEach es X.env))) _ _ s
 refine Calls.spliced_cons (thn (ha pins s σ H _ I h) fun u s1 ⟨x,H1,I1,r1,q1⟩=>?_)
 exact thn (hr pos pins s1 σ H1 _ I1 q1) fun us s2 ⟨xs,H2,I2,r2,q2⟩=>⟨x :: xs,H2,I2,.cons r1 r2,q2⟩
def zjM (t:TA):TE:=fun σ H Q=>t σ H fun xs H1=>xs.length<=sizeLine/\∀ p,H1 p = none->Q (.ref p) (upd H1 p (.tup xs))
def ziY (t:TA):TE:=fun σ H Q=>t σ H fun xs H1=>xs.length<=sizeLine/\∀ p,H1 p = none->Q (.ref p) (upd H1 p (.lst xs))
theorem zR {x1} (h:PA X es t):PE X (.Tuple es x1 pos) (zjM t):=by
 refine ⟨?_⟩
 intro pins s σ H Q I hq
 refine wpAny_Tuple_spliced (thn (h pos pins s σ H _ I hq) fun us s1 ⟨xs,H1,I1,r,z,q⟩=>⟨by rw [<- r.length]; exact z,?_⟩)
 have hf:H1 s1.heap.objs.size = none:=I1.hok.fresh (Nat.le_refl _)
 refine ⟨.ref s1.heap.objs.size,upd H1 s1.heap.objs.size (.tup xs),I1.laid (t':=s1.toks) (fun b u e=>Heap.get?_push_of_some _ e) (Nat.le_refl _) ?_,rfl,q _ hf⟩
 exact ⟨z,us,r,⟨_,Heap.get?_push_size _ rfl,rfl,_,rfl⟩⟩
theorem zM (h:PA X es t):PE X (.List es pos) (ziY t):=by
 refine ⟨?_⟩
 intro pins s σ H Q I hq
 refine wpAny_List_spliced (thn (h pos pins s σ H _ I hq) fun us s1 ⟨xs,H1,I1,r,z,q⟩=>⟨by rw [<- r.length]; exact z,?_⟩)
 have hf:H1 s1.heap.objs.size = none:=I1.hok.fresh (Nat.le_refl _)
 refine ⟨.ref s1.heap.objs.size,upd H1 s1.heap.objs.size (.lst xs),I1.laid (t':=s1.toks) (fun b u e=>Heap.get?_push_of_some _ e) (Nat.le_refl _) ?_,rfl,q _ hf⟩
 exact ⟨z,us,0,r,Heap.get?_push_size _ rfl⟩
end
abbrev Sp:=List V->Hp->VK->XK->Prop
abbrev CXT:=List Env->Hp->Shared->XK->Value->Shared->Prop
structure zc1 (P:Program) (w:World) (K:Frag) (mg:Str->Option Value) (base:Heap) (A:Around) (outer:List Env) (s:Shared) (H:Hp):Prop where
 frames:A.frames = some outer
 mod:Mod K mg base
 bs:∀ b o,base.get? b = some o->s.heap.get? b = some o/\H b = none
 bsz:base.objs.size<=s.heap.objs.size
 funs:s.heap.FunFrames base outer
 frf:∀ b ∈ frs outer,H b = none
 hok:HOk P w H s.heap
 bare:AllBare s.gens
def CE (outer:List Env) (P:Program) (w:World) (H:Hp) (s:Shared) (Q:VK) (u:Value) (s':Shared):Prop:=
 ∃ v H',s'.os = s.os/\AllBare s'.gens/\Un (frs outer) [] H H' s.heap s'.heap/\HOk P w H' s'.heap/\zN v u/\Q v H'
def CR (CX:CXT) (outer:List Env) (P:Program) (w:World) (H:Hp) (s:Shared) (Q:VK) (E:XK) (r:Result) (s':Shared):Prop:=
 match r with
 | .ok (.ret u)=>CE outer P w H s Q u s'
 | .ok _=>False
 | .error e=>CX outer H s E e s'
structure zE (P:Program) (w:World) (K:Frag) (mg:Str->Option Value) (base:Heap) (CX:CXT) (k:Nat) (f:Addr) (fd:FuncData) (ps:List Str) (sp:Sp):Prop where
 len:∀ vs H Q E,sp vs H Q E->vs.length = ps.length
 run:∀ (A:Around) (outer:List Env) (s:Shared) (H:Hp) (args:Args) (us:List Value) (vs:List V) (Q:VK) (E:XK),z8 k A->zc1 P w K mg base A outer s H->BindsTo s fd args (ps.zip us)->zP vs us->sp vs H Q E->
  codeAny (model P w) A (.call (.ref f) args) (CR CX outer P w H s Q E) s
theorem zc1.make {P:Program} {w:World} {K:Frag} {mg:Str->Option Value} {base:Heap} {A:Around} {outer:List Env} {s:Shared} {H:Hp} (e:zc1 P w K mg base A outer s H) (C:Addr) (us:List Value) (kw:List (Str × Value)) :
  zc1 P w K mg base (A.under (.builtin "type.__call__" ⟨.ref C :: us,kw⟩)) outer s H:=⟨by first | exact e.frames | (simpa [Around.under,Code.envs,Code.isFrame,pushEnvs] using e.frames),e.mod,e.bs,e.bsz,e.funs,e.frf,e.hok,e.bare⟩
section
variable {X:Cx} {pins:List (Addr × Obj)} {σ : St} {H:Hp} {s s':Shared}
theorem Inv.env0 (I:Inv X pins σ H s):zc1 X.prog X.w X.K X.mg X.base X.A X.stack s H:=
 ⟨I.ok.frames,I.ok.mod,I.bs,Nat.le_trans I.ok.bsz I.sz,I.stack,I.stkFree,I.hok,I.bare⟩
theorem Inv.after {Q:VK} {u:Value} (I:Inv X pins σ H s) (h:CE X.stack X.prog X.w H s Q u s'):EP X pins σ Q u s':=by
 obtain ⟨v,H',os,bare,un,hok,r,q⟩:=h
 obtain ⟨hh,g,d,t,os'⟩:=s'
 obtain rfl:os' = s.os:=os
 exact ⟨v,H',I.call (h':=hh) (g':=g) (d':=d) (t':=t) (ch:=[]) un hok bare (fun b z=>absurd z (by simp)),r,q⟩
end
def zc7 (sp:Sp) (dvs:List V) (E:XK) (t:TA):TE:=fun σ H Q=>t σ H fun vs H1=>sp (vs ++ dvs) H1 Q E
def zhr (C:Addr) (m:Str) (sp:Sp) (dvs:List V) (E:XK) (ta:TE) (t:TA):TE:=fun σ H Q=>ta σ H fun x H1=>∃ a dx fs,x = .ref a/\H1 a = some (.ins C dx fs)/\fs.lookup m = none/\
 t σ H1 fun vs H2=>sp (x :: (vs ++ dvs)) H2 Q E
def zhs (C:Addr) (sp:Sp) (dvs:List V) (E:XK) (t:TA):TE:=fun σ H Q=>t σ H fun vs H1=>∀ x dx,H1 x = none->H1 dx = none->dx ≠ x->
 sp (.ref x :: (vs ++ dvs)) (upd (upd H1 dx (.own x)) x (.ins C dx [])) (fun v H2=>v = .non/\Q (.ref x) H2) E
def zS (K:Frag) (fd:FuncData) (ps:List Str) (ds:List Value):Prop:=
 ∀ (s:Shared) (us:List Value),K.In s.heap->(us ++ ds).length = ps.length->BindsTo s fd ⟨us,[]⟩ (ps.zip (us ++ ds))
theorem zS.all {K:Frag} {fd:FuncData} {ps:List Str} (h:∀ us:List Value,us.length = ps.length->bindArgs fd ⟨us,[]⟩ = pure (ps.zip us)):zS K fd ps []:=fun s us _ hl=>by
 rw [List.append_nil] at hl |-
 exact .of_eq (h us hl)
def xy (CX:CXT) (X:Cx) (E:XK):Prop:=∀ (pins:List (Addr × Obj)) (σ : St) (H:Hp) (s:Shared) (e:Value) (s':Shared),Inv X pins σ H s->CX X.stack H s E e s'->X.xe e s'
section
variable {X:Cx} {CX:CXT} {k:Nat} {f C:Addr} {fd:FuncData} {ps:List Str} {sp:Sp} {dvs:List V} {ds:List Value} {E:XK} {x m:Str} {p pos apos:Pos} {e o:Expr} {es:List Expr} {ta:TE} {t:TA}
theorem jK {pins:List (Addr × Obj)} {σ : St} {H:Hp} {s:Shared} {Q:VK} {us:List Value} {vs:List V} (F:zE X.prog X.w X.K X.mg X.base CX k f fd ps sp) (hr:z8 k X.A) (hb:zS X.K fd ps ds) (hd:zP dvs ds) (hx:xy CX X E)
  (I:Inv X pins σ H s) (r:zP vs us) (h:sp (vs ++ dvs) H Q E):wpAny (model X.prog X.w) X.A (call (.ref f) us) (EP X pins σ Q) X.xe s:=by
 have r2:zP (vs ++ dvs) (us ++ ds):=r.append hd
 have hl:(us ++ ds).length = ps.length:=by rw [<- r2.length]; exact F.len _ _ _ _ h
 refine wpAny_call (codeAny_mono (F.run X.A X.stack s H ⟨us,[]⟩ (us ++ ds) (vs ++ dvs) Q E hr I.env0 (hb s us I.kIn hl) r2 h) fun r s' hq=>?_)
 cases r with
 | error e=>exact hx pins σ H s e s' I hq
 | ok fl=>
  cases fl with
  | ret u=>exact I.after hq
  | next=>exact False.elim hq
  | brk=>exact False.elim hq
  | cont=>exact False.elim hq
theorem zdo (F:zE X.prog X.w X.K X.mg X.base CX k f fd ps sp) (hr:z8 k X.A) (hg:Gl X x) (hm:X.mg x = some (.ref f)) (hk:keepIn X.K (.ref f) = true) (hb:zS X.K fd ps ds) (hd:zP dvs ds) (hx:xy CX X E)
  (ha:PA X (e :: es) t) (hdb:(x == ("__debug__" : Str)) = false:=by decide) (he:starEach (e :: es) X.env = (false,eval e X.env) :: starEach es X.env:=by rfl) (hpl:(backTo pos (starEach es X.env)).any (·.1) = false:=by rfl) :
  PE X (.Call (.Name x p) (e :: es) [] pos) (zc7 sp dvs E t):=by
 refine ⟨?_⟩
 intro pins s σ H Q I h
 refine wpAny_Call_Name_kw (vg I hg hm ?_ hdb)
 refine callWith_K (h₀:=X.base) I.ok.mod.kin hk (thn (ha pos pins s σ H _ I h) fun us s1 ⟨vs,H1,I1,r,q⟩=>⟨I1.kIn,?_⟩) he hpl
 exact jK F hr hb hd hx I1 r q
theorem zaM {pl:Sem Bool} (he:PE X o ta) (c:Cls X.K C) (hm:y6 X.K C m f) (F:zE X.prog X.w X.K X.mg X.base CX k f fd ps sp) (hr:z8 k X.A) (hb:zS X.K fd ps ds) (hd:zP dvs ds) (hx:xy CX X E) (ha:PA X (e :: es) t)
  (hst:starEach (e :: es) X.env = (false,eval e X.env) :: starEach es X.env:=by rfl) (hpl:(backTo pos (starEach es X.env)).any (·.1) = false:=by rfl)
  (ht:eval (.Call (.Attribute o m apos) (e :: es) [] pos) X.env = (do
   let ov <- eval o X.env
   standAt apos.atName
   let (f,first) <- holding [ov] (getMethod ov m pl)
   callWith pos f first (backTo pos (starEach (e :: es) X.env)) (backToKw pos (keywordEach [] X.env))):=by rfl) :
  PE X (.Call (.Attribute o m apos) (e :: es) [] pos) (zhr C m sp dvs E ta t):=by
 refine ⟨?_⟩
 intro pins s σ H Q I h
 refine methodCall_KW (pl:=pl) (thn (he pins s σ H _ I h) fun u s1 ⟨x,H1,I1,rx,a,dx,fs,ex,ea,l,q⟩=>?_) ht
 subst ex
 obtain rfl:u = Value.ref a:=rx
 refine wz I1 ea c hm l ?_
 refine callWith_K (first:=[.ref a]) (h₀:=X.base) I.ok.mod.kin hm.kp (thn (ha pos pins s1 σ H1 _ I1 q) fun us s2 ⟨vs,H2,I2,r,q2⟩=>⟨I2.kIn,?_⟩) hst hpl
 exact jK (us:=.ref a :: us) (vs:=.ref a :: vs) F hr hb hd hx I2 (.cons rfl r) q2
theorem yA {pl:Sem Bool} (he:PE X o ta) (c:Cls X.K C) (hm:y6 X.K C m f) (F:zE X.prog X.w X.K X.mg X.base CX k f fd ps sp) (hr:z8 k X.A) (hb:zS X.K fd ps ds) (hd:zP dvs ds) (hx:xy CX X E)
  (ht:eval (.Call (.Attribute o m apos) [] [] pos) X.env = (do
   let ov <- eval o X.env
   standAt apos.atName
   let (f,first) <- holding [ov] (getMethod ov m pl)
   callWith pos f first (backTo pos (starEach [] X.env)) (backToKw pos (keywordEach [] X.env))):=by rfl) :
  PE X (.Call (.Attribute o m apos) [] [] pos) (zhr C m sp dvs E ta zgj):=by
 refine ⟨?_⟩
 intro pins s σ H Q I h
 refine methodCall_KW (pl:=pl) (thn (he pins s σ H _ I h) fun u s1 ⟨x,H1,I1,rx,a,dx,fs,ex,ea,l,q⟩=>?_) ht
 subst ex
 obtain rfl:u = Value.ref a:=rx
 refine wz I1 ea c hm l ?_
 exact PySem.W.callWith_K0 (first:=[.ref a]) I1.kIn hm.kp (jK (us:=[.ref a]) (vs:=[.ref a]) F hr hb hd hx I1 (.cons rfl .nil) q)
structure Mk (K:Frag) (C f:Addr):Prop where
 makes:makesIn K C = true
 init:findIn K (.ref C) "__init__" = some (some (.ref f))
 fn:isFn K (.ref f) = true
 kp:keepIn K (.ref C) = true
theorem ze2 {pins:List (Addr × Obj)} {σ : St} {H:Hp} {s:Shared} {Q:VK} {us:List Value} {vs:List V} (M:Mk X.K C f) (F:zE X.prog X.w X.K X.mg X.base CX k f fd ps sp) (hr:z8 (k + 1) X.A) (hb:zS X.K fd ps ds) (hd:zP dvs ds)
  (hx:xy CX X E) (I:Inv X pins σ H s) (r:zP vs us)
  (h:∀ x dx,H x = none->H dx = none->dx ≠ x->sp (.ref x :: (vs ++ dvs)) (upd (upd H dx (.own x)) x (.ins C dx [])) (fun v H2=>v = .non/\Q (.ref x) H2) E) :
  wpAny (model X.prog X.w) X.A (call (.ref C) us) (EP X pins σ Q) X.xe s:=by
 have hq:=h (s.heap.objs.size + 1) s.heap.objs.size (I.hok.fresh (Nat.le_succ _)) (I.hok.fresh (Nat.le_refl _)) (Nat.ne_of_lt (Nat.lt_succ_self _))
 have I2:=Inv.made (C:=C) I
 have r2:zP (V.ref (s.heap.objs.size + 1) :: (vs ++ dvs)) (Value.ref (s.heap.objs.size + 1) :: (us ++ ds)):=.cons rfl (r.append hd)
 have hl:(Value.ref (s.heap.objs.size + 1) :: us ++ ds).length = ps.length:=by
  have e:=r2.length
  rw [F.len _ _ _ _ hq] at e
  exact e.symm
 refine wpAny_call (zfM (f:=f) I.kIn M.makes M.init (beq_iff_eq.mp M.fn) (codeAny_mono (F.run _ X.stack _ _ ⟨Value.ref (s.heap.objs.size + 1) :: us,[]⟩ (Value.ref (s.heap.objs.size + 1) :: (us ++ ds)) _ _ E (hr.make C us [])
  (I2.env0.make C us []) (hb _ (Value.ref (s.heap.objs.size + 1) :: us) I2.kIn hl) r2 hq) fun r s' hq'=>?_))
 cases r with
 | error e=>exact hx pins σ _ _ e s' I2 hq'
 | ok fl=>
  cases fl with
  | ret u=>
   obtain ⟨v,H',I3,rv,ev,q3⟩:=I2.after hq'
   subst ev
   exact ⟨rv,⟨V.ref (s.heap.objs.size + 1),H',I3,rfl,q3⟩⟩
  | next=>exact False.elim hq'
  | brk=>exact False.elim hq'
  | cont=>exact False.elim hq'
theorem zdm (M:Mk X.K C f) (F:zE X.prog X.w X.K X.mg X.base CX k f fd ps sp) (hr:z8 (k + 1) X.A) (hg:Gl X x) (hm:X.mg x = some (.ref C)) (hb:zS X.K fd ps ds) (hd:zP dvs ds) (hx:xy CX X E)
  (ha:PA X (e :: es) t) (hdb:(x == ("__debug__" : Str)) = false:=by decide) (he:starEach (e :: es) X.env = (false,eval e X.env) :: starEach es X.env:=by rfl) (hpl:(backTo pos (starEach es X.env)).any (·.1) = false:=by rfl) :
  PE X (.Call (.Name x p) (e :: es) [] pos) (zhs C sp dvs E t):=by
 refine ⟨?_⟩
 intro pins s σ H Q I h
 refine wpAny_Call_Name_kw (vg I hg hm ?_ hdb)
 refine callWith_K (h₀:=X.base) I.ok.mod.kin M.kp (thn (ha pos pins s σ H _ I h) fun us s1 ⟨vs,H1,I1,r,q⟩=>⟨I1.kIn,?_⟩) he hpl
 exact ze2 M F hr hb hd hx I1 r q
end
section
variable {X:Cx} {CX:CXT} {k:Nat} {f C:Addr} {fd:FuncData} {ps ks:List Str} {sp:Sp} {E:XK} {x m:Str} {p pos apos kpos:Pos} {e o:Expr} {es:List Expr} {kws:List Keyword} {te ta:TE} {t tk:TA} {nm:Option Str}
structure vI (K:Frag) (fd:FuncData) (ps ks:List Str) (g:List Value->List Value->List Value) (gV:List V->List V->List V):Prop where
 to:∀ (s:Shared) (us ws:List Value),K.In s.heap->(g us ws).length = ps.length->BindsTo s fd ⟨us,ks.zip ws⟩ (ps.zip (g us ws))
 rel:∀ {vs:List V} {us:List Value} {zs:List V} {ws:List Value},zP vs us->zP zs ws->zP (gV vs zs) (g us ws)
variable {g:List Value->List Value->List Value} {gV:List V->List V->List V}
end
structure zu (N P:List Str) (sc:Scope):Prop where
 kind:sc.kind = .function
 co:sc.isCoroutine = false
 gen:sc.isGenerator = false
 nd:N.Nodup
 pre:N.take P.length = P
 par:∀ x ∈ P,sc.names.lookup x = some .local\/sc.names.lookup x = some .cell
 nofree:∀ y ∈ sc.names,y.2 ≠ .free
theorem zak {kindOf:Str->Option NameKind} {x:Str}:∀ {binds:List (Str × Value)} {m:Str->Option Value},(∀ v,(x,v) ∉ binds)->bindL kindOf binds m x = m x
 | [],_,_=>rfl
 | (n,v) :: r,m,h=>by
  unfold bindL
  rw [zak fun w hw=>h w (List.mem_cons_of_mem _ hw)]
  split
  ·have:x ≠ n:=by rintro rfl; exact h v List.mem_cons_self
   simp [this]
  ·rfl
theorem zam {kindOf:Str->Option NameKind} {x:Str}:∀ {binds:List (Str × Value)} {m:Str->Option Value},(∀ v,(x,v) ∉ binds)->bindC kindOf binds m x = m x
 | [],_,_=>rfl
 | (n,v) :: r,m,h=>by
  unfold bindC
  rw [zam fun w hw=>h w (List.mem_cons_of_mem _ hw)]
  split
  ·rfl
  ·have:x ≠ n:=by rintro rfl; exact h v List.mem_cons_self
   simp [this]
theorem zal {kindOf:Str->Option NameKind} {x:Str} {v:Value}:∀ {P:List Str} {vs:List Value} {i:Nat} {m:Str->Option Value},P.Nodup->P[i]? = some x->vs[i]? = some v->kindOf x = some .local->
  bindL kindOf (P.zip vs) m x = some v
 | [],_,_,_,_,h,_,_=>by simp at h
 | _ :: _,[],_,_,_,_,h,_=>by simp at h
 | p :: P,w :: vs,0,m,nd,h1,h2,hk=>by
  simp at h1 h2; subst h1; subst h2
  show bindL kindOf ((p,w) :: P.zip vs) m p = _
  unfold bindL
  rw [zak fun v hv=>(List.nodup_cons.mp nd).1 (List.of_mem_zip hv).1,if_pos hk]
  simp
 | p :: P,w :: vs,i + 1,m,nd,h1,h2,hk=>by
  show bindL kindOf ((p,w) :: P.zip vs) m x = _
  unfold bindL
  exact zal (i:=i) (List.nodup_cons.mp nd).2 (by simpa using h1) (by simpa using h2) hk
theorem zan {kindOf:Str->Option NameKind} {x:Str} {v:Value}:∀ {P:List Str} {vs:List Value} {i:Nat} {m:Str->Option Value},P.Nodup->P[i]? = some x->vs[i]? = some v->kindOf x ≠ some .local->
  bindC kindOf (P.zip vs) m x = some v
 | [],_,_,_,_,h,_,_=>by simp at h
 | _ :: _,[],_,_,_,_,h,_=>by simp at h
 | p :: P,w :: vs,0,m,nd,h1,h2,hk=>by
  simp at h1 h2; subst h1; subst h2
  show bindC kindOf ((p,w) :: P.zip vs) m p = _
  unfold bindC
  rw [zam fun v hv=>(List.nodup_cons.mp nd).1 (List.of_mem_zip hv).1,if_neg hk]
  simp
 | p :: P,w :: vs,i + 1,m,nd,h1,h2,hk=>by
  show bindC kindOf ((p,w) :: P.zip vs) m x = _
  unfold bindC
  exact zan (i:=i) (List.nodup_cons.mp nd).2 (by simpa using h1) (by simpa using h2) hk
def wK (N:List Str) (vs:List V):St:=vs.map some ++ List.replicate (N.length - vs.length) none
def qa (CX:CXT) (P:Program) (w:World) (K:Frag) (mg:Str->Option Value) (base:Heap) (N:List Str) (qual:Str) (scope:Scope) (f:Addr) (cd:Value) (A:Around) (outer:List Env) (s:Shared) (H:Hp) (E:XK):Cx where
 prog:=P
 w:=w
 K:=K
 mg:=mg
 base:=base
 A:=A.deeper (envOfC qual scope s.heap.objs.size f cd)
 N:=N
 s₀:=s
 H₀:=H
 env:=envOfC qual scope s.heap.objs.size f cd
 outer:=outer
 stack:=envOfC qual scope s.heap.objs.size f cd :: outer
 ex:=[]
 calm:=true
 fn:=fun _=>true
 pn:=[]
 xe:=fun e s'=>wpAny (model P w) (A.deeper (envOfC qual scope s.heap.objs.size f cd)) (leaving (envOfC qual scope s.heap.objs.size f cd) e) (fun _ s''=>CX outer H s E e s'') (fun e' s''=>CX outer H s E e' s'') s'
theorem zbZ {sc:Scope} {n:Nat} {x:Str} (h:sc.names.lookup x = some .cell):∃ c,(cellsFrom n sc.names []).lookup x = some c:=by
 have q:=PySem.W.cellsFrom_some sc.names n [] (.inl h)
 exact Option.isSome_iff_exists.mp q
theorem zer {CX:CXT} {P:Program} {w:World} {K:Frag} {mg:Str->Option Value} {base:Heap} {N ps:List Str} {qual:Str} {scope:Scope} {f:Addr} {cd:Value} {A:Around} {outer:List Env} {s s1:Shared} {H:Hp} {E:XK} {us:List Value} {vs:List V}
  (S:zu N ps scope) (hd:A.handled = none) (e0:zc1 P w K mg base A outer s H) (hl:vs.length = ps.length) (r:zP vs us)
  (x:InCallC s s.heap.objs.size (bindL (envOfC qual scope s.heap.objs.size f cd).kindOf (ps.zip us) fun _=>none) (cellsFrom (s.heap.objs.size + 1) scope.names []) (bindC (envOfC qual scope s.heap.objs.size f cd).kindOf (ps.zip us) fun _=>none) s1) :
  Inv (qa CX P w K mg base N qual scope f cd A outer s H E) [] (wK N vs) H s1:=by
 have hpl:ps.length<=N.length:=by have:=congrArg List.length S.pre; rw [List.length_take] at this; omega
 obtain ⟨h1,tk,rfl,hk⟩:=x.done
 have noA:∀ b:Addr,b ∉ (qa CX P w K mg base N qual scope f cd A outer s H E).ex:=fun b z=>absurd (show b ∈ ([]:List Addr) from z) (by simp)
 refine ⟨⟨e0.mod,S.kind,rfl,rfl,Nat.le_refl _,fun y z c h1 h2=>?_,fun y hy=>?_,fun y c _ h=>?_,fun _=>hd,Around.frames_deeper e0.frames,.inr ⟨rfl,rfl⟩,fun b z=>absurd z (noA b),e0.bs,e0.bsz,fun b _ _=>noA b,fun b z=>absurd z (noA b),e0.funs,e0.frf⟩,
  rfl,e0.bare,Un.kept hk,⟨_,x.toInCall.ns,fun i y v h1 h2 h3=>?_⟩,fun y c h=>⟨_,x.cell y c h⟩,e0.hok.fresh (Nat.le_refl _),fun y c h=>?_,fun p hp=>absurd (show p ∈ ([]:List (Addr × Obj)) from hp) (by simp),e0.hok.kept hk,?_⟩
 ·exact name_of_addr x.apart (PySem.mem_of_lookup h1) (PySem.mem_of_lookup h2)
 ·have hy:scope.names.lookup y = some .cell\/scope.names.lookup y = some .free:=hy
  rcases hy with hy | hy
  ·exact zbZ hy
  ·exact absurd rfl (S.nofree _ (PySem.mem_of_lookup hy))
 ·exact Nat.le_of_lt (x.above y c (PySem.mem_of_lookup h))
 ·have hi:i < vs.length:=by
   unfold wK at h2
   by_cases hi:i < vs.length
   ·exact hi
   ·rw [List.getElem?_append_right (by simpa using hi)] at h2
    rw [List.getElem?_replicate] at h2
    split at h2 <;> cases h2
  have ha:vs[i]? = some v:=by
   unfold wK at h2
   rw [List.getElem?_append_left (by simpa using hi),List.getElem?_map] at h2
   cases e:vs[i]? with
   | none=>rw [e] at h2; cases h2
   | some a=>rw [e] at h2; cases h2; rfl
  obtain ⟨u,hu,rv⟩:=r.get ha
  have hp:ps[i]? = some y:=by
   rw [<- S.pre,List.getElem?_take_of_lt (by omega)]; exact h1
  have ndP:ps.Nodup:=by rw [<- S.pre]; exact S.nd.sublist (List.take_sublist _ _)
  refine ⟨u,rv,?_⟩
  rcases S.par y (List.mem_of_getElem? hp) with k | k
  ·exact .inl ⟨k,zal ndP hp hu k⟩
  ·obtain ⟨c,e⟩:=zbZ (n:=s.heap.objs.size + 1) k
   refine .inr ⟨.inl k,c,e,?_⟩
   have q:=x.cell y c e
   rw [zan ndP hp hu (by show scope.names.lookup y ≠ _; rw [k]; decide)] at q
   exact q
 ·exact e0.hok.fresh (Nat.le_of_lt (x.above y c (PySem.mem_of_lookup h)))
 ·unfold wK
  show _ = N.length
  rw [List.length_append,List.length_map,List.length_replicate]
  omega
theorem zdB {CX:CXT} {P:Program} {w:World} {K:Frag} {mg:Str->Option Value} {base:Heap} {k:Nat} {f:Addr} {name qual:Str} {params:Arguments} {body:List Stmt} {scope:Scope} {dV kV doc pm cdv ct oc:Value} {an od:Option Addr}
  {osl:Array (Option Value)} {N ps:List Str} {sp:Sp} (lk:K.lookup f = some ⟨oc,od,.func (fnOf name qual params body scope dV kV doc pm an cdv ct),osl⟩) (hcd:codeIn K cdv qual = true) (S:zu N ps scope)
  (len:∀ vs H Q E,sp vs H Q E->vs.length = ps.length)
  (hbody:∀ (A:Around) (outer:List Env) (s:Shared) (H:Hp) (vs:List V) (Q:VK) (E:XK),z8 k (A.deeper (envOfC qual scope s.heap.objs.size f cdv))->sp vs H Q E->
   ∃ t,PSs (qa CX P w K mg base N qual scope f cdv A outer s H E) body t/\t { nx:=fun _ H'=>Q .non H',rt:=Q } (wK N vs) H) :
  zE P w K mg base CX (k + 1) f (fnOf name qual params body scope dV kV doc pm an cdv ct) ps sp:=by
 refine ⟨len,fun A outer s H args us vs Q E hr e0 hb r hsp=>?_⟩
 have hl:=len _ _ _ _ hsp
 have KX:K.In s.heap:=e0.mod.kin.keeps fun b o e=>(e0.bs b o e).1
 have lim:s.heap.NoLimit:=e0.mod.nolimit.keeps fun b o e=>(e0.bs b o e).1
 have hkind:∀ y ∈ ps.zip us,scope.names.lookup y.1 = some .local\/(scope.names.lookup y.1 = some .cell/\((cellsFrom (s.heap.objs.size + 1) scope.names []).lookup y.1).isSome = true):=fun ⟨n,v⟩ hy=>by
  rcases S.par n (List.of_mem_zip hy).1 with q | q
  ·exact .inl q
  ·exact .inr ⟨q,PySem.W.cellsFrom_some _ _ _ (.inl q)⟩
 refine codeAny_call_function hr.depth (KX _ _ lk) rfl S.co S.gen rfl (PySem.W.codeRec_of KX hcd) (hb _ _ _ _ ?_)
 refine wpAny_newFunctionEnv_cells S.kind hkind fun env he s1 x=>?_
 subst he
 refine ⟨lim.keeps x.toInCall.keep,codeAny_func ?_⟩
 obtain ⟨t,ht,hq⟩:=hbody A outer s H vs Q E (hr.deeper _) hsp
 have I:Inv (qa CX P w K mg base N qual scope f cdv A outer s H E) [] (wK N vs) H s1:=zer S hr.hd e0 hl r x
 refine wpAny_mono (ht [] s1 (wK N vs) H _ I hq) (fun fl s' hs=>?_) fun e s' hs=>hs
 have fin:∀ {σ':St} {H':Hp} {v:V} {u:Value},Inv (qa CX P w K mg base N qual scope f cdv A outer s H E) [] σ' H' s'->zN v u->Q v H'->CE outer P w H s Q u s':=
  fun {σ' H' v u} J rv q=>⟨v,H',J.os,J.bare,J.base,J.hok,rv,q⟩
 cases fl with
 | ret u=>
  obtain ⟨v,σ',H',J,rv,q⟩:=hs
  exact fin J rv q
 | next=>
  obtain ⟨σ',H',J,q⟩:=hs
  exact fin (v:=V.non) (u:=Value.none) J rfl q
 | brk=>
  obtain ⟨_,_,_,q⟩:=hs
  exact False.elim q
 | cont=>
  obtain ⟨_,_,_,q⟩:=hs
  exact False.elim q
section
variable {X:Cx} {x:Str} {p pos:Pos} {e:Expr} {es:List Expr} {t:TA} {id T:String} {r:List V->Hp->VK->Prop}
def tCB (r:List V->Hp->VK->Prop) (t:TA):TE:=fun σ H Q=>t σ H fun vs H1=>r vs H1 Q
theorem zfi (hc:y1 X (.builtin id) r) (hg:Gl X x) (hm:X.mg x = none) (hv:bootBuiltins x = some (.builtin id)) (ha:PA X (e :: es) t) (hn:x ≠ "__name__":=by decide) (hdb:(x == ("__debug__" : Str)) = false:=by decide)
  (he:starEach (e :: es) X.env = (false,eval e X.env) :: starEach es X.env:=by rfl) (hpl:(backTo pos (starEach es X.env)).any (·.1) = false:=by rfl):PE X (.Call (.Name x p) (e :: es) [] pos) (tCB r t):=by
 refine ⟨?_⟩
 intro pins s σ H Q I h
 refine wpAny_Call_Name_kw (wR I hg hm hv ?_ hn hdb)
 exact PyProof.Rows.callWith_builtin1 (thn (ha pos pins s σ H _ I h) fun us s1 ⟨vs,H1,I1,r1,q1⟩=>hc pins s1 σ H1 vs us Q I1 r1 q1) he hpl
theorem zd5 (hc:y1 X (.type T) r) (hg:Gl X x) (hm:X.mg x = none) (hv:bootBuiltins x = some (.type T)) (ha:PA X (e :: es) t) (hn:x ≠ "__name__":=by decide) (hdb:(x == ("__debug__" : Str)) = false:=by decide)
  (he:starEach (e :: es) X.env = (false,eval e X.env) :: starEach es X.env:=by rfl) (hpl:(backTo pos (starEach es X.env)).any (·.1) = false:=by rfl):PE X (.Call (.Name x p) (e :: es) [] pos) (tCB r t):=by
 refine ⟨?_⟩
 intro pins s σ H Q I h
 refine wpAny_Call_Name_kw (wR I hg hm hv ?_ hn hdb)
 exact PyProof.Rows.callWith_type1 (thn (ha pos pins s σ H _ I h) fun us s1 ⟨vs,H1,I1,r1,q1⟩=>hc pins s1 σ H1 vs us Q I1 r1 q1) he hpl
theorem zcq (hc:y1 X (.type T) r) (hg:Gl X x) (hm:X.mg x = none) (hv:bootBuiltins x = some (.type T)) (hn:x ≠ "__name__":=by decide) (hdb:(x == ("__debug__" : Str)) = false:=by decide) :
  PE X (.Call (.Name x p) [] [] pos) (tCB r zgj):=by
 refine ⟨?_⟩
 intro pins s σ H Q I h
 refine wpAny_Call_Name_kw (wR I hg hm hv ?_ hn hdb)
 exact PyProof.Rows.callWith_type0 (hc pins s σ H [] [] Q I .nil h)
end
end L2
namespace HT
open PySem PyProof.Rows
section
open PySem.SeqAt
open PySem.AutoSeq1 (wpAny_loadPart')
open PySem.MeetsSeq PySem.MeetsSeq2 PySem.MeetsSeq3
end
section
variable {prog:Program} {w:World} {A:Around} {E:Value->Shared->Prop} {s:Shared}
def sIx (n d:Nat):Option Int->Nat
 | none=>d
 | some v=>if v < 0 then (v + (n:Int)).toNat else min v.toNat n
theorem zi9 (n d:Nat):sIx n d none = d:=rfl
theorem zjL (n d k:Nat):sIx n d (some (k:Int)) = min k n:=by
 show (if (k:Int) < 0 then ((k:Int) + (n:Int)).toNat else min (k:Int).toNat n) = min k n
 rw [if_neg (by omega),Int.toNat_natCast]
end
end HT
namespace L2
open PySem PySem.Spec PyProof.Rows
abbrev TO:=St->Hp->(Option Int->Hp->Prop)->Prop
structure PO (X:Cx) (e:Option Expr) (t:TO):Prop where
 run:∀ (pins:List (Addr × Obj)) (s:Shared) (σ : St) (H:Hp) (Q:Option Int->Hp->Prop),Inv X pins σ H s->t σ H Q->
  wpAny (model X.prog X.w) X.A (evalPart e X.env) (fun u s'=>∃ o H',Inv X pins σ H' s'/\IsPart u o/\Q o H') X.xe s
instance {X:Cx} {e:Option Expr} {t:TO}:CoeFun (PO X e t) (fun _=>∀ (pins:List (Addr × Obj)) (s:Shared) (σ : St) (H:Hp) (Q:Option Int->Hp->Prop),Inv X pins σ H s->t σ H Q->
  wpAny (model X.prog X.w) X.A (evalPart e X.env) (fun u s'=>∃ o H',Inv X pins σ H' s'/\IsPart u o/\Q o H') X.xe s):=⟨PO.run⟩
def zgi:TO:=fun _ H Q=>Q none H
def ziV (t:TE):TO:=fun σ H Q=>t σ H fun x H1=>∃ i,x = .int i/\Q (some i) H1
section
variable {X:Cx} {e:Expr} {te:TE} {lo hi:Option Expr} {tl th:TO} {pos p2:Pos}
theorem yx:PO X none zgi:=by
 refine ⟨?_⟩
 intro pins s σ H Q I h
 rw [evalPart_none]
 exact wpAny_pure ⟨none,H,I,.none,h⟩
theorem yn (h:PE X e te):PO X (some e) (ziV te):=by
 refine ⟨?_⟩
 intro pins s σ H Q I hw
 rw [evalPart_some]
 refine thn (h pins s σ H _ I hw) fun u s1 ⟨x,H1,I1,r1,q1⟩=>?_
 obtain ⟨i,rfl,q⟩:=q1
 obtain ⟨t,rfl⟩:=r1
 exact ⟨some i,H1,I1,.int i t,q⟩
def SlR (X:Cx) (r:V->Option Int->Option Int->Hp->VK->Prop):Prop:=
 ∀ (pins:List (Addr × Obj)) (s:Shared) (σ : St) (H:Hp) (x:V) (v vl vu:Value) (lo hi:Option Int) (sl:Addr) (Q:VK),Inv X pins σ H s->zN x v->s.heap.IsSliceOf sl vl vu .none->IsPart vl lo->IsPart vu hi->r x lo hi H Q->
  ∃ T id,typeLookup (.type T) "__getitem__" = pure (some (.builtin id))/\s.TypeIs v T/\wpAny (model X.prog X.w) X.A (getItem v (.ref sl)) (EP X pins σ Q) X.xe s
def tSl (r:V->Option Int->Option Int->Hp->VK->Prop) (te:TE) (tl th:TO):TE:=fun σ H Q=>te σ H fun x H1=>tl σ H1 fun l H2=>th σ H2 fun u H3=>r x l u H3 Q
theorem z9 {r:V->Option Int->Option Int->Hp->VK->Prop} (hr:SlR X r) (he:PE X e te) (hl:PO X lo tl) (hu:PO X hi th):PE X (.Subscript e (.Slice lo hi none p2) pos) (tSl r te tl th):=by
 refine ⟨?_⟩
 intro pins s σ H Q I h
 refine Subscript_ (thn (he pins s σ H _ I h) fun v s1 ⟨x,H1,I1,r1,q1⟩=>?_)
 refine wpAny_Slice (thn (hl pins s1 σ H1 _ I1 q1) fun vl s2 ⟨l,H2,I2,pl,q2⟩=>thn (hu pins s2 σ H2 _ I2 q2) fun vu s3 ⟨u,H3,I3,pu,q3⟩=>?_)
 rw [evalPart_none]
 refine wpAny_pure ?_
 have I4:Inv X pins σ H3 { s3 with heap:=s3.heap.push { cls:=.type "slice",data:=.fields #[vl,vu,.none] } }:=I3.kept (t':=s3.toks) fun b ob q=>Heap.get?_push_of_some _ q
 obtain ⟨T,id,hT,ht,hg⟩:=hr pins { s3 with heap:=s3.heap.push { cls:=.type "slice",data:=.fields #[vl,vu,.none] } } σ H3 x v vl vu l u s3.heap.objs.size Q I4 r1 (Heap.IsSliceOf.new ..) pl pu q3
 show wpAny (model X.prog X.w) X.A (subscriptTail e (.Slice lo hi none p2) v (.ref s3.heap.objs.size)) (EP X pins σ Q) X.xe { s3 with heap:=s3.heap.push { cls:=.type "slice",data:=.fields #[vl,vu,.none] } }
 exact tail_any (ops:=[.ref s3.heap.objs.size,v]) ht hT hg (by with_unfolding_all rfl)
def xV (xs:List V) (lo hi:Option Int):List V:=(xs.drop (HT.sIx xs.length 0 lo)).take (HT.sIx xs.length xs.length hi - HT.sIx xs.length 0 lo)
theorem zbV (xs:List V) (lo hi:Option Int):(xV xs lo hi).length<=xs.length:=by
 unfold xV
 rw [List.length_take,List.length_drop]
 omega
end
def ixN (n:Nat) (i:Int):Option Nat:=if 0<=i then (if i < n then some i.toNat else none) else if -(n:Int)<=i then some (i + n).toNat else none
def atI {α : Type} (xs:List α) (i:Int):Option α:=(ixN xs.length i).bind fun j=>xs[j]?
theorem zg6 {n:Nat} {i:Int} {j:Nat} (h:ixN n i = some j):seqIndex? i n = some j/\j < n/\-(n:Int)<=i/\i < n:=by
 unfold ixN at h
 by_cases h0 : 0<=i
 ·rw [if_pos h0] at h
  by_cases h1:i < n
  ·rw [if_pos h1] at h
   have e:i.toNat = j:=Option.some.inj h
   exact ⟨by rw [seqIndex_of h0 h1,e],by omega,by omega,h1⟩
  ·rw [if_neg h1] at h; cases h
 ·rw [if_neg h0] at h
  by_cases h1 : -(n:Int)<=i
  ·rw [if_pos h1] at h
   have e:(i + n).toNat = j:=Option.some.inj h
   exact ⟨by rw [seqIndex_neg (by omega) h1,e],by omega,h1,by omega⟩
  ·rw [if_neg h1] at h; cases h
theorem za5 {α : Type} {xs:List α} {i:Int} {v : α} (h:atI xs i = some v):∃ j,seqIndex? i xs.length = some j/\xs[j]? = some v/\j < xs.length/\-(xs.length:Int)<=i/\i < xs.length:=by
 unfold atI at h
 cases e:ixN xs.length i with
 | none=>rw [e] at h; cases h
 | some j=>
  rw [e] at h
  obtain ⟨h1,h2,h3,h4⟩:=zg6 e
  exact ⟨j,h1,h,h2,h3,h4⟩
theorem xf {α : Type} {xs:List α} {j:Nat} {v : α} (h:xs[j]? = some v):atI xs (j:Int) = some v:=by
 have hj:j < xs.length:=(List.getElem?_eq_some_iff.mp h).1
 have e:ixN xs.length (j:Int) = some j:=by
  unfold ixN
  rw [if_pos (by omega),if_pos (by omega)]; simp
 unfold atI; rw [e]; exact h
def zho (b:Expr):Prop:=∀ o i,subscripted b false o i = operate [o,i] (getItem o i)
def IxR (X:Cx) (r:R2):Prop:=
 ∀ (value slice:Expr) (pins:List (Addr × Obj)) (s:Shared) (σ : St) (H:Hp) (x y:V) (v u:Value) (Q:VK),Inv X pins σ H s->zN x v->zN y u->r x y H Q->
  subscripted slice false v u = operate [v,u] (getItem v u)->wpAny (model X.prog X.w) X.A (subscriptTail value slice v u) (EP X pins σ Q) X.xe s
def MtR (X:Cx) (id:String) (r:V->List V->Hp->VK->Prop):Prop:=
 ∀ (pins:List (Addr × Obj)) (s:Shared) (σ : St) (H:Hp) (x:V) (xs:List V) (v:Value) (us:List Value) (Q:VK),Inv X pins σ H s->zN x v->zP xs us->r x xs H Q->
  wpAny (model X.prog X.w) X.A (call (.builtin id) (v :: us)) (EP X pins σ Q) X.xe s
section
variable {X:Cx} {a b:Expr} {ta tb:TE} {pos:Pos}
theorem zy {r:R2} (hr:IxR X r) (ha:PE X a ta) (hb:PE X b tb) (hs:zho b):PE X (.Subscript a b pos) (tOp r ta tb):=by
 refine ⟨?_⟩
 intro pins s σ H Q I h
 exact Subscript_ (ziK ha hb I h fun v u s2 x y H2 I2 rx ry q=>hr a b pins s2 σ H2 x y v u Q I2 rx ry q (hs _ _))
def zjd (K:Frag):R2:=fun x y H Q=>∃ p xs i v,x = .ref p/\y = .int i/\SqL K H p xs/\atI xs i = some v/\Q v H
def uP (K:Frag):R2:=fun x y H Q=>∃ p xs i v,x = .ref p/\y = .int i/\SqT K H p xs/\atI xs i = some v/\Q v H
def zj1:R2:=fun x y H Q=>∃ z i c,x = .str z/\y = .int i/\z.length<=sizeLine/\atI z.cps.toList i = some c/\Q (.str ⟨#[c]⟩) H
theorem xr:IxR X (zjd X.K):=by
 intro value slice pins s σ H x y v u Q I rx ry h hs
 obtain ⟨p,xs,i,z,rfl,rfl,hq,he,q⟩:=h
 cases rx
 obtain ⟨t,rfl⟩:=ry
 obtain ⟨its,r,pl,hz⟩:=I.list hq
 obtain ⟨j,h1,h2,h3,h4,h5⟩:=za5 he
 obtain ⟨w,ew,rw'⟩:=r.get h2
 have hl:=r.length
 have hn:=uW
 have fin:EP X pins σ Q w s:=⟨z,H,I,rw',q⟩
 by_cases h0 : 0<=i
 ·have hj:i.toNat = j:=by
   rw [seqIndex_of h0 h5] at h1
   exact Option.some.inj h1
  exact item_listR pl.isList h0 (by omega) (by rw [hj]; simpa using ew) fin hs
 ·have hj:(i + (its.toArray.size:Int)).toNat = j:=by
   rw [seqIndex_neg (by omega) h4] at h1
   rw [List.size_toArray,<- hl]
   exact Option.some.inj h1
  exact subscriptTail_builtinR (x:=w) pl.isList.typeIs slot_list_getitem.lookup
   (wpAny_getItem_list_neg (Q:=fun r s'=>r = w/\EP X pins σ Q r s') pl.isList (by omega) (by rw [List.size_toArray] <;> omega) (by omega) (by rw [hj]; simpa using ew) ⟨rfl,fin⟩) hs
theorem zr:IxR X (uP X.K):=by
 intro value slice pins s σ H x y v u Q I rx ry h hs
 obtain ⟨p,xs,i,z,rfl,rfl,hq,he,q⟩:=h
 cases rx
 obtain ⟨t,rfl⟩:=ry
 obtain ⟨its,r,pl,hz⟩:=I.tuple hq
 obtain ⟨j,h1,h2,h3,h4,h5⟩:=za5 he
 obtain ⟨w,ew,rw'⟩:=r.get h2
 have hl:=r.length
 have hn:=uW
 have fin:EP X pins σ Q w s:=⟨z,H,I,rw',q⟩
 exact subscriptTail_builtinR (x:=w) pl.typeIs slot_tuple_getitem.lookup
  (getItem_tuple (j:=j) (Q:=fun r s'=>r = w/\EP X pins σ Q r s') pl (by omega) (by omega) (by rw [List.size_toArray,<- hl]; exact h1) (by simpa using ew) ⟨rfl,fin⟩) hs
theorem zix:IxR X zj1:=by
 intro value slice pins s σ H x y v u Q I rx ry h hs
 obtain ⟨z,i,c,rfl,rfl,hz,he,q⟩:=h
 obtain ⟨t,rfl⟩:=rx
 obtain ⟨t',rfl⟩:=ry
 obtain ⟨j,h1,h2,h3,h4,h5⟩:=za5 he
 have hl:z.cps.toList.length = z.length:=by simp [Str.length]
 rw [hl] at h1 h4 h5
 have hn:=uW
 exact tail_any (typeIs_str s z t) slot_str_getitem.lookup (getItem_str (c:=c) (by
  have e1:decide (i < -(2 ^ 63:Int)) = false:=decide_eq_false (by omega)
  have e2:decide (i>=2 ^ 63) = false:=decide_eq_false (by omega)
  rw [e1,e2,Bool.or_false]) (by rw [h1]; simpa using h2) ⟨.str ⟨#[c]⟩,H,I.tok _,⟨_,rfl⟩,q⟩) hs
theorem zaG (lo hi:Option Int) (n:Nat):(sliceBounds lo hi none n).1 = ((HT.sIx n 0 lo:Nat):Int)/\(sliceBounds lo hi none n).2.1 = ((HT.sIx n n hi:Nat):Int)/\(sliceBounds lo hi none n).2.2 = 1:=by
 refine ⟨?_,?_,rfl⟩
 ·cases lo with
  | none=>simp [sliceBounds,HT.sIx]
  | some i=>
   simp only [sliceBounds,HT.sIx,Option.getD_none,show (1:Int) > 0 by decide,if_true]
   by_cases h:i < 0
   ·simp only [h,if_true] <;> omega
   ·simp only [h,if_false] <;> omega
 ·cases hi with
  | none=>simp [sliceBounds,HT.sIx]
  | some i=>
   simp only [sliceBounds,HT.sIx,Option.getD_none,show (1:Int) > 0 by decide,if_true]
   by_cases h:i < 0
   ·simp only [h,if_true] <;> omega
   ·simp only [h,if_false] <;> omega
theorem qj (its:List Value) (lo hi:Option Int):slicePick its.toArray lo hi none = ((its.drop (HT.sIx its.length 0 lo)).take (HT.sIx its.length its.length hi - HT.sIx its.length 0 lo)).toArray:=by
 obtain ⟨h1,h2,h3⟩:=zaG lo hi its.toArray.size
 unfold slicePick
 rw [h1,h2,h3]
 simp only [sliceRange_one,pick_run,List.size_toArray] <;> rfl
def zjZ (K:Frag):V->Option Int->Option Int->Hp->VK->Prop:=fun x lo hi H Q=>∃ a xs,x = .ref a/\SqL K H a xs/\∀ p,H p = none->Q (.ref p) (upd H p (.lst (xV xs lo hi)))
theorem yw:SlR X (zjZ X.K):=by
 intro pins s σ H x v vl vu lo hi sl Q I rx hs pl pu h
 obtain ⟨a,xs,rfl,hx,q⟩:=h
 cases rx
 obtain ⟨its,r,ht,hz⟩:=I.list hx
 have hlen:=r.length
 refine ⟨"list",_,slot_list_getitem.lookup,ht.isList.typeIs,?_⟩
 refine wpAny_getItem_list_slice ht.isList hs pl pu .none (by simp) ?_ (by rw [List.size_toArray] <;> omega)
 rw [qj,<- hlen]
 refine ⟨.ref s.heap.objs.size,_,I.laid (t':=s.toks) (o:=.lst (xV xs lo hi)) (fun b ob q=>Heap.get?_push_of_some _ q) (Nat.le_refl _) ?_,rfl,q _ (I.hok.fresh (Nat.le_refl _))⟩
 exact ⟨Nat.le_trans (zbV xs lo hi) hz,_,0,(r.drop (HT.sIx xs.length 0 lo)).take (HT.sIx xs.length xs.length hi - HT.sIx xs.length 0 lo),Heap.get?_push_size _ rfl⟩
def xE:V->Bool
 | .non=>true
 | .bl _=>true
 | .int _=>true
 | .str _=>true
 | _=>false
def eqV:V->V->Bool
 | .non,.non=>true
 | .bl a,.bl b=>a == b
 | .bl a,.int b=>(if a then 1 else 0) == b
 | .int a,.bl b=>a == (if b then 1 else 0)
 | .int a,.int b=>a == b
 | .str a,.str b=>a == b
 | _,_=>false
theorem zf4 {A:Around} {s:Shared} {y x:V} {u v:Value} (ry:zN y u) (rx:zN x v) (fy:xE y = true) (fx:xE x = true):SeqAt.EqAt A s u v (eqV y x):=by
 cases y with
 | non=>
  cases ry
  cases x with
  | non=>cases rx; exact SeqAt.EqAt.same _
  | bl b=>cases rx; exact SeqAt.EqAt.none_bool b
  | int b=>obtain ⟨t,rfl⟩:=rx; exact SeqAt.EqAt.none_int b t
  | str b=>obtain ⟨t,rfl⟩:=rx; exact SeqAt.EqAt.none_str b t
  | _=>exact absurd (show false = true from fx) Bool.false_ne_true
 | bl a=>
  cases ry
  cases x with
  | non=>cases rx; exact SeqAt.EqAt.bool_none a
  | bl b=>cases rx; exact SeqAt.EqAt.bool_bool a b
  | int b=>obtain ⟨t,rfl⟩:=rx; exact SeqAt.EqAt.bool_int a b t
  | str b=>obtain ⟨t,rfl⟩:=rx; exact SeqAt.EqAt.bool_str a b t
  | _=>exact absurd (show false = true from fx) Bool.false_ne_true
 | int a=>
  obtain ⟨t',rfl⟩:=ry
  cases x with
  | non=>cases rx; exact SeqAt.EqAt.int_none a t'
  | bl b=>cases rx; exact SeqAt.EqAt.int_bool a t' b
  | int b=>obtain ⟨t,rfl⟩:=rx; exact SeqAt.EqAt.int_int a t' b t
  | str b=>obtain ⟨t,rfl⟩:=rx; exact SeqAt.EqAt.int_str a t' b t
  | _=>exact absurd (show false = true from fx) Bool.false_ne_true
 | str a=>
  obtain ⟨t',rfl⟩:=ry
  cases x with
  | non=>cases rx; exact SeqAt.EqAt.str_none a t'
  | bl b=>cases rx; exact SeqAt.EqAt.str_bool a t' b
  | int b=>obtain ⟨t,rfl⟩:=rx; exact SeqAt.EqAt.str_int a t' b t
  | str b=>obtain ⟨t,rfl⟩:=rx; exact SeqAt.EqAt.str_str a t' b t
  | _=>exact absurd (show false = true from fx) Bool.false_ne_true
 | _=>exact absurd (show false = true from fy) Bool.false_ne_true
def eqU (x:V) (u:Value):Bool:=match u with
 | .none=>eqV .non x
 | .bool b=>eqV (.bl b) x
 | .int i _=>eqV (.int i) x
 | .str z _=>eqV (.str z) x
 | _=>false
theorem zf3 {x y:V} {u:Value} (r:zN y u) (f:xE y = true):eqU x u = eqV y x:=by
 cases y with
 | non=>cases r; rfl
 | bl b=>cases r; rfl
 | int i=>obtain ⟨t,rfl⟩:=r; rfl
 | str z=>obtain ⟨t,rfl⟩:=r; rfl
 | _=>exact absurd (show false = true from f) Bool.false_ne_true
theorem ul {x:V}:∀ {xs:List V} {us:List Value},zP xs us->xs.all xE = true->us.any (eqU x) = xs.any fun y=>eqV y x
 | _,_,.nil,_=>rfl
 | y :: xs,u :: us,.cons r t,f=>by
  rw [List.all_cons,Bool.and_eq_true] at f
  rw [List.any_cons,List.any_cons,zf3 r f.1,ul t f.2]
theorem wQ {A:Around} {s:Shared} {x:V} {v:Value} (rx:zN x v) (fx:xE x = true):∀ {xs:List V} {us:List Value},zP xs us->xs.all xE = true->∀ u ∈ us,SeqAt.EqAt A s u v (eqU x u)
 | _,_,.nil,_=>fun u hu=>by cases hu
 | y :: xs,u :: us,.cons r t,f=>fun u' hu=>by
  rw [List.all_cons,Bool.and_eq_true] at f
  rcases List.mem_cons.mp hu with rfl | hu
  ·rw [zf3 r f.1]; exact zf4 r rx f.1 fx
  ·exact wQ rx fx t f.2 u' hu
def inV (x:V) (xs:List V):Bool:=xs.any fun y=>eqV y x
def rIn (K:Frag) (neg:Bool):R2:=fun x y H Q=>∃ p xs,y = .ref p/\(SqL K H p xs\/SqT K H p xs)/\xE x = true/\xs.all xE = true/\Q (.bl (if neg then !inV x xs else inV x xs)) H
theorem zU:OpR X (compareOp .In) (rIn X.K false):=by
 intro pins s σ H x y v u Q I rx ry h
 obtain ⟨p,xs,rfl,hq,fx,fs,q⟩:=h
 cases ry
 rcases hq with hq | hq
 ·obtain ⟨its,r,pl,hz⟩:=I.list hq
  refine SeqAt.in_listAt (eqU x) pl.isList (fun w hw=>wQ rx fx r fs w (by simpa using hw)) ⟨.bl _,H,I,rfl,?_⟩
  rw [show its.toArray.any (eqU x) = its.any (eqU x) by simp,ul r fs]
  exact q
 ·obtain ⟨its,r,pl,hz⟩:=I.tuple hq
  refine SeqAt.in_tupleAt (eqU x) pl (fun w hw=>wQ rx fx r fs w (by simpa using hw)) ⟨.bl _,H,I,rfl,?_⟩
  rw [show its.toArray.any (eqU x) = its.any (eqU x) by simp,ul r fs]
  exact q
theorem vY:OpR X (compareOp .NotIn) (rIn X.K true):=by
 intro pins s σ H x y v u Q I rx ry h
 obtain ⟨p,xs,rfl,hq,fx,fs,q⟩:=h
 cases ry
 rcases hq with hq | hq
 ·obtain ⟨its,r,pl,hz⟩:=I.list hq
  refine SeqAt.notIn_listAt (eqU x) pl.isList (fun w hw=>wQ rx fx r fs w (by simpa using hw)) ⟨.bl _,H,I,rfl,?_⟩
  rw [show its.toArray.any (eqU x) = its.any (eqU x) by simp,ul r fs]
  exact q
 ·obtain ⟨its,r,pl,hz⟩:=I.tuple hq
  refine SeqAt.notIn_tupleAt (eqU x) pl (fun w hw=>wQ rx fx r fs w (by simpa using hw)) ⟨.bl _,H,I,rfl,?_⟩
  rw [show its.toArray.any (eqU x) = its.any (eqU x) by simp,ul r fs]
  exact q
theorem zB:y1 X (.builtin "len") (fun xs H Q=>∃ p ys,xs = [.ref p]/\(SqL X.K H p ys\/SqT X.K H p ys)/\Q (.int ys.length) H):=by
 intro pins s σ H xs us Q I r h
 obtain ⟨p,ys,rfl,hq,q⟩:=h
 obtain ⟨u,rfl,rx⟩:=wB r
 cases rx
 have hn:=uW
 rcases hq with hq | hq
 ·obtain ⟨its,r',pl,hz⟩:=I.list hq
  have hlen:=r'.length
  exact Calls.call_len_list pl.isList (by simp only [List.size_toArray] <;> omega) ⟨.int ys.length,H,I.tok _,⟨s.toks + 1,by rw [List.size_toArray,hlen]⟩,q⟩
 ·obtain ⟨its,r',pl,hz⟩:=I.tuple hq
  have hlen:=r'.length
  exact len_tuple pl (by simp only [List.size_toArray] <;> omega) ⟨.int ys.length,H,I.tok _,⟨s.toks + 1,by rw [List.size_toArray,hlen]⟩,q⟩
theorem za2:y1 X (.builtin "len") (fun xs H Q=>∃ z,xs = [.str z]/\z.length<=sizeLine/\Q (.int z.length) H):=by
 intro pins s σ H xs us Q I r h
 obtain ⟨z,rfl,hz,q⟩:=h
 obtain ⟨u,rfl,t,rfl⟩:=wB r
 have hn:=uW
 exact len_str (by omega) ⟨.int z.length,H,I.tok _,⟨_,rfl⟩,q⟩
theorem yF:y1 X (.type "list") (fun xs H Q=>∃ p ys,xs = [.ref p]/\(SqL X.K H p ys\/SqT X.K H p ys)/\∀ l,H l = none->Q (.ref l) (upd H l (.lst ys))):=by
 intro pins s σ H xs us Q I r h
 obtain ⟨p,ys,rfl,hq,q⟩:=h
 obtain ⟨u,rfl,rx⟩:=wB r
 cases rx
 have fin:∀ (its:List Value),zP ys its->ys.length<=sizeLine->∀ (h':Heap) (c':Nat),(∀ b o',s.heap.get? b = some o'->h'.get? b = some o')->
   h'.get? s.heap.objs.size = some { cls:=.type "list",dict:=none,data:=.seq its.toArray c',slots:=#[] }->EP X pins σ Q (.ref s.heap.objs.size) { s with heap:=h' }:=fun its r' hz h' c' kp e=>
  ⟨.ref s.heap.objs.size,_,I.laid (t':=s.toks) kp (Nat.le_refl _) (show yi X.prog X.w _ h' _ (.lst ys) from ⟨hz,its,c',r',e⟩),rfl,q _ (I.hok.fresh (Nat.le_refl _))⟩
 rcases hq with hq | hq
 ·obtain ⟨its,r',pl,hz⟩:=I.list hq
  have hlen:=r'.length
  obtain ⟨o,ho,hc,n,hd⟩:=pl.isList
  exact call_list_seq p (.inl rfl) ho hc hd (fun h' c' kp e=>fin its r' hz h' c' kp e) (by simp only [List.size_toArray] <;> omega)
 ·obtain ⟨its,r',pl,hz⟩:=I.tuple hq
  have hlen:=r'.length
  obtain ⟨o,ho,hc,n,hd⟩:=pl
  exact call_list_seq p (.inr rfl) ho hc hd (fun h' c' kp e=>fin its r' hz h' c' kp e) (by simp only [List.size_toArray] <;> omega)
def tyV (K:Frag) (T:String) (x:V) (H:Hp):Prop:=match x with
 | .str _=>T = "str"
 | .int _=>T = "int"
 | .ref p=>(T = "list"/\∃ xs,SqL K H p xs)\/(T = "tuple"/\∃ o,K.lookup p = some o/\o.cls = .type "tuple"/\o.dict = none)\/
   (T = "dict"/\((∃ kvs,H p = some (.dK kvs))\/∃ kvs,H p = some (.dT kvs)))\/(T = "set"/\∃ S n,H p = some (.set S n))
 | _=>False
theorem zhG {pins:List (Addr × Obj)} {σ : St} {H:Hp} {s:Shared} {T:String} {x:V} {v:Value} (I:Inv X pins σ H s) (r:zN x v) (ty:tyV X.K T x H) :
  s.TypeIs v T/\∀ a,v = .ref a->∃ ob,s.heap.get? a = some ob/\ob.dict = none:=by
 cases x with
 | str z=>
  obtain ⟨t,rfl⟩:=r
  cases (show T = "str" from ty)
  exact ⟨typeIs_str s z t,fun _ e=>nomatch e⟩
 | int i=>
  obtain ⟨t,rfl⟩:=r
  cases (show T = "int" from ty)
  exact ⟨typeIs_int s i t,fun _ e=>nomatch e⟩
 | ref p=>
  cases r
  rcases ty with ⟨rfl,xs,hq⟩ | ⟨rfl,o,hk,hc,hd⟩ | ⟨rfl,hk⟩ | ⟨rfl,S,n,hk⟩
  ·obtain ⟨its,_,pl,_⟩:=I.list hq
   refine ⟨pl.isList.typeIs,fun a e=>?_⟩
   cases e
   obtain ⟨o,n,e,c,hd,_⟩:=pl
   exact ⟨o,e,hd⟩
  ·refine ⟨⟨o,I.kIn p o hk,hc⟩,fun a e=>?_⟩
   cases e
   exact ⟨o,I.kIn _ o hk,hd⟩
  ·have z:∃ o,s.heap.get? p = some o/\o.ExactDict:=by
    rcases hk with ⟨kvs,hk⟩ | ⟨kvs,hk⟩
    ·obtain ⟨_,_,_,_,o,_,_,e,ex,_⟩:=I.hok p _ hk
     exact ⟨o,e,ex⟩
    ·obtain ⟨_,_,_,_,o,_,_,e,ex,_⟩:=I.hok p _ hk
     exact ⟨o,e,ex⟩
   obtain ⟨o,e,ex⟩:=z
   refine ⟨⟨o,e,ex.1⟩,fun a e2=>?_⟩
   cases e2
   exact ⟨o,e,ex.2.1⟩
  ·obtain ⟨o,_,_,_,e,ex,_⟩:=I.hok p _ hk
   refine ⟨⟨o,e,ex.1⟩,fun a e2=>?_⟩
   cases e2
   exact ⟨o,e,ex.2.1⟩
 | _=>exact False.elim ty
def tBM (K:Frag) (T:String) (r:V->List V->Hp->VK->Prop) (to:TE) (t:TA):TE:=fun σ H Q=>to σ H fun x H1=>tyV K T x H1/\t σ H1 fun xs H2=>r x xs H2 Q
variable {o e:Expr} {es:List Expr} {to:TE} {t:TA} {name:Str} {apos cpos:Pos} {T id:String} {r:V->List V->Hp->VK->Prop}
theorem yV (pa:PlainAttrs T) (slot:Slot T name id) (hty:typeOf (.builtin id) = pure (.type "method_descriptor")) (hm:MtR X id r) (ho:PE X o to) (ha:PA X (e :: es) t)
  (hbase:attributeBase o name X.env (eval o X.env) = eval o X.env:=by rfl)
  (hfew:((backTo cpos (starEach (e :: es) X.env)).all (fun x=>!x.1) && (backToKw cpos (keywordEach [] X.env)).all (fun x=>x.1.isSome)
   && decide ((e :: es).length + ([]:List Keyword).length + (if ([]:List Keyword).isEmpty then 0 else 1) < 30)) = true:=by rfl)
  (hline:(apos.endLine == cpos.line) = true:=by rfl) (hs:starEach (e :: es) X.env = (false,eval e X.env) :: starEach es X.env:=by rfl) (hplain:(backTo cpos (starEach es X.env)).any (·.1) = false:=by rfl) :
  PE X (.Call (.Attribute o name apos) (e :: es) [] cpos) (tBM X.K T r to t):=by
 refine ⟨?_⟩
 intro pins s σ H Q I h
 refine wpAny_Call_method_late hbase hfew hline rfl (thn (ho pins s σ H _ I h) fun v s1 ⟨x,H1,I1,r1,ty,q1⟩=>?_)
 obtain ⟨h1,h2⟩:=zhG I1 r1 ty
 refine ⟨T,id,pa,slot,hty,h1,h2,?_⟩
 have hA:=ha cpos pins s1 σ H1 _ I1 q1
 rw [hs] at hA |-
 refine Calls.callWith_builtin (by show (false || (backTo cpos (starEach es X.env)).any (·.1)) = false; rw [hplain] <;> rfl) (Calls.evalArgs_plain ?_)
 exact thn hA fun us s2 ⟨vs,H2,I2,r2,q2⟩=>hm pins s2 σ H2 x vs v us Q I2 r1 r2 q2
end
def MtM (X:Cx) (id:String) (r:V->List V->Hp->VK->Prop):Prop:=
 ∀ (pins:List (Addr × Obj)) (s:Shared) (σ : St) (H:Hp) (x:V) (xs:List V) (v:Value) (us:List Value) (Q:VK),Inv X pins σ H s->zN x v->zP xs us->r x xs H Q->
  wpAny (model X.prog X.w) X.A (call (.builtin id) (v :: us)) (EP X pins σ Q) X.xe s
theorem zP.one:∀ {x:V} {us:List Value},zP [x] us->∃ u,us = [u]/\zN x u
 | _,_,.cons r .nil=>⟨_,rfl,r⟩
section
variable {X:Cx} {pins:List (Addr × Obj)} {σ : St} {H:Hp} {s:Shared} {l b:Addr} {xs ys zs:List V}
theorem Inv.lset {its its':List Value} {n:Nat} {f:Array Value->Array Value} {t':Nat} (I:Inv X pins σ H s) (hH:H l = some (.lst xs))
  (e:s.heap.get? l = some { cls:=.type "list",data:=.seq its.toArray n }) (hf:f its.toArray = its'.toArray) (hv:zP ys its') (hz:ys.length<=sizeLine) :
  Inv X pins σ (upd H l (.lst ys)) { s with heap:=s.heap.update l (Obj.mapSeq f),toks:=t' }:=by
 have q:=PySem.IsL.update e f
 rw [hf] at q
 refine I.write (x:=l) (e:=l) (by rw [hH]; exact trivial) (.inl rfl) (fun b' u hb hu=>(Heap.get?_update_other s.heap (Obj.mapSeq f) (Ne.symm hb)).trans hu) ⟨_,q⟩ ?_
 exact ⟨hz,its',_,hv,q⟩
theorem Inv.lnew {its:List Value} {t':Nat} (I:Inv X pins σ H s) (hv:zP ys its) (hz:ys.length<=sizeLine) :
  Inv X pins σ (upd H s.heap.objs.size (.lst ys)) { s with heap:=s.heap.push { cls:=.type "list",data:=.seq its.toArray },toks:=t' }:=
 I.laid (fun _ _ q=>Heap.get?_push_of_some _ q) (Nat.le_refl _) ⟨hz,its,0,hv,Heap.get?_push_size _ rfl⟩
theorem Inv.fresh (I:Inv X pins σ H s):H s.heap.objs.size = none:=I.hok.fresh (Nat.le_refl _)
theorem Inv.lstM (I:Inv X pins σ H s) (hH:H l = some (.lst xs)):xs.length<=sizeLine/\∃ (its:List Value) (n:Nat),zP xs its/\xs.length = its.length/\s.heap.get? l = some { cls:=.type "list",data:=.seq its.toArray n }:=by
 obtain ⟨z,its,n,r,e⟩:=I.hok l _ hH
 exact ⟨z,its,n,r,r.length,e⟩
theorem zfH {n:Nat} (h:n<=sizeLine):Builtin.List.listTooLong n = false:=by
 unfold Builtin.List.listTooLong
 exact decide_eq_false (by omega)
end
section
variable {X:Cx}
def zgA:V->List V->Hp->VK->Prop:=fun x vs H Q=>∃ l xs y,x = .ref l/\vs = [y]/\H l = some (.lst xs)/\xs.length < sizeLine/\Q .non (upd H l (.lst (xs ++ [y])))
theorem zQ:MtM X "list.append" zgA:=by
 intro pins s σ H x vs v us Q I rx rv h
 obtain ⟨l,xs,y,rfl,rfl,hH,hz,q⟩:=h
 cases rx
 obtain ⟨u,rfl,ru⟩:=rv.one
 obtain ⟨z,its,n,r,hl,e⟩:=I.lstM hH
 refine call_meets F.slot_list_append ⟨_,e,rfl⟩ F.entry_list_append (F.args_list_append_2 _ _) (PySem.list_append l its.toArray n u (by rw [List.size_toArray]; omega)) ⟨e,?_⟩
 refine ⟨.non,_,I.lset (its':=its ++ [u]) hH e (by simp) (r.append (.cons ru .nil)) ?_,rfl,q⟩
 rw [List.length_append,List.length_singleton]
 omega
def zgz:V->List V->Hp->VK->Prop:=fun x vs H Q=>∃ l b xs zs,x = .ref l/\vs = [.ref b]/\H l = some (.lst xs)/\H b = some (.lst zs)/\xs.length + zs.length<=sizeLine/\Q .non (upd H l (.lst (xs ++ zs)))
theorem qU:MtM X "list.extend" zgz:=by
 intro pins s σ H x vs v us Q I rx rv h
 obtain ⟨l,b,xs,zs,rfl,rfl,hH,hB,hz,q⟩:=h
 cases rx
 obtain ⟨u,rfl,ru⟩:=rv.one
 cases ru
 obtain ⟨z,its,n,r,hl,e⟩:=I.lstM hH
 obtain ⟨z2,its2,n2,r2,hl2,e2⟩:=I.lstM hB
 have hsz:its.toArray.size + its2.toArray.size<=sizeLine:=by rw [List.size_toArray,List.size_toArray]; omega
 have hlong:¬ (!its.toArray.isEmpty && Builtin.List.listTooLong (its.toArray.size + its2.toArray.size)) = true:=by
  rw [zfH hsz,Bool.and_false]
  exact Bool.false_ne_true
 refine call_meets F.slot_list_extend ⟨_,e,rfl⟩ F.entry_list_extend (F.args_list_extend_2 _ _)
  (AutoSeq1.list_extend_list_list_0 l its.toArray n b its2.toArray n2 hlong (by rw [List.size_toArray]; omega) (by omega)) ⟨e,e2,?_⟩
 refine ⟨.non,_,I.lset (its':=its ++ its2) hH e (by simp) (r.append r2) ?_,rfl,q⟩
 rw [List.length_append]
 omega
def zj2:R2:=fun x y H Q=>∃ l b xs zs,x = .ref l/\y = .ref b/\H l = some (.lst xs)/\H b = some (.lst zs)/\xs.length + zs.length<=sizeLine/\∀ p,H p = none->Q (.ref p) (upd H p (.lst (xs ++ zs)))
theorem yW:OpR X (binaryOp .Add) zj2:=by
 intro pins s σ H x y v u Q I rx ry h
 obtain ⟨l,b,xs,zs,rfl,rfl,hH,hB,hz,q⟩:=h
 cases rx
 cases ry
 obtain ⟨z,its,n,r,hl,e⟩:=I.lstM hH
 obtain ⟨z2,its2,n2,r2,hl2,e2⟩:=I.lstM hB
 refine PySem.P.add_list e e2 ?_ (by rw [List.size_toArray,List.size_toArray]; omega)
 have ea:its.toArray ++ its2.toArray = (its ++ its2).toArray:=by simp
 rw [ea]
 exact ⟨.ref _,_,I.lnew (t':=s.toks) (r.append r2) (by rw [List.length_append]; omega),rfl,q _ I.fresh⟩
end
section
variable {prog:Program} {w:World} {A:Around} {E:Value->Shared->Prop} {s:Shared}
end
section
variable {X:Cx}
end
section
variable {κ : Type} [DecidableEq κ]
def zL (kvs:List (κ × V)) (k : κ):Option V:=(kvs.find? fun kv=>decide (kv.1 = k)).map (·.2)
def yf (kvs:List (κ × V)) (k : κ) (v:V):List (κ × V):=
 if (kvs.any fun kv=>decide (kv.1 = k)) = true then kvs.map (fun kv=>if kv.1 = k then (kv.1,v) else kv) else kvs ++ [(k,v)]
theorem yG {p : κ × V} {r:List (κ × V)} {k : κ} (e:p.1 = k):zL (p :: r) k = some p.2:=by simp [zL,List.find?_cons,e]
theorem yH {p : κ × V} {r:List (κ × V)} {k : κ} (e:¬ p.1 = k):zL (p :: r) k = zL r k:=by simp [zL,List.find?_cons,e]
theorem xL (k : κ):∀ kvs:List (κ × V),(kvs.any fun kv=>decide (kv.1 = k)) = (zL kvs k).isSome
 | []=>rfl
 | p :: r=>by
  rw [List.any_cons]
  by_cases e:p.1 = k
  ·simp only [yG e,decide_eq_true e,Bool.true_or,Option.isSome_some]
  ·rw [yH e,decide_eq_false e,Bool.false_or]; exact xL k r
theorem zba (k j : κ) (y:V):∀ kvs:List (κ × V),zL (kvs.map fun kv=>if kv.1 = k then (kv.1,y) else kv) j = (zL kvs j).map fun x=>if j = k then y else x
 | []=>rfl
 | p :: r=>by
  have ih:=zba k j y r
  rw [List.map_cons]
  by_cases h:p.1 = k
  ·rw [if_pos h]
   by_cases e:p.1 = j
   ·rw [yG (p:=(p.1,y)) e,yG e,Option.map_some,if_pos (e.symm.trans h)]
   ·rw [yH (p:=(p.1,y)) e,yH e,ih]
  ·rw [if_neg h]
   by_cases e:p.1 = j
   ·rw [yG (p:=p) e,yG e,Option.map_some,if_neg (fun z=>h (e.trans z))]
   ·rw [yH (p:=p) e,yH e,ih]
theorem qr (k j : κ) (y:V):∀ kvs:List (κ × V),zL kvs k = none->zL (kvs ++ [(k,y)]) j = if j = k then some y else zL kvs j
 | [],_=>by
  by_cases e:k = j
  ·rw [if_pos e.symm]; exact yG (p:=(k,y)) e
  ·rw [if_neg (fun z=>e z.symm)]; exact yH (p:=(k,y)) e
 | p :: r,hn=>by
  rw [List.cons_append]
  have hk:¬ p.1 = k:=fun z=>by rw [yG z] at hn; cases hn
  rw [yH hk] at hn
  have ih:=qr k j y r hn
  by_cases e:p.1 = j
  ·rw [yG e,yG e,if_neg (fun z=>hk (e.trans z))]
  ·rw [yH e,yH e,ih]
theorem wJ (kvs:List (κ × V)) (k j : κ) (y:V):zL (yf kvs k y) j = if j = k then some y else zL kvs j:=by
 unfold yf
 by_cases a:(kvs.any fun kv=>decide (kv.1 = k)) = true
 ·rw [if_pos a,zba]
  rw [xL] at a
  by_cases e:j = k
  ·obtain ⟨x,hx⟩:=Option.isSome_iff_exists.mp a
   rw [if_pos e,e,hx,Option.map_some,if_pos rfl]
  ·rw [if_neg e]
   cases zL kvs j with
   | none=>rfl
   | some x=>rw [Option.map_some,if_neg e]
 ·rw [if_neg a]
  refine qr k j y kvs ?_
  rw [xL] at a
  cases q:zL kvs k with
  | none=>rfl
  | some x=>rw [q] at a; exact (a rfl).elim
theorem xk (kvs:List (κ × V)) (k : κ) (v:V):(yf kvs k v).length<=kvs.length + 1:=by
 unfold yf
 split
 ·rw [List.length_map]; omega
 ·rw [List.length_append,List.length_cons,List.length_nil]; omega
theorem wl.isSome_eq {o:Option V} {u:Option Value} (r:wl o u):o.isSome = u.isSome:=by
 cases o with
 | none=>cases u with
  | none=>rfl
  | some _=>exact (show False from r).elim
 | some _=>cases u with
  | none=>exact (show False from r).elim
  | some _=>rfl
theorem wl.getD {o:Option V} {u:Option Value} {d:V} {d':Value} (r:wl o u) (rd:zN d d'):zN (o.getD d) (u.getD d'):=by
 cases o with
 | none=>cases u with
  | none=>exact rd
  | some _=>exact (show False from r).elim
 | some _=>cases u with
  | none=>exact (show False from r).elim
  | some _=>exact r
theorem KV.val {kvs:List (κ × V)} {vs:List (κ × Value)} (r:KV kvs vs) (k : κ):wl (zL kvs k) (valueAt vs k):=by
 unfold KV at r
 induction r with
 | nil=>exact True.intro
 | @cons p q ps qs h t ih=>
  obtain ⟨h1,h2⟩:=h
  by_cases e:p.1 = k
  ·have e':q.1 = k:=h1.symm.trans e
   have b:valueAt (q :: qs) k = some q.2:=by simp [valueAt,List.find?_cons,e']
   rw [yG e,b]; exact h2
  ·have e':¬ q.1 = k:=fun z=>e (h1.trans z)
   have b:valueAt (q :: qs) k = valueAt qs k:=by simp [valueAt,List.find?_cons,e']
   rw [yH e,b]; exact ih
theorem KV.any {kvs:List (κ × V)} {vs:List (κ × Value)} (r:KV kvs vs) (k : κ):(kvs.any fun kv=>decide (kv.1 = k)) = vs.any fun kv=>decide (kv.1 = k):=by
 unfold KV at r
 induction r with
 | nil=>rfl
 | cons h t ih=>rw [List.any_cons,List.any_cons,ih,h.1]
theorem KV.repl {kvs:List (κ × V)} {vs:List (κ × Value)} (r:KV kvs vs) (k : κ) {y:V} {u:Value} (ry:zN y u) :
  KV (kvs.map fun kv=>if kv.1 = k then (kv.1,y) else kv) (vs.map fun kv=>if kv.1 = k then (kv.1,u) else kv):=by
 unfold KV at r |-
 induction r with
 | nil=>exact .nil
 | @cons p q ps qs h t ih=>
  rw [List.map_cons,List.map_cons]
  refine .cons ?_ ih
  obtain ⟨h1,h2⟩:=h
  by_cases e:p.1 = k
  ·rw [if_pos e,if_pos (h1.symm.trans e)]; exact ⟨h1,ry⟩
  ·rw [if_neg e,if_neg (fun z=>e (h1.trans z))]; exact ⟨h1,h2⟩
theorem KV.put {kvs:List (κ × V)} {vs:List (κ × Value)} (r:KV kvs vs) (k : κ) {y:V} {u:Value} (ry:zN y u):KV (yf kvs k y) (stored vs k u):=by
 unfold yf stored
 rw [r.any k]
 by_cases e:(vs.any fun kv=>decide (kv.1 = k)) = true
 ·rw [if_pos e,if_pos e]; exact r.repl k ry
 ·rw [if_neg e,if_neg e]; exact Paired.snoc r ⟨rfl,ry⟩
theorem KV.length {kvs:List (κ × V)} {vs:List (κ × Value)} (r:KV kvs vs):kvs.length = vs.length:=Paired.length r
end
theorem jc {P:Program} {w:World} {k:Key} {u:Value} (r:zN (kV k) u):(zY P w).is k u = true:=by
 cases k with
 | inl i=>obtain ⟨t,e⟩:=(show ∃ t,u = Value.int i t from r); subst e; exact zbE P w i t
 | inr x=>obtain ⟨t,e⟩:=(show ∃ t,u = Value.str x t from r); subst e; exact zbD P w x t
theorem qX {P:Program} {w:World}:∀ {ks:List Key} {us:List Value},zP (ks.map kV) us->ItemsAre (zY P w) ks us
 | [],_,r=>by rw [List.map_nil] at r; cases r; exact .nil
 | k :: ks,_,r=>by
  rw [List.map_cons] at r
  cases r with
  | cons h t=>exact .cons (jc h) (qX t)
abbrev KT (H:Hp):List (List Key × V)->List (List Key × Addr × Value)->Prop:=Paired fun p q=>p.1 = q.1/\H q.2.1 = some (.tup (p.1.map kV))/\zN p.2 q.2.2
theorem KT.val {H:Hp} {kvs:List (List Key × V)} {xs:List (List Key × Addr × Value)} (r:KT H kvs xs) (k:List Key):wl (zL kvs k) ((atKey xs k).map (·.2)):=by
 induction r with
 | nil=>exact True.intro
 | @cons p q ps qs h t ih=>
  obtain ⟨h1,_,h2⟩:=h
  by_cases e:p.1 = k
  ·have e':q.1 = k:=h1.symm.trans e
   have b:atKey (q :: qs) k = some q.2:=by simp [atKey,List.find?_cons,e']
   rw [yG e,b]; exact h2
  ·have e':¬ q.1 = k:=fun z=>e (h1.trans z)
   have b:atKey (q :: qs) k = atKey qs k:=by simp [atKey,List.find?_cons,e']
   rw [yH e,b]; exact ih
theorem KT.repl {H:Hp} {kvs:List (List Key × V)} {xs:List (List Key × Addr × Value)} (r:KT H kvs xs) (k:List Key) {y:V} {u:Value} (ry:zN y u) :
  KT H (kvs.map fun kv=>if kv.1 = k then (kv.1,y) else kv) (xs.map (putAt k u)):=by
 induction r with
 | nil=>exact .nil
 | @cons p q ps qs h t ih=>
  rw [List.map_cons,List.map_cons]
  refine .cons ?_ ih
  obtain ⟨h1,h2,h3⟩:=h
  unfold putAt
  by_cases e:p.1 = k
  ·rw [if_pos e,if_pos (h1.symm.trans e)]; exact ⟨h1,h2,ry⟩
  ·rw [if_neg e,if_neg (fun z=>e (h1.trans z))]; exact ⟨h1,h2,h3⟩
theorem KT.put {H:Hp} {kvs:List (List Key × V)} {xs:List (List Key × Addr × Value)} (r:KT H kvs xs) (k:List Key) {b:Addr} {y:V} {u:Value} (hb:H b = some (.tup (k.map kV))) (ry:zN y u) :
  KT H (yf kvs k y) (storedH xs k b u):=by
 have e:(kvs.any fun kv=>decide (kv.1 = k)) = (atKey xs k).isSome:=by
  rw [xL,(r.val k).isSome_eq,Option.isSome_map]
 unfold yf storedH
 rw [e]
 by_cases q:(atKey xs k).isSome = true
 ·rw [if_pos q,if_pos q]; exact r.repl k ry
 ·rw [if_neg q,if_neg q]; exact Paired.snoc r ⟨rfl,hb,ry⟩
theorem KT.keeps {H H':Hp} {kvs:List (List Key × V)} {xs:List (List Key × Addr × Value)} (r:KT H kvs xs) (ht:∀ b ys,H b = some (.tup ys)->H' b = some (.tup ys)):KT H' kvs xs:=
 Paired.mapP r fun _ _ z=>⟨z.1,ht _ _ z.2.1,z.2.2⟩
section
variable {P:Program} {w:World} {H:Hp} {h:Heap} {a:Addr}
theorem zhv {u:HO} (ok:HOk P w H h) (e:Rd H a u):yi P w H h a u:=e.ok ok
theorem j7 {kvs:List (Key × V)} (ok:HOk P w H h) (e:Rd H a (.dK kvs)):kvs.length<=sizeLine/\(a == sysModules) = false/\∃ vs,KV kvs vs/\h.DictOf (zY P w) a vs:=
 show yi P w H h a (.dK kvs) from zhv ok e
theorem zf6 {kvs:List (Key × V)} (ok:HOk P w H h) (e:H a = some (.dK kvs)):kvs.length<=sizeLine/\(a == sysModules) = false/\∃ vs,KV kvs vs/\h.DictOf (zY P w) a vs:=j7 ok (.inl e)
theorem u0 {ks:List Key} (ok:HOk P w H h) (e:H a = some (.tup (ks.map kV))):(tupleKind (zY P w)).is h ks a:=by
 obtain ⟨_,its,r,o,h1,h2,n,h3⟩:=(show yi P w H h a (.tup (ks.map kV)) from ok a _ e)
 exact ⟨o,its.toArray,n,h1,h2,h3,by simpa using qX r⟩
theorem j6 {kvs:List (List Key × V)} (ok:HOk P w H h) (e:Rd H a (.dT kvs)):kvs.length<=sizeLine/\(a == sysModules) = false/\
  ∃ xs,KT H kvs xs/\h.DictOfH (tupleKind (zY P w)) a xs:=by
 obtain ⟨z,y,xs,r,o,es,ep,h1,h2,h3,h4,h5⟩:=(show yi P w H h a (.dT kvs) from zhv ok e)
 refine ⟨z,y,xs,r,o,es,ep,h1,h2,h3,h4,fun x hx=>?_,h5⟩
 have all:∀ {l:List (List Key × V)} {m:List (List Key × Addr × Value)},KT H l m->∀ x ∈ m,(tupleKind (zY P w)).is h x.1 x.2.1:=by
  intro l m q
  induction q with
  | nil=>intro x hx; exact nomatch hx
  | @cons p q ps qs hq t ih=>
   intro x hx
   rcases List.mem_cons.mp hx with e | hx
   ·subst e
    exact u0 ok (by rw [<- hq.1]; exact hq.2.1)
   ·exact ih x hx
 exact all r x hx
theorem zjG {kvs:List (List Key × V)} (ok:HOk P w H h) (e:H a = some (.dT kvs)):kvs.length<=sizeLine/\(a == sysModules) = false/\
  ∃ xs,KT H kvs xs/\h.DictOfH (tupleKind (zY P w)) a xs:=j6 ok (.inl e)
end
def za7 (H:Hp) (a:Addr) (y:V) (r:Option V):Prop:=
 (∃ kvs k,Rd H a (.dK kvs)/\y = kV k/\r = zL kvs k)\/∃ kvs k b,Rd H a (.dT kvs)/\y = .ref b/\H b = some (.tup (k.map kV))/\r = zL kvs k
def zeI (H:Hp) (a:Addr) (y v:V) (H':Hp):Prop:=
 (∃ kvs k,H a = some (.dK kvs)/\y = kV k/\kvs.length < sizeLine/\H' = upd H a (.dK (yf kvs k v)))\/
 ∃ kvs k b,H a = some (.dT kvs)/\y = .ref b/\H b = some (.tup (k.map kV))/\kvs.length < sizeLine/\H' = upd H a (.dT (yf kvs k v))
theorem zeI.k {H:Hp} {a:Addr} {kvs:List (Key × V)} {k:Key} {v:V} (e:H a = some (.dK kvs)) (hl:kvs.length < sizeLine):zeI H a (kV k) v (upd H a (.dK (yf kvs k v))):=.inl ⟨kvs,k,e,rfl,hl,rfl⟩
section
variable {X:Cx} {pins:List (Addr × Obj)} {σ : St} {H:Hp} {s:Shared} {a:Addr} {y v:V} {u r:Value} {o:Option V} {A:Around} {E:Value->Shared->Prop}
theorem Inv.big (I:Inv X pins σ H s):sysModules < s.heap.objs.size:=by
 have h:mainGlobals < s.heap.objs.size:=(I.mod.glob.keeps I.bk).lt
 exact Nat.lt_trans (by decide) h
theorem zez {Q:Value->Shared->Prop} (hu:A.units + 1 < cLine) (I:Inv X pins σ H s) (g:za7 H a y (some v)) (ry:zN y u) (h:∀ w' s',Inv X pins σ H s'->zN v w'->Q w' s') :
  wpAny (model X.prog X.w) A (getItem (.ref a) u) Q E s:=by
 rcases g with ⟨kvs,k,e,ey,l⟩ | ⟨kvs,k,b,e,ey,eb,l⟩
 ·subst ey
  obtain ⟨z,hd,vs,rel,dd⟩:=j7 I.hok e
  obtain ⟨w',hw,rw'⟩:=wl.some_of (v:=v) (o:=valueAt vs k) (by rw [l]; exact rel.val k)
  exact wpAny_getItem_of (jc ry) dd.mapOf hw (h w' _ (I.tok _) rw')
 ·subst ey
  cases (show u = Value.ref b from ry)
  obtain ⟨z,hd,xs,rel,dd⟩:=j6 I.hok e
  obtain ⟨w',hw,rw'⟩:=wl.some_of (v:=v) (o:=(atKey xs k).map (·.2)) (by rw [l]; exact rel.val k)
  obtain ⟨p,hp,hp2⟩:=Option.map_eq_some_iff.mp hw
  refine wpAny_getItem_heap (tupleKind_room_in1 hu) (u0 I.hok eb) dd hp ?_
  rw [hp2]
  exact h w' _ (I.tok _) rw'
theorem zkj {Q:Value->Shared->Prop} (hu:A.units + 1 < cLine) (I:Inv X pins σ H s) (g:za7 H a y o) (ry:zN y u) (h:∀ s',Inv X pins σ H s'->Q (.bool o.isSome) s') :
  wpAny (model X.prog X.w) A (compareOp .In u (.ref a)) Q E s:=by
 rcases g with ⟨kvs,k,e,ey,l⟩ | ⟨kvs,k,b,e,ey,eb,l⟩
 ·subst ey
  obtain ⟨z,hd,vs,rel,dd⟩:=j7 I.hok e
  refine wpAny_in_of (jc ry) hd dd.mapOf ?_
  rw [<- (rel.val k).isSome_eq,<- l]
  exact h _ (I.tok _)
 ·subst ey
  cases (show u = Value.ref b from ry)
  obtain ⟨z,hd,xs,rel,dd⟩:=j6 I.hok e
  refine wpAny_in_heap (tupleKind_room_in1 hu) (u0 I.hok eb) hd dd ?_
  have q:=(rel.val k).isSome_eq
  rw [Option.isSome_map] at q
  rw [<- q,<- l]
  exact h _ (I.tok _)
theorem zhh {Q:Value->Shared->Prop} (hu:A.units + 1 < cLine) (I:Inv X pins σ H s) (g:za7 H a y o) (ry:zN y u) (h:∀ s',Inv X pins σ H s'->Q (.bool (!o.isSome)) s') :
  wpAny (model X.prog X.w) A (compareOp .NotIn u (.ref a)) Q E s:=by
 rcases g with ⟨kvs,k,e,ey,l⟩ | ⟨kvs,k,b,e,ey,eb,l⟩
 ·subst ey
  obtain ⟨z,hd,vs,rel,dd⟩:=j7 I.hok e
  refine wpAny_notIn_of (jc ry) hd dd.mapOf ?_
  rw [<- (rel.val k).isSome_eq,<- l]
  exact h _ (I.tok _)
 ·subst ey
  cases (show u = Value.ref b from ry)
  obtain ⟨z,hd,xs,rel,dd⟩:=j6 I.hok e
  refine wpAny_notIn_heap (tupleKind_room_in1 hu) (u0 I.hok eb) hd dd ?_
  have q:=(rel.val k).isSome_eq
  rw [Option.isSome_map] at q
  rw [<- q,<- l]
  exact h _ (I.tok _)
theorem jv {h':Heap} {t':Nat} {ob:HO} (I:Inv X pins σ H s) (mu:Mut (H a)) (hs:Heap.SameBut a s.heap h') (he:∃ q,h'.get? a = some q) (new:yi X.prog X.w (upd H a ob) h' a ob) :
  Inv X pins σ (upd H a ob) { s with heap:=h',toks:=t' }:=
 I.write (x:=a) (e:=a) mu (.inl rfl) (fun b q hb z=>(hs.2 b hb).trans z) he new
theorem zcU {P:Program} {w:World} {H':Hp} {h':Heap} {kvs:List (Key × V)} {vs:List (Key × Value)} (z:kvs.length<=sizeLine) (hd:(a == sysModules) = false) (rel:KV kvs vs) (dd:h'.DictOf (zY P w) a vs) :
  yi P w H' h' a (.dK kvs):=⟨z,hd,vs,rel,dd⟩
theorem zey {H':Hp} {Q:Unit->Shared->Prop} (hu:A.units + 1 < cLine) (I:Inv X pins σ H s) (g:zeI H a y v H') (ry:zN y u) (rv:zN v r) (h:∀ s',Inv X pins σ H' s'->Q () s') :
  wpAny (model X.prog X.w) A (setItem (.ref a) u r) Q E s:=by
 rcases g with ⟨kvs,k,e,ey,l,eH⟩ | ⟨kvs,k,b,e,ey,eb,l,eH⟩
 ·subst ey eH
  obtain ⟨z,hd,vs,rel,dd⟩:=zf6 I.hok e
  have hz:vs.length<=sizeLine:=by rw [<- rel.length]; exact z
  have hl:(yf kvs k v).length<=sizeLine:=by have:=xk kvs k v; omega
  refine wpAny_setItem_pairs (hsz:=hz) (jc ry) dd fun h' dd' hs=>h _ ?_
  have he:∃ q,h'.get? a = some q:=let ⟨q,_,_,hq,_⟩:=dd'; ⟨q,hq⟩
  exact jv I (by rw [e]; exact True.intro) hs he (zcU hl hd (rel.put k rv) dd')
 ·subst ey eH
  cases (show u = Value.ref b from ry)
  obtain ⟨z,hd,xs,rel,dd⟩:=zjG I.hok e
  have hz:xs.length<=sizeLine:=by rw [<- Paired.length rel]; exact z
  have hl:(yf kvs k v).length<=sizeLine:=by have:=xk kvs k v; omega
  refine wpAny_setItem_heap (hsz:=hz) (tupleKind_room_in1 hu) (u0 I.hok eb) dd fun h' dd' hs=>h _ ?_
  obtain ⟨q,es,ep,hq,h2,h3,h4,_,h5⟩:=dd'
  refine jv I (by rw [e]; exact True.intro) hs ⟨q,hq⟩ ⟨hl,hd,_,(rel.put k eb rv).keeps fun c ys ec=>?_,q,es,ep,hq,h2,h3,h4,h5⟩
  rw [zi (xC ec e (fun z=>nomatch z))]
  exact ec
end
section
variable {X:Cx} {pins:List (Addr × Obj)} {σ : St} {H:Hp} {s:Shared} {a:Addr} {kvs:List (Key × V)} {k:Key} {u:Value} {A:Around} {E:Value->Shared->Prop}
end
def zhp (i:Expr):Prop:=∀ ov iv,subscripted i false ov iv = operate [ov,iv] (getItem ov iv)
theorem zas {prog:Program} {w:World} {A:Around} {E:Value->Shared->Prop} {s:Shared} {env:Env} {value slice:Expr} {pos:Pos} {T id:String} {Q:Value->Shared->Prop}
  (hl:typeLookup (.type T) "__getitem__" = pure (some (.builtin id))) (hs:zhp slice)
  (h:wpAny (model prog w) A (eval value env) (fun o s₁=>wpAny (model prog w) A (eval slice env) (fun i s₂=>s₂.TypeIs o T/\wpAny (model prog w) A (getItem o i) Q E s₂) E s₁) E s) :
  wpAny (model prog w) A (eval (.Subscript value slice pos) env) Q E s:=by
 refine Subscript_ (wpAny_mono h (fun o s₁ h₁=>wpAny_mono h₁ (fun i s₂ h₂=>?_) fun _ _ x=>x) fun _ _ x=>x)
 obtain ⟨hT,h₂⟩:=h₂
 unfold subscriptTail
 refine wpAny_bind ?_
 rw [getitemInPython_of_ne hT.not_modules]
 refine wpAny_bind (wpAny_specialOf hT hl ?_)
 have fin:wpAny (model prog w) A (subscripted slice false o i) (fun r s₃=>wpAny (model prog w) A (letTemporaryGo value o r >>= fun _=>pure r) Q E s₃) E s₂:=by
  rw [hs o i]
  exact wpAny_operating (wpAny_mono h₂ (fun r s₃ h₃=>wpAny_bind (wpAny_letTemporaryGo (wpAny_pure h₃))) fun _ _ x=>x)
 first
  | exact wpAny_pure (wpAny_bind fin)
  | exact wpAny_bind (wpAny_pure (wpAny_bind fin))
  | exact wpAny_bind fin
theorem zbT {X:Cx} {pins:List (Addr × Obj)} {σ : St} {H:Hp} {s:Shared} {a:Addr} {y:V} {o:Option V} (I:Inv X pins σ H s) (g:za7 H a y o):s.TypeIs (.ref a) "dict":=by
 rcases g with ⟨kvs,k,e,_,_⟩ | ⟨kvs,k,b,e,_,_,_⟩
 ·obtain ⟨_,_,vs,_,dd⟩:=j7 I.hok e
  exact dd.typeIs
 ·obtain ⟨_,_,xs,_,dd⟩:=j6 I.hok e
  exact dd.typeIs
def zi2 (td ty:TE):TE:=fun σ H Q=>td σ H fun x H1=>ty σ H1 fun y H2=>∃ a v,x = .ref a/\za7 H2 a y (some v)/\Q v H2
def zjT (ty td:TE):TE:=fun σ H Q=>ty σ H fun y H1=>td σ H1 fun x H2=>∃ a o,x = .ref a/\za7 H2 a y o/\Q (.bl o.isSome) H2
def zgk (ty td:TE):TE:=fun σ H Q=>ty σ H fun y H1=>td σ H1 fun x H2=>∃ a o,x = .ref a/\za7 H2 a y o/\Q (.bl (!o.isSome)) H2
def zja (td ty tv:TE):TS:=fun D σ H=>tv σ H fun v H1=>td σ H1 fun x H2=>ty σ H2 fun y H3=>∃ a H4,x = .ref a/\zeI H3 a y v H4/\D.nx σ H4
section
variable {X:Cx} {o i e value:Expr} {pos pos' tpos:Pos} {td ty tv:TE}
theorem jq (hu:X.A.units + 1 < cLine) (ho:PE X o td) (hi:PE X i ty) (hs:zhp i):PE X (.Subscript o i pos) (zi2 td ty):=by
 refine ⟨?_⟩
 intro pins s σ H Q I h
 refine zas PySem.F.slot_dict_getitem.lookup hs (thn (ho pins s σ H _ I h) fun u s1 ⟨x,H1,I1,rx,q1⟩=>thn (hi pins s1 σ H1 _ I1 q1) fun iv s2 ⟨y,H2,I2,ry,a,v,ex,g,q2⟩=>?_)
 subst ex
 obtain rfl:u = Value.ref a:=rx
 exact ⟨zbT I2 g,zez hu I2 g ry fun w' s3 I3 rw'=>⟨v,H2,I3,rw',q2⟩⟩
theorem zig (hu:X.A.units + 1 < cLine) (hi:PE X i ty) (ho:PE X o td):PC X .In i o (zjT ty td):=by
 refine ⟨?_⟩
 intro pins s σ H Q I h
 refine thn (hi pins s σ H _ I h) fun iv s1 ⟨y,H1,I1,ry,q1⟩=>thn (ho pins s1 σ H1 _ I1 q1) fun u s2 ⟨x,H2,I2,rx,a,ov,ex,g,q2⟩=>?_
 subst ex
 obtain rfl:u = Value.ref a:=rx
 exact zkj hu I2 g ry fun s3 I3=>⟨.bl ov.isSome,H2,I3,rfl,q2⟩
theorem zd6 (hu:X.A.units + 1 < cLine) (hi:PE X i ty) (ho:PE X o td):PC X .NotIn i o (zgk ty td):=by
 refine ⟨?_⟩
 intro pins s σ H Q I h
 refine thn (hi pins s σ H _ I h) fun iv s1 ⟨y,H1,I1,ry,q1⟩=>thn (ho pins s1 σ H1 _ I1 q1) fun u s2 ⟨x,H2,I2,rx,a,ov,ex,g,q2⟩=>?_
 subst ex
 obtain rfl:u = Value.ref a:=rx
 exact zhh hu I2 g ry fun s3 I3=>⟨.bl (!ov.isSome),H2,I3,rfl,q2⟩
theorem zdk (hu:X.A.units + 1 < cLine) (ho:PE X o td) (hi:PE X i ty) (hv:PE X value tv) (hs:swapsWith value (some (.Subscript o i pos')) pos.line X.env = pure false) :
  PS X (.Assign [.Subscript o i pos'] value pos) (zja td ty tv):=by
 refine ⟨?_⟩
 intro pins s σ H D I h
 refine wpAny_Assign_Subscript (thn (hv pins s σ H _ I h) fun r s1 ⟨v,H1,I1,rv,q1⟩=>thn (ho pins s1 σ H1 _ I1 q1) fun u s2 ⟨x,H2,I2,rx,q2⟩=>thn (hi pins s2 σ H2 _ I2 q2) fun iv s3 ⟨y,H3,I3,ry,a,H4,ex,g,q3⟩=>?_) hs
 subst ex
 obtain rfl:u = Value.ref a:=rx
 exact zey hu I3 g ry rv fun s4 I4=>⟨σ,H4,I4,q3⟩
end
theorem zbS {P:Program} {w:World} {H:Hp} (h:Heap) (hb:sysModules < h.objs.size):yi P w H (h.push { cls:=.type "dict",data:=.dict #[] }) h.objs.size (.dK []):=
 ⟨Nat.zero_le _,beq_eq_false_iff_ne.mpr (Ne.symm (Nat.ne_of_lt hb)),[],.nil,Heap.DictOf.new h⟩
def zhN:TE:=fun _ H Q=>∀ p,H p = none->Q (.ref p) (upd H p (.dK []))
section
variable {X:Cx} {pos:Pos}
theorem zff:PE X (.Dict [] [] pos) zhN:=⟨fun pins s σ H Q I h=>
 wpAny_Dict_empty ⟨.ref s.heap.objs.size,_,I.laid (a:=s.heap.objs.size) (o:=.dK []) (t':=s.toks) (fun _ _ q=>Heap.get?_push_of_some _ q) (Nat.le_refl _) (zbS s.heap I.big),rfl,h _ (I.hok.fresh (Nat.le_refl _))⟩⟩
end
def zar:List (TE × TE)->St->Hp->(List (V × V)->Hp->Prop)->Prop
 | [],_,H,Q=>Q [] H
 | (tk,tv) :: r,σ,H,Q=>tk σ H fun x H1=>tv σ H1 fun y H2=>zar r σ H2 fun ps H3=>Q ((x,y) :: ps) H3
abbrev VV:List (V × V)->List (Value × Value)->Prop:=Paired fun p q=>zN p.1 q.1/\zN p.2 q.2
structure PPs (X:Cx) (pos:Pos) (keys:List (Option Expr)) (values:List Expr) (trs:List (TE × TE)):Prop where
 run:∀ (pins:List (Addr × Obj)) (s:Shared) (σ : St) (H:Hp) (Q:List (V × V)->Hp->Prop),Inv X pins σ H s->zar trs σ H Q->
  wpAny (model X.prog X.w) X.A (evalPairs (pairTrees keys values X.env pos)) (fun vs s'=>∃ ps H',Inv X pins σ H' s'/\VV ps vs/\Q ps H') X.xe s
instance {X:Cx} {pos:Pos} {keys:List (Option Expr)} {values:List Expr} {trs:List (TE × TE)}:CoeFun (PPs X pos keys values trs) (fun _=>∀ (pins:List (Addr × Obj)) (s:Shared) (σ : St) (H:Hp) (Q:List (V × V)->Hp->Prop),Inv X pins σ H s->zar trs σ H Q->
  wpAny (model X.prog X.w) X.A (evalPairs (pairTrees keys values X.env pos)) (fun vs s'=>∃ ps H',Inv X pins σ H' s'/\VV ps vs/\Q ps H') X.xe s):=⟨PPs.run⟩
theorem zgB {X:Cx} {pos:Pos}:PPs X pos [] [] []:=⟨fun pins s σ H Q I h=>pairTrees_nil_walk ⟨[],H,I,.nil,h⟩⟩
theorem zbl {X:Cx} {pos:Pos} {k v:Expr} {ks:List (Option Expr)} {vs:List Expr} {tk tv:TE} {trs:List (TE × TE)} (hk:PE X k tk) (hv:PE X v tv) (hr:PPs X pos ks vs trs) :
  PPs X pos (some k :: ks) (v :: vs) ((tk,tv) :: trs):=⟨fun pins s σ H Q I h=>
 pairTrees_cons_walk (thn (hk pins s σ H _ I h) fun u s1 ⟨x,H1,I1,rx,q1⟩=>thn (hv pins s1 σ H1 _ I1 q1) fun w2 s2 ⟨y,H2,I2,ry,q2⟩=>
  thn (hr pins s2 σ H2 _ I2 q2) fun ws s3 ⟨ps,H3,I3,rel,q3⟩=>⟨(x,y) :: ps,H3,I3,.cons ⟨rx,ry⟩ rel,q3⟩)⟩
def vC (kvs more:List (Key × V)):List (Key × V):=more.foldl (fun acc kv=>yf acc kv.1 kv.2) kvs
theorem KV.merge:∀ {more:List (Key × V)} {rs:List (Key × Value)} {kvs:List (Key × V)} {vs:List (Key × Value)},KV more rs->KV kvs vs->KV (vC kvs more) (merged vs rs):=by
 intro more rs kvs vs r
 unfold KV at r
 induction r generalizing kvs vs with
 | nil=>intro q; exact q
 | @cons p q ps qs h t ih=>
  intro r0
  have e:KV (yf kvs p.1 p.2) (stored vs q.1 q.2):=by
   have:=r0.put p.1 h.2
   rw [<- h.1]; exact this
  exact ih e
theorem vz:∀ (more kvs:List (Key × V)),(vC kvs more).length<=kvs.length + more.length
 | [],kvs=>by show kvs.length<=kvs.length + 0; omega
 | p :: r,kvs=>by
  have h1:=vz r (yf kvs p.1 p.2)
  have h2:=xk kvs p.1 p.2
  show (vC (yf kvs p.1 p.2) r).length<=_
  rw [List.length_cons]; omega
theorem qb {P:Program} {w:World}:∀ {kvs:List (Key × V)} {ws:List (Value × Value)},VV (kvs.map fun kv=>(kV kv.1,kv.2)) ws->∃ rs,Carries (zY P w) ws rs/\KV kvs rs
 | [],_,r=>by rw [List.map_nil] at r; cases r; exact ⟨[],True.intro,.nil⟩
 | p :: kvs,_,r=>by
  rw [List.map_cons] at r
  cases r with
  | @cons a b as bs h t=>
   obtain ⟨rs,c,q⟩:=qb (P:=P) (w:=w) t
   obtain ⟨b1,b2⟩:=b
   exact ⟨(p.1,b2) :: rs,⟨jc h.1,rfl,c⟩,.cons ⟨rfl,h.2⟩ q⟩
def zi1 (trs:List (TE × TE)):TE:=fun σ H Q=>∀ p,H p = none->zar trs σ (upd H p (.dK [])) fun ps H2=>H2 p = some (.dK [])/\∃ kvs:List (Key × V),ps = kvs.map (fun kv=>(kV kv.1,kv.2))/\kvs.length<=15/\Q (.ref p) (upd H2 p (.dK (vC [] kvs)))
theorem zgG {X:Cx} {pos:Pos} {keys:List (Option Expr)} {values:List Expr} {trs:List (TE × TE)} (h:PPs X pos keys values trs) (hall:keys.all (·.isSome) = true) (hl:keys.length = values.length) (h0:keys ≠ [])
  (h15:keys.length<=15):PE X (.Dict keys values pos) (zi1 trs):=by
 refine ⟨?_⟩
 intro pins s σ H Q I q
 have hn:=I.hok.fresh (Nat.le_refl s.heap.objs.size)
 have I1:=I.laid (a:=s.heap.objs.size) (o:=.dK []) (h':=s.heap.push { cls:=.type "dict",data:=.dict #[] }) (t':=s.toks) (fun _ _ q=>Heap.get?_push_of_some _ q) (Nat.le_refl _) (zbS s.heap I.big)
 refine wpAny_Dict_walk (knd:=zY X.prog X.w) hall hl h0 h15 (thn (h pins _ σ _ _ I1 (q _ hn)) fun ws s2 ⟨ps,H2,I2,rel,e,kvs,ep,lk,q2⟩=>?_)
 subst ep
 obtain ⟨rs,c,rk⟩:=qb (P:=X.prog) (w:=X.w) rel
 obtain ⟨z,hd,vs0,r0,dd⟩:=zf6 I2.hok e
 cases r0
 refine ⟨rs,c,dd,fun h' dd' hs=>⟨.ref s.heap.objs.size,_,?_,rfl,q2⟩⟩
 have hz:(vC [] kvs).length<=sizeLine:=by
  have h1:=vz kvs []
  rw [List.length_nil] at h1
  rw [sizeLine_eq]; omega
 have he:∃ q,h'.get? s.heap.objs.size = some q:=let ⟨q,_,_,hq,_⟩:=dd'; ⟨q,hq⟩
 exact jv I2 (by rw [e]; exact True.intro) hs he (zcU hz hd (rk.merge .nil) dd')
structure M1 (X:Cx) (o:Expr) (m:Str) (apos:Pos) (e:Expr) (cpos:Pos):Prop where
 base:attributeBase o m X.env (eval o X.env) = eval o X.env
 few:((backTo cpos (starEach [e] X.env)).all (fun x=>!x.1) && (backToKw cpos (keywordEach [] X.env)).all (fun x=>x.1.isSome)
  && decide (([e]:List Expr).length + ([]:List Keyword).length + (if ([]:List Keyword).isEmpty then 0 else 1) < 30)) = true
 line:(apos.endLine == cpos.line) = true
 trees:backTo cpos (starEach [e] X.env) = [(false,eval e X.env)]
def IsD (H:Hp) (a:Addr):Prop:=(∃ kvs,Rd H a (.dK kvs))\/∃ kvs,Rd H a (.dT kvs)
theorem ziy {X:Cx} {pins:List (Addr × Obj)} {σ : St} {H:Hp} {s:Shared} {a:Addr} (I:Inv X pins σ H s) (d:IsD H a) :
  s.TypeIs (.ref a) "dict"/\(∀ b,Value.ref a = .ref b->∃ ob,s.heap.get? b = some ob/\ob.dict = none)/\(a == sysModules) = false:=by
 rcases d with ⟨kvs,e⟩ | ⟨kvs,e⟩
 ·obtain ⟨_,hd,vs,_,dd⟩:=j7 I.hok e
  refine ⟨dd.typeIs,fun b q=>?_,hd⟩
  cases q
  obtain ⟨ob,_,_,h1,h2,_⟩:=dd
  exact ⟨ob,h1,h2.2.1⟩
 ·obtain ⟨_,hd,xs,_,dd⟩:=j6 I.hok e
  refine ⟨dd.typeIs,fun b q=>?_,hd⟩
  cases q
  obtain ⟨ob,_,_,h1,h2,_⟩:=dd
  exact ⟨ob,h1,h2.2.1⟩
section
variable {X:Cx} {pins:List (Addr × Obj)} {σ : St} {H:Hp} {s:Shared} {a:Addr} {y d:V} {u r:Value} {o:Option V} {A:Around} {E:Value->Shared->Prop}
theorem ziJ {Q:Value->Shared->Prop} (hu:A.units + 1 < cLine) (I:Inv X pins σ H s) (g:za7 H a y o) (ry:zN y u) (h:∀ w' s',Inv X pins σ H s'->zN (o.getD .non) w'->Q w' s') :
  wpAny (model X.prog X.w) A (call (.builtin "dict.get") [.ref a,u]) Q E s:=by
 rcases g with ⟨kvs,k,e,ey,l⟩ | ⟨kvs,k,b,e,ey,eb,l⟩
 ·subst ey
  obtain ⟨z,hd,vs,rel,dd⟩:=j7 I.hok e
  refine call_meetsIn PySem.F.slot_dict_get dd.typeIs PySem.F.entry_dict_get (PySem.F.args_dict_get_2 _ _) (meets_dict_get (zY X.prog X.w) a (jc ry) hd) ⟨_,dd.mapOf,h _ _ (I.tok _) ?_⟩
  rw [l]
  exact (rel.val k).getD rfl
 ·subst ey
  cases (show u = Value.ref b from ry)
  obtain ⟨z,hd,xs,rel,dd⟩:=j6 I.hok e
  refine call_meetsIn PySem.F.slot_dict_get dd.typeIs PySem.F.entry_dict_get (PySem.F.args_dict_get_2 _ _) (meetsH_dict_get (tupleKind (zY X.prog X.w)) a b hd) ⟨tupleKind_room_in1 hu,k,xs,u0 I.hok eb,dd,h _ _ (I.tok _) ?_⟩
  rw [l]
  exact (rel.val k).getD rfl
end
def zhP (td ty:TE):TE:=fun σ H Q=>td σ H fun x H1=>∃ a,x = .ref a/\IsD H1 a/\ty σ H1 fun y H2=>∃ o,za7 H2 a y o/\Q (o.getD .non) H2
section
variable {X:Cx} {o e f:Expr} {apos cpos:Pos} {td ty tx:TE}
theorem zfh (hu:X.A.units + 1 < cLine) (ho:PE X o td) (he:PE X e ty) (m:M1 X o "get" apos e cpos):PE X (.Call (.Attribute o "get" apos) [e] [] cpos) (zhP td ty):=by
 refine ⟨?_⟩
 intro pins s σ H Q I h
 refine wpAny_Call_method m.base m.few m.line PySem.F.plainAttrs_dict PySem.F.slot_dict_get PySem.F.type_dict_get (thn (ho pins s σ H _ I h) fun u s1 ⟨x,H1,I1,rx,a,ex,d,q1⟩=>?_)
 subst ex
 obtain rfl:u = Value.ref a:=rx
 obtain ⟨t1,t2,_⟩:=ziy I1 d
 refine ⟨t1,t2,?_⟩
 rw [m.trees]
 refine Calls.callWith_builtin rfl (Calls.evalArgs_plain (Calls.spliced_cons (thn (he pins s1 σ H1 _ I1 q1) fun iv s2 ⟨y,H2,I2,ry,ov,g,q2⟩=>Calls.spliced_nil ?_)))
 exact ziJ hu I2 g ry fun w' s3 I3 rw'=>⟨_,H2,I3,rw',q2⟩
end
section
variable {X:Cx} {pins:List (Addr × Obj)} {σ : St} {H:Hp} {s:Shared} {a:Addr} {kvs:List (Key × V)} {A:Around} {E:Value->Shared->Prop}
end
section
variable {X:Cx} {pins:List (Addr × Obj)} {σ : St} {H:Hp} {s:Shared} {a:Addr} {y:V} {u:Value} {A:Around} {E:Value->Shared->Prop}
end
end L2
namespace Att
open PySem PySem.W PySem.Calls PyProof.Rows
theorem jh {P:Params} {h:Heap}:∀ (ns:List Int) (vs:List Value),WellAll P h vs (ns.map WData.int)->IntsAre vs ns:=by
 intro ns
 induction ns with
 | nil=>
  intro vs w
  rw [List.map_nil] at w
  cases w
  exact .nil
 | cons n ns ih=>
  intro vs w
  rw [List.map_cons] at w
  cases w with
  | cons a b=>
   cases a
   exact .cons _ _ (ih _ b)
theorem zdQ {l:OpenLaw} {n:Nat} (hn:l.most = some n) {P:Params} {h:Heap} {args:List WData} {vals:List Value}
  (hpre:l.row.toRowW.claim.pre args = true) (hwl:WellAll P h vals args) :
  ∃ a vs ns,vals = [Value.ref a]/\args = [WData.list (ns.map WData.int)]/\h.get? a = some { cls:=.type "list",data:=.seq vs.toArray }/\IntsAre vs ns/\ns.length<=n:=by
 have hsh:WShape.hasAll [] args [.list .int] = true:=(pre_splitW hpre).1
 have hc:l.pre.holds [] { args:=args } = true:=(pre_splitW hpre).2
 obtain ⟨d,r,rfl,h1,h2⟩:=hasAllW_cons hsh
 obtain rfl:=hasAllW_nil h2
 obtain ⟨xs,rfl,h3⟩:=hasW_list h1
 obtain ⟨ns,rfl⟩:=items_int h3
 have hlen:ns.length<=n:=by
  unfold OpenLaw.pre at hc
  have h4:(WTm.not (.lt (.lit (.int (n:Int))) (.len (.arg 0)))).holds [] { args:=[.list (ns.map .int)] } = true:=by
   have h4:=(holds_andW hc).1
   rw [hn] at h4
   exact h4
  have h5:=condW_of h4 (w_not (w_lt w_lit (w_len_list (w_arg rfl))))
  rw [List.length_map] at h5
  refine Nat.le_of_not_lt fun q=>?_
  have q':(n:Int) < ((ns.length:Nat):Int):=by omega
  first
   | (rw [decide_eq_true q'] at h5; exact absurd h5 (by decide))
   | (simp at h5; omega)
 cases hwl with
 | cons w1 w2=>
  cases w2
  cases w1 with
  | list ho hall=>exact ⟨_,_,ns,rfl,rfl,ho,jh ns _ hall,hlen⟩
theorem zd1 (l:OpenLaw) (args:List WData):l.row.toRowW.claim.post args (.bool true) args = true:=
 postW_of (r:=l.row.toRowW) (X:=(true == true))
  (show WShape.has [] (.bool true) .bool = true by first | rfl | decide | simp [WShape.has,WShape.arms,WShape.armsAll])
  (show (WTm.eq .res (.lit (.bool true))).value [] { args:=args,res:=some (.bool true),after:=args } = some (.bool (true == true)) from w_eq_bool (w_res rfl) w_lit) rfl
section
variable {prog:Program} {w:World} {A:Around} {E:Value->Shared->Prop} {s:Shared} {K:Frag}
def zkg (h:Heap) (L d:Addr):List (Addr × Obj):=(List.range h.objs.size).filterMap fun a=>if a = L\/a = d then none else (h.get? a).map fun o=>(a,o)
end
end Att
namespace L2
open PySem PySem.Spec PyProof.Rows
theorem qo:∀ {vs:List Value} {ns:List Int},IntsAre vs ns->zP (ns.map V.int) vs
 | _,_,.nil=>.nil
 | _,_,.cons n t h=>.cons ⟨t,rfl⟩ (qo h)
def ziM (H:Hp):Prop:=∀ b,H b = none\/∃ o xs,H b = some (.frz o (.lst xs))
theorem zfR {P:Program} {w:World} {K:Frag} {mg mb:Str->Option Value} {CX:CXT} {k:Nat} {fa a:Addr} {fd:FuncData} {x:Str} {sp:Sp} {s₁:Shared} {vs:List Value} {ns:List Int}
  (KX:K.In s₁.heap) (hns:s₁.heap.Ns mainGlobals mg) (hb:s₁.heap.Ns builtinsNs mb) (hbb:∀ x:Str,x ≠ "__name__"->mb x = bootBuiltins x) (hlim:s₁.heap.NoLimit) (hg:s₁.gens = #[])
  (ha:s₁.heap.get? a = some { cls:=.type "list",data:=.seq vs.toArray }) (hi:IntsAre vs ns) (hl:ns.length<=sizeLine) (hr:z8 k callerA)
  (F:∀ base:Heap,K.In base->base.Ns mainGlobals mg->zE P w K mg base CX k fa fd [x] sp) (hbind:∀ (s:Shared) (u:Value),BindsTo s fd ⟨[u],[]⟩ [(x,u)])
  (hsp:∀ H:Hp,ziM H->SqL K H a (ns.map V.int)->sp [.ref a] H (fun v _=>v = .bl true) fun _ _ _=>False)
  (hCX:∀ H e s',CX [] H s₁ (fun _ _ _=>False) e s'->False) :
  codeAny (model P w) callerA (.call (.ref fa) ⟨[.ref a],[]⟩) (fun r s'=>r = .ok (.ret (.bool true))/\OldK s₁.heap s'.heap/\s'.os = s₁.os/\AllBare s'.gens) s₁:=by
 have rv:=qo hi
 have lenV:=hi.length
 have core:∀ H:Hp,ziM H->SqL K H a (ns.map V.int)->HOk P w H s₁.heap->(∀ b,H b ≠ none->b = a)->(H a ≠ none->K.lookup a = none)->
   codeAny (model P w) callerA (.call (.ref fa) ⟨[.ref a],[]⟩) (fun r s'=>r = .ok (.ret (.bool true))/\OldK s₁.heap s'.heap/\s'.os = s₁.os/\AllBare s'.gens) s₁:=by
  intro H hO hS hok hA hK
  have base_of:∀ {b:Addr} {o:Obj},s₁.heap.get? b = some o->H b = none->(zaW s₁.heap H).get? b = some o:=fun e n=>zfX e n
  have noA:∀ {b:Addr} {o:Obj} {es:Array DictEntry} {ep:Nat},s₁.heap.get? b = some o->o.data = .dict es ep->H b = none:=fun {b o es ep} e d=>by
   cases q:H b with
   | none=>rfl
   | some u=>
    have e':b = a:=hA b (by rw [q]; simp)
    subst e'
    rw [ha] at e; cases e
    have d':Data.seq vs.toArray _ = Data.dict es ep:=d
    cases d'
  have nsK:∀ {b:Addr} {m:Str->Option Value},s₁.heap.Ns b m->(zaW s₁.heap H).Ns b m:=fun {b m} ⟨o,es,ep,e,d,r⟩=>⟨o,es,ep,base_of e (noA e d),d,r⟩
  have hKb:K.In (zaW s₁.heap H):=fun b o e=>base_of (KX b o e) (by
   cases q:H b with
   | none=>rfl
   | some u=>
    have e':b = a:=hA b (by rw [q]; simp)
    subst e'
    rw [hK (by rw [q]; simp)] at e; cases e)
  have hM:Mod K mg (zaW s₁.heap H):=⟨hKb,nsK hns,⟨mb,nsK hb,hbb⟩,let ⟨mc,h1,h2⟩:=hlim; ⟨mc,nsK h1,h2⟩⟩
  have e0:zc1 P w K mg (zaW s₁.heap H) callerA [] s₁ H:=⟨rfl,hM,fun b o e=>zg1 e,Nat.le_of_eq (zes _ _),trivial,fun b hb=>absurd (show b ∈ ([]:List Addr) from hb) (by simp),hok,.of_eq hg⟩
  refine codeAny_mono ((F _ hKb (nsK hns)).run callerA [] s₁ H ⟨[.ref a],[]⟩ [.ref a] [.ref a] _ _ hr e0 (hbind s₁ (.ref a)) (.cons rfl .nil) (hsp H hO hS)) fun r s' h=>?_
  cases r with
  | error e=>exact (hCX H e s' h).elim
  | ok fl=>
   cases fl with
   | next=>exact False.elim h
   | brk=>exact False.elim h
   | cont=>exact False.elim h
   | ret u=>
    obtain ⟨v,H',os,bare,un,hok',r',q⟩:=h
    have q':v = .bl true:=q
    subst q'
    obtain rfl:u = Value.bool true:=r'
    refine ⟨rfl,OldK.of_keep fun b o e=>?_,os,bare⟩
    cases q:H b with
    | none=>exact un.keep b o e q (by intro z; exact absurd (show b ∈ ([]:List Addr) from z) (by simp)) (by simp)
    | some u=>
     rcases hO b with z | ⟨ob,xs,z⟩
     ·rw [q] at z; cases z
     ·have z2:=un.frzs b ob _ z
      obtain ⟨e1,_⟩:=hok b _ z
      obtain ⟨e2,_⟩:=hok' b _ z2
      rw [e] at e1; cases e1
      exact e2
 cases hk:K.lookup a with
 | some o=>
  have e:=KX a o hk
  rw [ha] at e
  cases e
  refine core (fun _=>none) (fun _=>.inl rfl) (.inr ⟨_,vs.toArray,_,hk,rfl,rfl,rfl,by rw [List.size_toArray,lenV]; exact hl,by simpa using rv⟩) (fun b u z=>by have z':(none:Option HO) = some u:=z; cases z') (fun b z=>absurd rfl z) fun z=>absurd rfl z
 | none=>
  refine core (fun b=>if b = a then some (.frz { cls:=.type "list",data:=.seq vs.toArray } (.lst (ns.map V.int))) else none) (fun b=>?_) (.inl (.inr ⟨{ cls:=.type "list",data:=.seq vs.toArray },if_pos rfl⟩)) (fun b u z=>?_) (fun b z=>?_) fun _=>hk
  ·by_cases hb:b = a
   ·exact .inr ⟨_,_,if_pos hb⟩
   ·exact .inl (if_neg hb)
  ·by_cases hb:b = a
   ·have z':=(if_pos hb).symm.trans z
    cases z'
    subst hb
    exact ⟨ha,by rw [List.length_map]; exact hl,vs,_,rv,ha⟩
   ·have z':=(if_neg hb).symm.trans z
    cases z'
  ·by_cases hb:b = a
   ·exact hb
   ·exact absurd (if_neg hb) z
def yg (s:Stmt) (j:Nat):Stmt:=match s with
 | .ClassDef _ _ _ body _ _ _ _ _ _ _=>body.getD j (.Pass ⟨0,0,0,0⟩)
 | _=>.Pass ⟨0,0,0,0⟩
def zq (s:Stmt):Arguments:=match s with
 | .FunctionDef _ a _ _ _ _ _ _ _ _=>a
 | _=>{ posonlyargs:=[],args:=[],vararg:=none,kwonlyargs:=[],kw_defaults:=[],kwarg:=none,defaults:=[] }
def zo (s:Stmt):List Stmt:=match s with
 | .FunctionDef _ _ b _ _ _ _ _ _ _=>b
 | _=>[]
def ze (s:Stmt):Scope:=match s with
 | .FunctionDef _ _ _ _ _ _ sc _ _ _=>sc
 | _=>{ kind:=.function,names:=[],isGenerator:=false,isCoroutine:=false }
abbrev CX0:CXT:=fun _ _ _ _ _ _=>False
abbrev E0:XK:=fun _ _ _=>False
theorem y7 {X:Cx}:xy CX0 X E0:=fun _ _ _ _ _ _ _ h=>h.elim
structure Fun (K:Frag) (x qual:Str) (st:Stmt) (f:Addr) (fd:FuncData):Prop where
 ex:∃ (oc:Value) (od:Option Addr) (kV doc pm:Value) (an:Option Addr) (cdv ct:Value) (osl:Array (Option Value)),
  fd = fnOf x qual (zq st) (zo st) (ze st) .none kV doc pm an cdv ct/\K.lookup f = some ⟨oc,od,.func fd,osl⟩/\codeIn K cdv qual = true
 kp:keepIn K (.ref f) = true
section
variable {P:Program} {w:World} {K:Frag} {mg:Str->Option Value} {base:Heap}
theorem Fun.ok {x qual:Str} {st:Stmt} {f:Addr} {fd:FuncData} {N ps:List Str} {k:Nat} {sp:Sp} (F:Fun K x qual st f fd) (S:zu N ps (ze st)) (len:∀ vs H Q E,sp vs H Q E->vs.length = ps.length)
  (hbody:∀ (cdv:Value) (A:Around) (outer:List Env) (s:Shared) (H:Hp) (vs:List V) (Q:VK) (E:XK),z8 k (A.deeper (envOfC qual (ze st) s.heap.objs.size f cdv))->sp vs H Q E->
   ∃ t,PSs (qa CX0 P w K mg base N qual (ze st) f cdv A outer s H E).nox (zo st) t/\t { nx:=fun _ H'=>Q .non H',rt:=Q } (wK N vs) H):zE P w K mg base CX0 (k + 1) f fd ps sp:=by
 obtain ⟨oc,od,kV,doc,pm,an,cdv,ct,osl,rfl,lk,hcd⟩:=F.ex
 refine zdB lk hcd S len fun A outer s H vs Q E hr hsp=>?_
 obtain ⟨t,h,q⟩:=hbody cdv A outer s H vs Q E hr hsp
 exact ⟨t,h.nox,q⟩
theorem Fun.binds {x qual:Str} {st:Stmt} {f:Addr} {fd:FuncData} {ps:List Str} (F:Fun K x qual st f fd)
  (h:∀ (kV doc pm:Value) (an:Option Addr) (cdv ct:Value) (us:List Value),us.length = ps.length->bindArgs (fnOf x qual (zq st) (zo st) (ze st) .none kV doc pm an cdv ct) ⟨us,[]⟩ = pure (ps.zip us)):zS K fd ps []:=by
 obtain ⟨oc,od,kV,doc,pm,an,cdv,ct,osl,rfl,lk,hcd⟩:=F.ex
 exact .all (h kV doc pm an cdv ct)
theorem zG {x qual:Str} {st:Stmt} {f:Addr} {oc:Value} {od an:Option Addr} {osl:Array (Option Value)} {kV doc pm cdv ct:Value} (l:K.lookup f = some ⟨oc,od,.func (fnOf x qual (zq st) (zo st) (ze st) .none kV doc pm an cdv ct),osl⟩)
  (c:codeIn K cdv qual = true) (k:keepIn K (.ref f) = true):Fun K x qual st f (fnOf x qual (zq st) (zo st) (ze st) .none kV doc pm an cdv ct):=⟨⟨oc,od,kV,doc,pm,an,cdv,ct,osl,rfl,l,c⟩,k⟩
end
theorem qZ {A:Around} {k:Nat} (hr:z8 k A):A.units + 1 < cLine:=Nat.lt_of_le_of_lt (Nat.add_le_add_left (by decide : 1<=64) _) hr.units
theorem zF {n:Nat} (h:n<=1000):n < sizeLine:=Nat.lt_of_le_of_lt h (by decide)
section
variable {X:Cx}
theorem pv (i:Nat) {x:Str} {pos:Pos} (hN:X.N[i]? = some x:=by rfl) (hv:Vis X.env.scope x:=by first | exact Or.inl rfl | exact Or.inr (Or.inl rfl) | exact Or.inr (Or.inr rfl)) (hd:(x == ("__debug__" : Str)) = false:=by decide)
  (hcd:(x == ("__classdict__" : Str)) = false:=by decide):PE X (.Name x pos) (zhK i):=zic hN hv hd hcd
end
theorem yk {A B:Prop} (h:B):if false = true then A else B:=by
 rw [if_neg Bool.false_ne_true]
 exact h
theorem xI {A B:Prop} (h:A):if true = true then A else B:=by
 rw [if_pos rfl]
 exact h
theorem qk {c A B:Prop} [Decidable c] (h1:c->A) (h2:¬ c->B):if c then A else B:=by
 by_cases h:c
 ·rw [if_pos h]
  exact h1 h
 ·rw [if_neg h]
  exact h2 h
def zm (H H':Hp):Prop:=∀ b o,H b = some o->H' b = some o
theorem zm.refl (H:Hp):zm H H:=fun _ _ h=>h
theorem zm.trans {H H1 H2:Hp} (a:zm H H1) (b:zm H1 H2):zm H H2:=fun c o h=>b c o (a c o h)
theorem zm.free {H H':Hp} (e:zm H H') {l:Addr} (h:H' l = Option.none):H l = Option.none:=by
 cases q:H l with
 | none=>rfl
 | some o=>
  rw [e l o q] at h
  cases h
theorem zm.seq {K:Frag} {H H':Hp} {a:Addr} {xs:List V} (e:zm H H') (h:SqL K H a xs):SqL K H' a xs:=by
 rcases h with (h | ⟨o,h⟩) | h
 ·exact .inl (.inl (e _ _ h))
 ·exact .inl (.inr ⟨o,e _ _ h⟩)
 ·exact .inr h
section
variable {X:Cx}
end
section
variable {κ : Type} [DecidableEq κ]
end
def clB (env:Env) (fr:List Str):List (Str × Addr):=fr.map fun n=>(n,(env.cells.lookup n).getD 0)
theorem zbY {env:Env}:∀ {fr:List Str} {x:Str} {c:Addr},(clB env fr).lookup x = some c->x ∈ fr/\c = (env.cells.lookup x).getD 0
 | [],x,c,h=>by simp [clB] at h
 | n :: r,x,c,h=>by
  have h':List.lookup x ((n,(env.cells.lookup n).getD 0) :: clB env r) = some c:=h
  rw [List.lookup_cons] at h'
  cases e:x == n with
  | true=>
   rw [e] at h'
   have e':x = n:=by simpa using e
   subst e'
   exact ⟨List.mem_cons_self,(Option.some.inj h').symm⟩
  | false=>
   rw [e] at h'
   obtain ⟨h1,h2⟩:=zbY h'
   exact ⟨List.mem_cons_of_mem _ h1,h2⟩
theorem za1 {env:Env}:∀ {fr:List Str} {x:Str},x ∈ fr->(clB env fr).lookup x = some ((env.cells.lookup x).getD 0)
 | n :: r,x,h=>by
  show List.lookup x ((n,(env.cells.lookup n).getD 0) :: clB env r) = _
  rw [List.lookup_cons]
  cases e:x == n with
  | true=>
   have e':x = n:=by simpa using e
   subst e'
   rfl
  | false=>
   rcases List.mem_cons.mp h with z | z
   ·subst z; simp at e
   ·exact za1 z
theorem wO {env:Env}:∀ {names:List (Str × NameKind)} {x:Str} {k:NameKind},
  (names.map fun (n,k)=>if (k == NameKind.free && env.scope.kind == .function && env.kindOf n == some .cell) then (n,NameKind.cell) else (n,k)).lookup x = some k->
  ∃ k0,(x,k0) ∈ names/\(k = k0\/(k0 = .free/\k = .cell))
 | [],_,_,h=>by simp at h
 | (n,k0) :: r,x,k,h=>by
  have h':List.lookup x ((if (k0 == NameKind.free && env.scope.kind == .function && env.kindOf n == some .cell) = true then (n,NameKind.cell) else (n,k0)) ::
   (r.map fun (n,k)=>if (k == NameKind.free && env.scope.kind == .function && env.kindOf n == some .cell) then (n,NameKind.cell) else (n,k))) = some k:=h
  by_cases hc:(k0 == NameKind.free && env.scope.kind == .function && env.kindOf n == some .cell) = true
  ·rw [if_pos hc,List.lookup_cons] at h'
   cases e:x == n with
   | true=>
    rw [e] at h'
    have e':x = n:=by simpa using e
    subst e'
    simp only [Bool.and_eq_true] at hc
    exact ⟨k0,List.mem_cons_self,.inr ⟨by simpa using hc.1.1,(Option.some.inj h').symm⟩⟩
   | false=>
    rw [e] at h'
    obtain ⟨k1,h1,h2⟩:=wO h'
    exact ⟨k1,List.mem_cons_of_mem _ h1,h2⟩
  ·rw [if_neg hc,List.lookup_cons] at h'
   cases e:x == n with
   | true=>
    rw [e] at h'
    have e':x = n:=by simpa using e
    subst e'
    exact ⟨k0,List.mem_cons_self,.inl (Option.some.inj h').symm⟩
   | false=>
    rw [e] at h'
    obtain ⟨k1,h1,h2⟩:=wO h'
    exact ⟨k1,List.mem_cons_of_mem _ h1,h2⟩
theorem wq {env:Env} (hk:env.scope.kind = .function):∀ {names:List (Str × NameKind)} {x:Str},names.lookup x = some .free->env.kindOf x = some .cell->
  (names.map fun (n,k)=>if (k == NameKind.free && env.scope.kind == .function && env.kindOf n == some .cell) then (n,NameKind.cell) else (n,k)).lookup x = some .cell
 | [],_,h,_=>by simp at h
 | (n,k0) :: r,x,h,hx=>by
  show List.lookup x ((if (k0 == NameKind.free && env.scope.kind == .function && env.kindOf n == some .cell) = true then (n,NameKind.cell) else (n,k0)) ::
   (r.map fun (n,k)=>if (k == NameKind.free && env.scope.kind == .function && env.kindOf n == some .cell) then (n,NameKind.cell) else (n,k))) = some .cell
  rw [List.lookup_cons] at h
  cases e:x == n with
  | true=>
   rw [e] at h
   have e':x = n:=by simpa using e
   subst e'
   have h0:k0 = .free:=Option.some.inj h
   subst h0
   rw [if_pos (by rw [hk,hx]; decide),List.lookup_cons]
   simp
  | false=>
   rw [e] at h
   have ih:=wq hk h hx
   split
   ·rw [List.lookup_cons,e]; exact ih
   ·rw [List.lookup_cons,e]; exact ih
abbrev zO (X:Cx) (pins:List (Addr × Obj)) (sc:Scope) (fr Nc:List Str) (fp:List Addr) (s:Shared) (H:Hp) (C:Addr):Cx:=
 { prog:=X.prog,w:=X.w,K:=X.K,mg:=X.mg,base:=X.base,A:=X.A,N:=Nc,s₀:=s,H₀:=H,env:=compEnvC sc (clB X.env fr) C X.env,outer:=X.stack,stack:=X.stack,ex:=fp,fn:=fun _=>false,calm:=X.calm,pn:=X.pn ++ pins,xe:=fun _ _=>False }
structure yS (env:Env) (sc:Scope) (fr:List Str):Prop where
 kind:sc.kind = .function
 clos:closureFor sc env = pure (clB env fr)
 cells:(fr.all fun n=>(env.cells.lookup n).isSome) = true
 names:(sc.names.all fun y=>(y.2 != .cell) && (y.2 != .free || fr.contains y.1) && (y.2 != .local || sc.names.lookup y.1 == some .local)) = true
def vG (N Nc:List Str) (caps:List (Option Nat)) (env:Env) (sc:Scope) (fr:List Str):Bool:=
 (Nc.zip caps).all fun p=>match p.2 with
  | none=>true
  | some j=>(N[j]? == some p.1) && (env.kindOf p.1 == some .cell) && (sc.names.lookup p.1 == some .free) && fr.contains p.1
def y0 (caps:List (Option Nat)) (σ : St):St:=caps.map fun o=>match o with
 | none=>none
 | some j=>(σ[j]?).join
section
variable {X:Cx} {pins:List (Addr × Obj)} {σ : St} {H:Hp} {s:Shared} {sc:Scope} {fr Nc:List Str} {fp:List Addr} {C:Addr}
theorem yS.sub {env:Env} (B:yS env sc fr) {x:Str} {c:Addr} (h:(clB env fr).lookup x = some c):env.cells.lookup x = some c:=by
 obtain ⟨h1,h2⟩:=zbY h
 have h3:=List.all_eq_true.mp B.cells x h1
 obtain ⟨d,hd⟩:=Option.isSome_iff_exists.mp h3
 rw [hd] at h2 |-
 rw [h2]; rfl
theorem yS.free {env:Env} (B:yS env sc fr) {x:Str} {k:NameKind} (h:(relabel sc env).names.lookup x = some k) (hk:k = .cell\/k = .free):x ∈ fr:=by
 obtain ⟨k0,h1,h2⟩:=wO h
 have h3:=List.all_eq_true.mp B.names _ h1
 simp only [Bool.and_eq_true,Bool.or_eq_true,bne_iff_ne,ne_eq,List.contains_iff_mem] at h3
 have h4:k0 = .free:=by
  rcases h2 with h2 | ⟨h2,_⟩
  ·subst h2
   rcases hk with z | z
   ·exact absurd z h3.1.1
   ·exact z
  ·exact h2
 rcases h3.1.2 with z | z
 ·exact absurd h4 z
 ·exact z
theorem zdH (I:Inv X pins σ H s) (B:yS X.env sc fr) (hf:∀ b ∈ fp,wT X pins H b) (ho:∀ b ∈ fp,∃ o,s.heap.get? b = some o) (hC:s.heap.objs.size<=C):(zO X pins sc fr Nc fp s H C).Ok where
 mod:=I.ok.mod
 kind:=B.kind
 glob:=I.ok.glob
 blt:=I.ok.blt
 above:=hC
 inj:=fun x y c h1 h2=>I.ok.inj x y c (B.sub h1) (B.sub h2)
 has:=fun x h=>by
  have hx:x ∈ fr:=by
   rcases h with h | h
   ·exact B.free h (.inl rfl)
   ·exact B.free h (.inr rfl)
  exact ⟨_,za1 hx⟩
 cab:=fun x c h=>absurd h (by simp)
 hd:=I.ok.hd
 frames:=I.ok.frames
 stk:=.inl rfl
 exf:=fun b hb=>by
  obtain ⟨o,e⟩:=ho b hb
  refine ⟨fun z=>?_,fun x c h=>(hf b hb).2.2.2.2.1 x c (B.sub h)⟩
  have z':b = C:=z
  have:=Heap.lt_size e
  rw [z'] at this
  exact absurd (Nat.lt_of_lt_of_le this hC) (Nat.lt_irrefl _)
 bs:=I.bs
 bsz:=Nat.le_trans I.ok.bsz I.sz
 noex:=fun b o e hb=>by
  rcases (hf b hb).2.2.2.1 with z | z
  ·exact I.ok.noex b o e z
  ·exact absurd (Nat.lt_of_lt_of_le (Heap.lt_size (I.ok.bs b o e).1) z) (Nat.lt_irrefl _)
 exfs:=fun b hb h=>by
  rcases List.mem_cons.mp (I.stkSub b h) with z | z
  ·exact (hf b hb).2.1 z
  ·exact (hf b hb).2.2.1 z
 funs:=I.stack
 frf:=I.stkFree
theorem Inv.pin_lt (I:Inv X pins σ H s) {p:Addr × Obj} (hp:p ∈ X.pn ++ pins):p.1 < s.heap.objs.size:=Heap.lt_size (I.pin p hp).1
theorem zcV {caps:List (Option Nat)} {h':Heap} {D:Addr} {m:Str->Option Value} {t' n0:Nat} (I:Inv X pins σ H s) (B:yS X.env sc fr) (hf:∀ b ∈ fp,wT X pins H b) (ho:∀ b ∈ fp,∃ o,s.heap.get? b = some o)
  (hC:s.heap.objs.size<=C) (hD:s.heap.objs.size<=D) (hDC:D ≠ C) (keep:∀ b o,s.heap.get? b = some o->h'.get? b = some o) (hl:h'.get? D = some { cls:=.type "list",data:=.seq ([]:List Value).toArray n0 }) (hn:h'.Ns C m)
  (hcap:vG X.N Nc caps X.env sc fr = true) (hlen:caps.length = Nc.length) :
  Inv (zO X pins sc fr Nc fp s H C) [] (y0 caps σ) (upd H D (.lst [])) { s with heap:=h',toks:=t' }:=by
 have hk:X.env.scope.kind = .function:=I.ok.kind
 have fresh:∀ a,s.heap.objs.size<=a->H a = none:=fun a ha=>I.hok.fresh ha
 refine ⟨zdH I B hf ho hC,rfl,I.bare,Un.laid keep hD (fresh D hD),⟨m,hn,fun i x v e1 e2 e3=>?_⟩,fun x c h=>?_,?_,fun x c h=>?_,fun p hp=>?_,?_,?_⟩
 ·
  have e2':(caps[i]?).map (fun o=>match o with | none=>none | some j=>(σ[j]?).join) = some (some v):=by
   have:(y0 caps σ)[i]? = some (some v):=e2
   unfold y0 at this
   rw [List.getElem?_map] at this
   exact this
  cases hc:caps[i]? with
  | none=>rw [hc] at e2'; cases e2'
  | some o=>
   rw [hc] at e2'
   cases o with
   | none=>simp at e2'
   | some j=>
    have e4:(σ[j]?).join = some v:=by simpa using e2'
    have e5 : σ[j]? = some (some v):=by
     cases q : σ[j]? with
     | none=>rw [q] at e4; cases e4
     | some w'=>rw [q] at e4; simp at e4; rw [e4]
    have e6:(Nc.zip caps)[i]? = some (x,some j):=by
     rw [List.getElem?_zip_eq_some]
     exact ⟨e1,hc⟩
    have e7:=List.all_eq_true.mp hcap _ (List.mem_of_getElem? e6)
    simp only [Bool.and_eq_true,beq_iff_eq,List.contains_iff_mem] at e7
    obtain ⟨⟨⟨a1,a2⟩,a3⟩,a4⟩:=e7
    obtain ⟨m0,hn0,hl0⟩:=I.loc
    obtain ⟨u,r,l⟩:=hl0 j x v a1 e5 (.inr (.inl a2))
    refine ⟨u,r,.inr ⟨.inl (wq hk a3 a2),_,za1 a4,?_⟩⟩
    rcases l with ⟨z,_⟩ | ⟨_,c,ec,hcell⟩
    ·rw [a2] at z; cases z
    ·have:(X.env.cells.lookup x).getD 0 = c:=by rw [ec]; rfl
     rw [this]
     exact hcell.keeps keep
 ·obtain ⟨v,hv⟩:=I.cell x c (B.sub h)
  exact ⟨v,hv.keeps keep⟩
 ·show upd H D (.lst []) C = none
  rw [zi (Ne.symm hDC)]; exact fresh C hC
 ·obtain ⟨v,hv⟩:=I.cell x c (B.sub h)
  have:c ≠ D:=fun z=>by have:=hv.lt; rw [z] at this; exact absurd (Nat.lt_of_lt_of_le this hD) (Nat.lt_irrefl _)
  rw [zi this]; exact I.freeC x c (B.sub h)
 ·have hp':p ∈ X.pn ++ pins:=by simpa using hp
  obtain ⟨e,n,ne,nf,d⟩:=I.pin p hp'
  have hlt:=I.pin_lt hp'
  refine ⟨keep _ _ e,?_,?_,fun z=>?_,d⟩
  ·rw [zi (fun z=>by rw [z] at hlt; exact absurd (Nat.lt_of_lt_of_le hlt hD) (Nat.lt_irrefl _))]; exact n
  ·intro z
   have z':p.1 = C:=z
   rw [z'] at hlt; exact absurd (Nat.lt_of_lt_of_le hlt hC) (Nat.lt_irrefl _)
  ·rcases List.mem_cons.mp (I.stkSub p.1 z) with q | q
   ·exact ne q
   ·exact nf q
 ·exact I.hok.laid keep hD ⟨Nat.zero_le _,[],n0,.nil,hl⟩
 ·show (y0 caps σ).length = Nc.length
  unfold y0
  rw [List.length_map,hlen]
theorem u5 {pl:List (Addr × Obj)} {σ':St} {H':Hp} {s':Shared} (I:Inv X pins σ H s) (hf:∀ b ∈ fp,wT X pins H b) (J:Inv (zO X pins sc fr Nc fp s H C) pl σ' H' s'):Inv X pins σ H' s':=
 I.call' J.os J.base J.hok J.bare fun b hb=>⟨(hf b hb).2.2.2.1,(hf b hb).2.1,(hf b hb).2.2.2.2.1,(hf b hb).2.2.2.2.2⟩
theorem zai {pl:List (Addr × Obj)} {σ' σ2:St} {H':Hp} {s':Shared} {h2:Heap} {t2:Nat} (I:Inv X pins σ H s) (J:Inv (zO X pins sc fr Nc fp s H C) pl σ' H' s') (J2:Inv X pins σ2 H' s') (hs:Heap.SameBut C s'.heap h2):Inv X pins σ2 H' { s' with heap:=h2,toks:=t2 }:=by
 have hC:s.heap.objs.size<=C:=J.ok.above
 refine J2.turned (it:=C) (fun b o hb e=>(hs.2 b hb).trans e) J.free ?_ (.inr (Nat.le_trans I.sz hC)) (fun x c h z=>?_) fun p hp z=>?_
 ·intro z
  have:=I.lt
  rw [<- z] at this
  exact absurd (Nat.lt_of_lt_of_le this hC) (Nat.lt_irrefl _)
 ·obtain ⟨v,hv⟩:=I.cell x c h
  have:=hv.lt
  rw [z] at this
  exact absurd (Nat.lt_of_lt_of_le this hC) (Nat.lt_irrefl _)
 ·have:=I.pin_lt hp
  rw [z] at this
  exact absurd (Nat.lt_of_lt_of_le this hC) (Nat.lt_irrefl _)
end
def ziT:TT:=fun _ H Q=>Q true H
structure PIf (X:Cx) (ifs:List Expr) (t:TT):Prop where
 run:∀ (pins:List (Addr × Obj)) (s:Shared) (σ : St) (H:Hp) (Q:Bool->Hp->Prop),Inv X pins σ H s->t σ H Q->
  wpAny (model X.prog X.w) X.A (forIn ifs true fun c r=>if r = true then do let ok <- isTrue c X.env (eval c X.env); pure (ForInStep.yield ok) else pure (ForInStep.yield r)) (TP X pins σ Q) X.xe s
instance {X:Cx} {ifs:List Expr} {t:TT}:CoeFun (PIf X ifs t) (fun _=>∀ (pins:List (Addr × Obj)) (s:Shared) (σ : St) (H:Hp) (Q:Bool->Hp->Prop),Inv X pins σ H s->t σ H Q->
  wpAny (model X.prog X.w) X.A (forIn ifs true fun c r=>if r = true then do let ok <- isTrue c X.env (eval c X.env); pure (ForInStep.yield ok) else pure (ForInStep.yield r)) (TP X pins σ Q) X.xe s):=⟨PIf.run⟩
theorem xz {X:Cx}:PIf X [] ziT:=⟨fun _ _ _ H _ I h=>wpAny_tests_nil ⟨H,I,h⟩⟩
theorem yq {X:Cx} {c:Expr} {t:TT} (hc:PT X c t):PIf X [c] t:=⟨fun pins s σ H Q I h=>wpAny_tests_one (hc pins s σ H Q I h)⟩
def zcZ (g:TG) (ow:List Nat):Prop:=
 ∀ (v:V) (σ : St) (H:Hp) (Q:St->Hp->Prop),g v σ H Q->g v σ H fun σ2 H2=>Q σ2 H2/\σ2.length = σ.length/\∀ i,i ∉ ow->σ2[i]? = σ[i]?
theorem zW (i:Nat):zcZ (yZ i) [i]:=fun v σ H Q h=>⟨h,List.length_set ..,fun j hj=>List.getElem?_set_ne (fun e=>hj (by simp [e]))⟩
theorem y4 {K:Frag} {n:Nat} (i j:Nat):zcZ (zjE K n (zfZ (yZ i) (zfZ (yZ j) zjF))) [i,j]:=by
 rintro v σ H Q ⟨a,xs,e1,e2,e3,v1,r1,e4,v2,r2,e5,e6,q⟩
 refine ⟨a,xs,e1,e2,e3,v1,r1,e4,v2,r2,e5,e6,q,by rw [List.length_set,List.length_set],fun k hk=>?_⟩
 have h1:i ≠ k:=fun e=>hk (by simp [e])
 have h2:j ≠ k:=fun e=>hk (by simp [e])
 rw [List.getElem?_set_ne h2,List.getElem?_set_ne h1]
section
variable {prog:Program} {w:World} {A:Around} {R:Result->Shared->Prop} {s:Shared}
theorem za0 {elt target iter:Expr} {ifs:List Expr} {scope:Scope} {pos:Pos} {it acc:Value} {env:Env} (I:Nat->Shared->Prop)
  (turn:∀ n s,I n s->wpAny (model prog w) A (pyNext it) (fun r s₁=>match r with
   | none=>R (.ok .next) s₁
   | some v=>wpAny (model prog w) A (letOwnedTupleGo target it v) (fun _ s₀=>wpAny (model prog w) A (assign target env v) (fun _ s₂=>
     wpAny (model prog w) A (forIn ifs true fun c r=>if r = true then do let ok <- isTrue c env (eval c env); pure (ForInStep.yield ok) else pure (ForInStep.yield r)) (fun ok s₃=>
      if ok = true then wpAny (model prog w) A (eval elt env) (fun x s₄=>
       wpAny (model prog w) A (call (.builtin "list.append") [acc,x]) (fun _ s₅=>∃ m,m < n/\I m s₅) (fun _ _=>False) s₄) (fun _ _=>False) s₃
      else ∃ m,m < n/\I m s₃) (fun _ _=>False) s₂) (fun _ _=>False) s₀) (fun _ _=>False) s₁) (fun _ _=>False) s)
  (n:Nat) (h:I n s) :
  codeAny (model prog w) A (.compLoop (.ListComp elt [⟨target,iter,ifs,0⟩] scope pos) 0 it acc env) R s:=by
 refine codeAny_loop rfl I (fun n s hI=>?_) n h
 show wpAny _ A ((compTurn (.ListComp elt [⟨target,iter,ifs,0⟩] scope pos) 0 it acc env).onRaise (fun x=>do noteFrame x env; theTreesLotGoes x)) _ _ s
 refine wpAny_noted ?_
 rw [compTurn_list]
 refine wpAny_bind (wpAny_standAt (wpAny_bind (wpAny_mono (turn n s hI) (fun r s₁ h₁=>?_) fun _ _ z=>z.elim)))
 cases r with
 | none=>exact wpAny_pure h₁
 | some v=>
  refine wpAny_bind (wpAny_mono h₁ (fun _ s₀ h₀=>?_) fun _ _ z=>z.elim)
  refine wpAny_bind (wpAny_mono h₀ (fun _ s₂ h₂=>wpAny_bind (wpAny_mono h₂ (fun ok s₃ h₃=>?_) fun _ _ z=>z.elim)) fun _ _ z=>z.elim)
  cases ok with
  | false=>exact wpAny_pure ⟨rfl,h₃⟩
  | true=>
   exact wpAny_bind (wpAny_bind (wpAny_mono h₃ (fun x s₄ h₄=>wpAny_bind (wpAny_mono h₄ (fun _ s₅ h₅=>wpAny_pure (wpAny_pure ⟨rfl,h₅⟩)) fun _ _ z=>z.elim)) fun _ _ z=>z.elim))
end
def LCr (J:It) (caps:List (Option Nat)) (g:TG) (tt:TT) (te:TE) (σ : St) (H1:Hp) (Q:VK) (D:Addr):Prop:=
 ∃ W:Nat->Nat->List V->Hp->Prop,(∃ m,W 0 m [] (upd H1 D (.lst [])))/\∀ i m ys H,W i m ys H->
  (J.stop i H/\Q (.ref D) H)\/
  (J.go i H/\∀ x H',J.yld i H x H'->g x (y0 caps σ) H' fun σ2 H2=>tt σ2 H2 fun ok H3=>
   (ok = true->te σ2 H3 fun v H4=>H4 D = some (.lst ys)/\ys.length < sizeLine/\∃ m',m' < m/\W (i + 1) m' (ys ++ [v]) (upd H4 D (.lst (ys ++ [v]))))/\
   (ok = false->∃ m',m' < m/\W (i + 1) m' ys H3))
def tLC (wi:TI) (caps:List (Option Nat)) (g:TG) (tt:TT) (te:TE):TE:=fun σ H Q=>wi σ H fun J H1=>∀ D,H1 D = none->LCr J caps g tt te σ H1 Q D
section
variable {X:Cx} {pins:List (Addr × Obj)} {σ : St} {s:Shared} {sc:Scope} {fr Nc:List Str} {caps:List (Option Nat)} {elt tg iter:Expr} {ifs:List Expr} {g:TG} {tt:TT} {te:TE} {ow:List Nat} {pos pos2:Pos} {E:Value->Shared->Prop}
theorem zbX {H2:Hp} {it:Addr} {fp:List Addr} {tn:Nat->Heap->Prop} {J:It} {Q:VK} {RR:Value->Addr->Result->Shared->Prop}
  (hc:X.calm = true) (B:yS X.env sc fr) (go:zcZ g ow) (how:(ow.all fun i=>caps[i]? == some none) = true) (hcap:vG X.N Nc caps X.env sc fr = true) (hlen:caps.length = Nc.length)
  (hb:∀ (pins:List (Addr × Obj)) (fp:List Addr) (s:Shared) (H:Hp) (C:Addr),PG (zO X pins sc fr Nc fp s H C) tg g/\PIf (zO X pins sc fr Nc fp s H C) ifs tt/\PE (zO X pins sc fr Nc fp s H C) elt te)
  (I2:Inv X pins σ H2 s) (T:za6 X.prog X.w X.K tg J fp it tn) (st2:tn 0 s.heap) (f2:∀ b ∈ fp,wT X pins H2 b) (h:∀ D,H2 D = none->LCr J caps g tt te σ H2 Q D)
  (fin:∀ (D C:Addr) (σ':St) (H':Hp) (s':Shared),Inv (zO X pins sc fr Nc fp s H2 C) [] σ' H' s'->Q (.ref D) H'->RR (.ref D) C (.ok .next) s') :
  wpAny (model X.prog X.w) X.A (newList []) (fun acc s₃=>wpAny (model X.prog X.w) X.A (newFunctionEnv sc X.env.globals (clB X.env fr) [] X.env.qual none .none (some X.env)) (fun cenv s₄=>
   codeAny (model X.prog X.w) X.A (.compStart (.ListComp elt [⟨tg,iter,ifs,0⟩] sc pos) 0 (.ref it) acc { cenv with scope:=relabel sc X.env }) (RR acc cenv.locals) s₄) E s₃) E s:=by
 have hcell:∀ y ∈ sc.names,y.2 ≠ .cell:=fun y hy=>by
  have h3:=List.all_eq_true.mp B.names _ hy
  simp only [Bool.and_eq_true,bne_iff_ne,ne_eq] at h3
  exact h3.1.1
 refine wpAny_newObj_type (wpAny_newFunctionEnv hcell (by intro y hy; simp at hy) (fun h₁ hns₁ hsb₁=>?_) B.kind)
 dsimp only at hns₁ hsb₁ |-
 generalize hH2:s.heap.push { cls:=.type "list",dict:=none,data:=.seq ([]:List Value).toArray } = H3 at hns₁ hsb₁ |-
 have hCs:H3.objs.size = s.heap.objs.size + 1:=by rw [<- hH2,Heap.size_push]
 have hDC:s.heap.objs.size ≠ H3.objs.size:=by rw [hCs]; exact Nat.ne_of_lt (Nat.lt_succ_self _)
 have hC:s.heap.objs.size<=H3.objs.size:=by rw [hCs]; exact Nat.le_succ _
 have old:∀ b o,s.heap.get? b = some o->h₁.get? b = some o:=fun b o e=>
  hsb₁.extBut b o (Nat.ne_of_lt (Nat.lt_of_lt_of_le (Heap.lt_size e) hC)) (Heap.get?_push_of_some _ (hH2 ▸ Heap.get?_push_of_some _ e))
 have hD:h₁.get? s.heap.objs.size = some { cls:=.type "list",data:=.seq ([]:List Value).toArray }:=hsb₁.extBut _ _ hDC (Heap.get?_push_of_some _ (hH2 ▸ Heap.get?_push_size _ rfl))
 have ho:∀ b ∈ fp,∃ o,s.heap.get? b = some o:=fun b hb'=>let ⟨o,e,_⟩:=T.obj 0 _ st2 b hb'; ⟨o,e⟩
 have I4:∀ t',Inv (zO X pins sc fr Nc fp s H2 H3.objs.size) [] (y0 caps σ) (upd H2 s.heap.objs.size (.lst [])) { s with heap:=h₁,toks:=t' }:=fun t'=>
  zcV I2 B f2 ho hC (Nat.le_refl _) hDC old hD hns₁ hcap hlen
 have ok:=(I4 0).ok
 obtain ⟨hbg,hbt,hbe⟩:=hb pins fp s H2 H3.objs.size
 obtain ⟨W,⟨m0,w0⟩,turn⟩:=h s.heap.objs.size (I2.hok.fresh (Nat.le_refl _))
 have stat:∀ {H':Hp},(∀ b ∈ fp,H' b = none)->∀ b ∈ fp,wT (zO X pins sc fr Nc fp s H2 H3.objs.size) [] H' b:=fun hn b hb'=>
  ⟨hn b hb',(ok.exf b hb').1,ok.exfs b hb',.inl hb',(ok.exf b hb').2,fun p hp=>(f2 b hb').2.2.2.2.2 p (by simpa using hp)⟩
 have hfp0:∀ b ∈ fp,upd H2 s.heap.objs.size (.lst []) b = none:=fun b hb'=>by
  obtain ⟨o,e⟩:=ho b hb'
  rw [zi (Nat.ne_of_lt (Heap.lt_size e))]
  exact (f2 b hb').1
 have loop:∀ s₃:Shared,s₃ = { s with heap:=h₁,toks:=s.toks + ([]:List (Str × Value)).length }->
   codeAny (model X.prog X.w) X.A (.compLoop (.ListComp elt [⟨tg,iter,ifs,0⟩] sc pos) 0 (.ref it) (.ref s.heap.objs.size) (compEnvC sc (clB X.env fr) H3.objs.size X.env)) (RR (.ref s.heap.objs.size) H3.objs.size) s₃:=by
  rintro s₃ rfl
  refine za0 (fun n s'=>∃ i σ' H' ys,Inv (zO X pins sc fr Nc fp s H2 H3.objs.size) [] σ' H' s'/\tn i s'.heap/\(∀ b ∈ fp,H' b = none)/\W i n ys H'/\
   (∀ (k:Nat) (v:V),(y0 caps σ)[k]? = some (some v)->σ'[k]? = some (some v))) ?_ m0
   ⟨0,_,_,[],I4 _,T.keep _ _ _ st2 (fun b _ o e=>old b o e),hfp0,w0,fun _ _ e=>e⟩
  rintro n s3 ⟨i,σ3,H4,ys,I3,st3,fr3,w3,wk3⟩
  have I3':Inv (zO X pins sc fr Nc fp s H2 H3.objs.size) [] (y0 caps σ) H4 s3:=I3.weak (by rw [I3.len]; exact (I4 0).len) wk3
  rcases turn i n ys H4 w3 with ⟨stop,qn⟩ | ⟨gg,step⟩
  ·refine thn (T.done (zO X pins sc fr Nc fp s H2 H3.objs.size) rfl rfl rfl hc i [] s3 _ H4 (fun _ _=>False) I3' (stat fr3) st3 stop) fun r s4 ⟨hr,I4'⟩=>?_
   subst hr
   exact fin _ _ _ _ _ I4' qn
  ·refine thn (T.item (zO X pins sc fr Nc fp s H2 H3.objs.size) rfl rfl rfl hc i [] s3 _ H4 (fun _ _=>False) I3' (stat fr3) st3 gg) fun r s4 ⟨u,hr,h4⟩=>?_
   subst hr
   refine thn h4 fun _ s5 ⟨x,H5,I5,r5,y5,st5,fr5⟩=>?_
   have I5':=I5.pinned (stat fr5) (T.obj _ _ st5)
   refine thn (hbg _ s5 _ H5 x u _ I5' r5 (go _ _ _ _ (step x H5 y5))) fun _ s6 ⟨σ6,H6,I6,q6,l6,k6⟩=>?_
   have wk6:∀ (k:Nat) (v:V),(y0 caps σ)[k]? = some (some v)->σ6[k]? = some (some v):=fun k v e=>by
    rw [k6 k fun hk=>?_]
    ·exact e
    ·have h1:=List.all_eq_true.mp how k hk
     have h2:caps[k]? = some none:=by simpa using h1
     unfold y0 at e
     rw [List.getElem?_map,h2] at e
     cases e
   refine thn (hbt _ s6 σ6 H6 _ I6 q6) fun ok s7 ⟨H7,I7,q7⟩=>?_
   have again:∀ {H8:Hp} {s8:Shared} {ys':List V},Inv (zO X pins sc fr Nc fp s H2 H3.objs.size) ([] ++ uR fp s5.heap) σ6 H8 s8->(∃ m',m' < n/\W (i + 1) m' ys' H8)->
     ∃ m,m < n/\∃ i σ' H' ys,Inv (zO X pins sc fr Nc fp s H2 H3.objs.size) [] σ' H' s8/\tn i s8.heap/\(∀ b ∈ fp,H' b = none)/\W i m ys H'/\(∀ (k:Nat) (v:V),(y0 caps σ)[k]? = some (some v)->σ'[k]? = some (some v)):=fun {H8 s8 ys'} I8 ⟨m',hm,w8⟩=>by
    refine ⟨m',hm,i + 1,σ6,H8,ys',I8.unpinned,T.keep _ _ _ st5 fun b hb' o e=>(I8.pin (b,o) (List.mem_append_right _ (List.mem_append_right _ (xw hb' e)))).1,fun b hb'=>?_,w8,wk6⟩
    obtain ⟨o,e,d⟩:=T.obj _ _ st5 b hb'
    exact (I8.pin (b,o) (List.mem_append_right _ (List.mem_append_right _ (xw hb' e)))).2.1
   cases ok with
   | false=>
    rw [if_neg Bool.false_ne_true]
    exact again I7 (q7.2 rfl)
   | true=>
    rw [if_pos rfl]
    refine thn (hbe _ s7 σ6 H7 _ I7 (q7.1 rfl)) fun uv s8 ⟨v,H8,I8,r8,hD8,hz,q8⟩=>?_
    refine thn (zQ (X:=zO X pins sc fr Nc fp s H2 H3.objs.size) _ s8 σ6 H8 (.ref s.heap.objs.size) [v] _ [uv] (fun _ H'=>H' = upd H8 s.heap.objs.size (.lst (ys ++ [v]))) I8 rfl (.cons r8 .nil) ⟨_,ys,v,rfl,rfl,hD8,hz,rfl⟩) fun _ s9 ⟨_,H9,I9,_,e9⟩=>?_
    subst e9
    exact again I9 q8
 exact codeAny_compStart_list (loop _ rfl) (T.self _ 0 _ _ _ (T.keep _ _ _ st2 (fun b _ o e=>old b o e)) (loop _ rfl))
theorem yS.loc {env:Env} (B:yS env sc fr):∀ x ∈ sc.names,x.2 = .local->sc.names.lookup x.1 = some .local:=fun y hy e=>by
 have h3:=List.all_eq_true.mp B.names _ hy
 simp only [Bool.and_eq_true,Bool.or_eq_true,bne_iff_ne,ne_eq,beq_iff_eq] at h3
 rcases h3.2 with z | z
 ·exact absurd e z
 ·exact z
theorem xp {wi:TI} (fr Nc:List Str) (caps:List (Option Nat)) (hc:X.calm = true) (B:yS X.env sc fr) (hi:PI X tg iter wi) (go:zcZ g ow) (how:(ow.all fun i=>caps[i]? == some none) = true)
  (hcap:vG X.N Nc caps X.env sc fr = true) (hlen:caps.length = Nc.length)
  (hb:∀ (pins:List (Addr × Obj)) (fp:List Addr) (s:Shared) (H:Hp) (C:Addr),PG (zO X pins sc fr Nc fp s H C) tg g/\PIf (zO X pins sc fr Nc fp s H C) ifs tt/\PE (zO X pins sc fr Nc fp s H C) elt te)
  (hs:∀ x,foldedSetIterable iter X.env x = pure x:=by intro _; rfl):PE X (.ListComp elt [⟨tg,iter,ifs,0⟩] sc pos) (tLC wi caps g tt te):=by
 refine ⟨?_⟩
 intro pins s σ H Q I h
 rw [eval_ListComp]
 refine wpAny_comprehension_free (use:=none) rfl hs B.clos B.kind B.loc (thn (hi pins s σ H _ I h) fun v s1 h1=>thn h1 fun itv s2 h2=>?_)
 obtain ⟨it,fp,tn,J,H2,e,I2,T,st2,f2,q⟩:=h2
 subst e
 refine zbX (RR:=fun acc C=>compPost (model X.prog X.w) X.A X.xe none (EP X pins σ Q) acc C) hc B go how hcap hlen hb I2 T st2 f2 q ?_
 intro D C σ' H' s' J' qq
 obtain ⟨m,hn,_⟩:=J'.loc
 exact ⟨m,hn,fun h' hs'=>⟨.ref D,H',zai I2 J' (u5 I2 f2 J') hs',rfl,qq⟩⟩
theorem jM {wi:TI} {i:Nat} {x:Str} {pos':Pos} (fr Nc:List Str) (caps:List (Option Nat)) (hN:X.N.Nodup) (hix:X.N[i]? = some x) (hx:Loc X.env.scope x) (hc:X.calm = true) (B:yS X.env sc fr) (hi:PI X tg iter wi) (go:zcZ g ow) (how:(ow.all fun i=>caps[i]? == some none) = true)
  (hcap:vG X.N Nc caps X.env sc fr = true) (hlen:caps.length = Nc.length)
  (hb:∀ (pins:List (Addr × Obj)) (fp:List Addr) (s:Shared) (H:Hp) (C:Addr),PG (zO X pins sc fr Nc fp s H C) tg g/\PIf (zO X pins sc fr Nc fp s H C) ifs tt/\PE (zO X pins sc fr Nc fp s H C) elt te)
  (hsw:swapsWith (.ListComp elt [⟨tg,iter,ifs,0⟩] sc pos) (some (.Name x pos')) pos2.line X.env = pure true:=by rfl)
  (hs:∀ x,foldedSetIterable iter X.env x = pure x:=by intro _; rfl) (hf:X.fn x = true\/X.env.scope.names.lookup x = some .local:=by first | exact .inl rfl | exact .inr rfl | assumption) :
  PS X (.Assign [.Name x pos'] (.ListComp elt [⟨tg,iter,ifs,0⟩] sc pos) pos2) (zhR (tLC wi caps g tt te) (yZ i)):=by
 refine ⟨?_⟩
 intro pins s σ H D0 I h
 rw [exec_Assign_Name_used _ _ _ _ hsw]
 refine wpAny_bind (wpAny_standAt (wpAny_bind ?_))
 show wpAny _ X.A (do let _ <- comprehension (.ListComp elt [⟨tg,iter,ifs,0⟩] sc pos) sc X.env _ (newList []) false (eval iter X.env) (some (assign (.Name x pos') X.env))) _ _ s
 refine wpAny_bind (wpAny_mono (wpAny_comprehension_free (use:=some (assign (.Name x pos') X.env)) (Q:=fun _ s'=>SP X pins D0 .next s') rfl hs B.clos B.kind B.loc
  (thn (hi pins s σ H _ I h) fun v s1 h1=>thn h1 fun itv s2 h2=>?_)) (fun _ s' hq=>wpAny_pure (wpAny_pure hq)) fun _ _ e=>e)
 obtain ⟨it,fp,tn,J,H2,e,I2,T,st2,f2,q⟩:=h2
 subst e
 refine zbX (Q:=fun v H1=>yZ i v σ H1 D0.nx) (RR:=fun acc C=>compPost (model X.prog X.w) X.A X.xe (some (assign (.Name x pos') X.env)) (fun _ s'=>SP X pins D0 .next s') acc C) hc B go how hcap hlen hb I2 T st2 f2 q ?_
 intro D C σ' H' s' J' qq
 have I':=u5 I2 f2 J'
 obtain ⟨m,hn,_⟩:=J'.loc
 have hC:s2.heap.objs.size<=C:=J'.ok.above
 show wpAny _ X.A (assign (.Name x pos') X.env (.ref D)) _ _ s'
 refine wpAny_assign_Name (qu (v:=.ref D) I' hN hix hx rfl (fun s'' I'' ⟨a,sb,ha⟩=>?_) hf)
 have haC:C ≠ a:=by
  rintro rfl
  rcases ha with z | z
  ·have:=I2.lt
   rw [<- z] at this
   exact absurd (Nat.lt_of_lt_of_le this hC) (Nat.lt_irrefl _)
  ·obtain ⟨v,hv⟩:=I2.cell x C z
   exact absurd (Nat.lt_of_lt_of_le hv.lt hC) (Nat.lt_irrefl _)
 have hCH:H' C = none:=J'.free
 refine ⟨m,hn.sameBut sb haC,fun h' hs'=>⟨_,H',?_,qq⟩⟩
 refine I''.turned (it:=C) (t':=s''.toks) (fun b o hb e=>(hs'.2 b hb).trans e) hCH ?_ (.inr (Nat.le_trans I2.sz hC)) (fun x c h z=>?_) fun p hp z=>?_
 ·intro z
  have:=I2.lt
  rw [<- z] at this
  exact absurd (Nat.lt_of_lt_of_le this hC) (Nat.lt_irrefl _)
 ·obtain ⟨v,hv⟩:=I2.cell x c h
  have:=hv.lt
  rw [z] at this
  exact absurd (Nat.lt_of_lt_of_le this hC) (Nat.lt_irrefl _)
 ·have:=I2.pin_lt hp
  rw [z] at this
  exact absurd (Nat.lt_of_lt_of_le this hC) (Nat.lt_irrefl _)
end
def Its (z:Str):It:=⟨fun i _=>i < z.cps.size,fun i H x H'=>H' = H/\∃ c,z.cps[i]? = some c/\x = .str ⟨#[c]⟩,fun i _=>z.cps.size<=i⟩
theorem zeO {P:Program} {w:World} {K:Frag} {tg:Expr} (it:Addr) (z:Str) (t:Tok):za6 P w K tg (Its z) [it] it (fun i h=>h.IsStrIter it (strIterType z) z t i) where
 mem:=by simp
 obj:=fun i h st b hb=>by
  have e:b = it:=by simpa using hb
  subst e
  obtain ⟨o,e,_,d⟩:=st
  exact ⟨o,e,fun v q=>by rw [d] at q; cases q⟩
 keep:=fun i h h' st k=>by
  obtain ⟨o,e,r⟩:=st
  exact ⟨o,k it (by simp) o e,r⟩
 item:=by
  intro X hP hw hK hc i pins s σ H E I hf st hg
  subst hP hw hK
  obtain ⟨f0,f1,f2,f3,f4,f5⟩:=hf it (by simp)
  have hi:i < z.cps.size:=hg
  have hx:z.cps[i]? = some z.cps[i]:=by simp [hi]
  have fin:∀ h',h'.IsStrIter it (strIterType z) z t (i + 1)->Heap.SameBut it s.heap h'->
    ∃ u,some (Value.str ⟨#[z.cps[i]]⟩ s.toks) = some u/\wpAny (model X.prog X.w) X.A (letOwnedTupleGo tg (.ref it) u) (fun _ s2=>∃ x H',Inv X pins σ H' s2/\zN x u/\(Its z).yld i H x H'/\s2.heap.IsStrIter it (strIterType z) z t (i + 1)/\∀ b ∈ [it],H' b = none) E { s with heap:=h',toks:=s.toks + 1 }:=fun h' hit hs=>by
   have I1:Inv X pins σ H { s with heap:=h',toks:=s.toks + 1 }:=I.turned (fun b o hb e=>(hs.2 b hb).trans e) f0 f1 f3 f4 f5
   obtain ⟨o,e1,e2,e3⟩:=id hit
   refine ⟨_,rfl,zdx (s:={ s with heap:=h',toks:=s.toks + 1 }) e1 e2 e3 ?_ ⟨.str ⟨#[z.cps[i]]⟩,H,I1,⟨_,rfl⟩,⟨rfl,_,hx,rfl⟩,hit,fun b hb=>(hf b hb).1⟩⟩
   unfold strIterType
   split <;> decide
  cases ha:z.cps.all (· < 128)
  ·have e:strIterType z = "str_iterator":=by simp [strIterType,ha]
   rw [e] at st
   exact wpAny_pyNext_wide_item st hx fun h' a b=>fin h' (e.symm ▸ a) b
  ·have e:strIterType z = "str_ascii_iterator":=by simp [strIterType,ha]
   rw [e] at st
   exact wpAny_pyNext_ascii_item st hx fun h' a b=>fin h' (e.symm ▸ a) b
 done:=by
  intro X hP hw hK hc i pins s σ H E I hf st hg
  subst hP hw hK
  obtain ⟨f0,f1,f2,f3,f4,f5⟩:=hf it (by simp)
  have hi:z.cps.size<=i:=hg
  have hx:z.cps[i]? = none:=by simp [hi]
  have fin:∀ h',Heap.ExtBut it s.heap h'->(none:Option Value) = none/\Inv X pins σ H { s with heap:=h' }:=fun h' eb=>⟨rfl,I.turned (t':=s.toks) (fun b o hb e=>eb b o hb e) f0 f1 f3 f4 f5⟩
  cases ha:z.cps.all (· < 128)
  ·have e:strIterType z = "str_iterator":=by simp [strIterType,ha]
   rw [e] at st
   exact wpAny_pyNext_wide_end (I.ok.hd hc) st hx fin
  ·have e:strIterType z = "str_ascii_iterator":=by simp [strIterType,ha]
   rw [e] at st
   exact wpAny_pyNext_ascii_end (I.ok.hd hc) st hx fin
 self:=fun A i s Q E st h=>by
  cases ha:z.cps.all (· < 128)
  ·have e:strIterType z = "str_iterator":=by simp [strIterType,ha]
   rw [e] at st
   exact wpAny_pyIter_striter_wide st h
  ·have e:strIterType z = "str_ascii_iterator":=by simp [strIterType,ha]
   rw [e] at st
   exact wpAny_pyIter_striter_ascii st h
section
variable {X:Cx} {tg:Expr}
def zki (tl:TE):TI:=fun σ H R=>tl σ H fun x H1=>∃ z,x = .str z/\R (Its z) H1
theorem zib {l:Expr} {tl:TE} (hl:PE X l tl):PI X tg l (zki tl):=by
 refine ⟨?_⟩
 intro pins s σ H R I h
 refine thn (hl pins s σ H _ I h) fun v s1 ⟨x,H1,I1,r1,q1⟩=>?_
 obtain ⟨z,e,q⟩:=q1
 subst e
 obtain ⟨t,rfl⟩:=r1
 refine wpAny_pyIter_strU ?_
 refine ⟨s1.heap.objs.size,[s1.heap.objs.size],_,_,H1,rfl,I1.kept (t':=s1.toks) fun b o e=>Heap.get?_push_of_some _ e,zeO _ z t,⟨_,Heap.get?_push_size _ rfl,rfl,rfl⟩,fun b hb=>?_,q⟩
 have e:b = s1.heap.objs.size:=by simpa using hb
 subst e
 exact I1.fpOk (Nat.le_refl _) (I1.hok.fresh (Nat.le_refl _))
def zjY:V->Option Int->Option Int->Hp->VK->Prop:=fun x lo hi H Q=>∃ z,x = .str z/\z.length<=sizeLine/\Q (.str (Txt.slice z lo hi)) H
theorem zhW:SlR X zjY:=by
 intro pins s σ H x v vl vu lo hi sl Q I rx hs pl pu h
 obtain ⟨z,rfl,hz,q⟩:=h
 obtain ⟨t,rfl⟩:=rx
 refine ⟨"str",_,F.slot_str_getitem.lookup,typeIs_str _ _ _,?_⟩
 have fin:∀ t' k,EP X pins σ Q (.str (Txt.slice z lo hi) t') { s with toks:=k }:=fun t' k=>⟨.str (Txt.slice z lo hi),H,I.tok k,⟨t',rfl⟩,q⟩
 cases pl with
 | none=>
  cases pu with
  | none=>exact wpAny_getItem_str_slice (l:=none) (u:=none) (st:=none) hs rfl (post_val_or_str ⟨Nat.le_trans (Txt.slice_le z _ _) hz,fin⟩)
  | int j tj=>exact wpAny_getItem_str_slice (l:=none) (u:=some (j,tj)) (st:=none) hs rfl (post_val_or_str ⟨Nat.le_trans (Txt.slice_le z _ _) hz,fin⟩)
 | int i ti=>
  cases pu with
  | none=>exact wpAny_getItem_str_slice (l:=some (i,ti)) (u:=none) (st:=none) hs rfl (post_val_or_str ⟨Nat.le_trans (Txt.slice_le z _ _) hz,fin⟩)
  | int j tj=>exact wpAny_getItem_str_slice (l:=some (i,ti)) (u:=some (j,tj)) (st:=none) hs rfl (post_val_or_str ⟨Nat.le_trans (Txt.slice_le z _ _) hz,fin⟩)
theorem zeH (hc:X.calm = true):y1 X (.builtin "all") (fun xs H Q=>∃ (p:Addr) (bs:List Bool),xs = [.ref p]/\SqL X.K H p (bs.map V.bl)/\Q (.bl (bs.all id)) H):=by
 intro pins s σ H xs us Q I r h
 obtain ⟨p,bs,rfl,hS,q⟩:=h
 obtain ⟨u,rfl,ru⟩:=wB r
 cases ru
 obtain ⟨its,rv,hp,hz⟩:=I.list hS
 have hlen:its.length = bs.length:=by rw [<- rv.length,List.length_map]
 have hne:p ≠ s.heap.objs.size:=Nat.ne_of_lt (by obtain ⟨_,e,_⟩:=hp.isList; exact Heap.lt_size e)
 refine call_all_walk (wpAny_pyIter_list hp.isList ?_)
 refine ⟨s.heap.objs.size,_,_,_,_,_,fun i=>bs.getD i false,rfl,Walks.list (A:=X.A.in1) (I.ok.hd hc) s.heap.objs.size p hne its.toArray,⟨⟨_,Heap.get?_push_size _ rfl,rfl,rfl⟩,hp.isList.push _⟩,?_,fun h' tk k=>?_⟩
 ·intro i v s' Q' E' hP hQ
  have hv:its[i]? = some v:=by simpa using hP
  have hi:i < bs.length:=by rw [<- hlen]; exact (List.getElem?_eq_some_iff.mp hv).1
  obtain ⟨u',e1,e2⟩:=rv.get (i:=i) (x:=V.bl bs[i]) (by rw [List.getElem?_map,List.getElem?_eq_getElem hi]; rfl)
  rw [hv] at e1
  cases e1
  cases e2
  refine wpAny_truthy_bool ?_
  have:bs.getD i false = bs[i]:=by rw [List.getD_eq_getElem?_getD,List.getElem?_eq_getElem hi]; rfl
  rw [<- this]
  exact hQ
 ·have e:((List.range its.toArray.size).all fun i=>bs.getD i false) = bs.all id:=by
   rw [List.size_toArray,hlen,Bool.eq_iff_iff,List.all_eq_true,List.all_eq_true]
   constructor
   ·intro hh b hb
    obtain ⟨i,hi,rfl⟩:=List.getElem_of_mem hb
    have:=hh i (List.mem_range.mpr hi)
    rw [List.getD_eq_getElem?_getD,List.getElem?_eq_getElem hi] at this
    exact this
   ·intro hh i hi
    have hi':=List.mem_range.mp hi
    rw [List.getD_eq_getElem?_getD,List.getElem?_eq_getElem hi']
    exact hh _ (List.getElem_mem hi')
  rw [e]
  exact ⟨.bl (bs.all id),H,I.kept (h':=h') (t':=tk) (fun b o q=>k b o (fun hm=>by
   have e:b = s.heap.objs.size:=by simpa using hm
   exact absurd (Heap.lt_size q) (by rw [e]; exact Nat.lt_irrefl _)) (Heap.get?_push_of_some _ q)),rfl,q⟩
theorem zd8:OpR X (compareOp .IsNot) (fun x y H Q=>∃ a b,x = .bl a/\y = .bl b/\Q (.bl (!decide (a = b))) H):=by
 intro pins s σ H x y v u Q I rx ry h
 obtain ⟨a,b,rfl,rfl,q⟩:=h
 cases rx
 cases ry
 have e:wpAny (model X.prog X.w) X.A (pure (Value.bool (!(Value.bool a == Value.bool b)))) (EP X pins σ Q) X.xe s:=wpAny_pure ⟨.bl _,H,I,by cases a <;> cases b <;> rfl,q⟩
 exact e
theorem xF:y1 X (.builtin "isinstance") (fun xs H Q=>∃ x T t b,xs = [x,.ty T]/\vn X.K H x t/\kitOne X.K t (.type T) = some b/\Q (.bl b) H):=by
 intro pins s σ H xs us Q I r h
 obtain ⟨x,T,t,b,rfl,ty,e,q⟩:=h
 obtain ⟨u,w',rfl,ru,rw'⟩:=qp r
 cases rw'
 exact zeq I ru ty e fun tk=>⟨.bl b,H,I.tok tk,rfl,q⟩
end
def wI:Expr->Bool
 | .Starred ..=>true
 | _=>false
theorem yM {e:Expr} {es:List Expr} {env:Env} (h:wI e = false):starEach (e :: es) env = (false,eval e env) :: starEach es env:=by
 cases e <;> first | rfl | cases h
theorem xB {env:Env} {pos:Pos}:∀ {es:List Expr},es.any wI = false->(backTo pos (starEach es env)).any (·.1) = false
 | [],_=>rfl
 | e :: es,h=>by
  rw [List.any_cons,Bool.or_eq_false_iff] at h
  rw [yM h.1]
  show (false || (backTo pos (starEach es env)).any (·.1)) = false
  rw [xB h.2]
  rfl
section
variable {X:Cx} {CX:CXT} {k:Nat} {f C:Addr} {fd:FuncData} {ps:List Str} {sp:Sp} {dvs:List V} {ds:List Value} {E:XK} {x m:Str} {p pos apos:Pos} {e o:Expr} {es:List Expr} {te ta:TE} {t:TA} {id T:String} {r:List V->Hp->VK->Prop}
theorem ac (ha:PE X e te) (hr:PA X es t) (h:wI e = false:=by rfl):PA X (e :: es) (zc6 te t):=zgI ha hr (yM h)
theorem cB (hc:y1 X (.builtin id) r) (hm:X.mg x = none) (hv:bootBuiltins x = some (.builtin id)) (ha:PA X (e :: es) t) (hg:Gl X x:=by rfl) (hn:x ≠ "__name__":=by decide) (hdb:(x == ("__debug__" : Str)) = false:=by decide)
  (h1:wI e = false:=by rfl) (h2:es.any wI = false:=by rfl):PE X (.Call (.Name x p) (e :: es) [] pos) (tCB r t):=zfi hc hg hm hv ha hn hdb (yM h1) (xB h2)
theorem cTy (hc:y1 X (.type T) r) (hm:X.mg x = none) (hv:bootBuiltins x = some (.type T)) (ha:PA X (e :: es) t) (hg:Gl X x:=by rfl) (hn:x ≠ "__name__":=by decide) (hdb:(x == ("__debug__" : Str)) = false:=by decide)
  (h1:wI e = false:=by rfl) (h2:es.any wI = false:=by rfl):PE X (.Call (.Name x p) (e :: es) [] pos) (tCB r t):=zd5 hc hg hm hv ha hn hdb (yM h1) (xB h2)
structure zp (P:Program) (w:World) (K:Frag) (mg:Str->Option Value) (base:Heap) (k:Nat) (x:Str) (f:Addr) (fd:FuncData) (ps:List Str) (sp:Sp):Prop where
 ok:zE P w K mg base CX0 k f fd ps sp
 mg:mg x = some (.ref f)
 kp:keepIn K (.ref f) = true
 bd:zS K fd ps []
theorem cF (c:zp X.prog X.w X.K X.mg X.base k x f fd ps sp) (hr:z8 k X.A) (ha:PA X (e :: es) t) (hg:Gl X x:=by rfl) (hdb:(x == ("__debug__" : Str)) = false:=by decide)
  (h1:wI e = false:=by rfl) (h2:es.any wI = false:=by rfl):PE X (.Call (.Name x p) (e :: es) [] pos) (zc7 sp [] E0 t):=
 zdo c.ok hr hg c.mg c.kp c.bd .nil y7 ha hdb (yM h1) (xB h2)
end
end L2
namespace L2
open PySem PyProof.Rows
theorem jg (K:Frag):kitOne K (.type "NoneType") (.type "str") = some false:=by kernel_rfl
theorem zcH (K:Frag):kitOne K (.type "int") (.type "str") = some false:=by kernel_rfl
theorem zbI (K:Frag):kitOne K (.type "int") (.type "bool") = some false:=by kernel_rfl
theorem zcI (K:Frag):kitOne K (.type "int") (.type "int") = some true:=by kernel_rfl
theorem zbK (K:Frag):kitOne K (.type "bool") (.type "str") = some false:=by kernel_rfl
theorem zaT (K:Frag):kitOne K (.type "bool") (.type "bool") = some true:=by kernel_rfl
theorem zcG (K:Frag):kitOne K (.type "str") (.type "str") = some true:=by kernel_rfl
theorem zbH (K:Frag):kitOne K (.type "list") (.type "str") = some false:=by kernel_rfl
theorem uc (K:Frag):kitOne K (.type "list") (.type "list") = some true:=by kernel_rfl
theorem zaS (K:Frag):kitOne K (.type "tuple") (.type "str") = some false:=by kernel_rfl
theorem yX (K:Frag):kitOne K (.type "tuple") (.type "tuple") = some true:=by kernel_rfl
theorem zbJ (K:Frag):kitOne K (.type "dict") (.type "str") = some false:=by kernel_rfl
end L2
namespace L2
open PySem PySem.Spec PyProof.Rows
inductive Dt where
 | non | bl (b:Bool) | int (i:Int) | str (z:Str) | tup (ds:List Dt) | lst (ds:List Dt)
def jf:V->Dt->Prop
 | .non,.non=>True
 | .bl a,.bl b=>a = b
 | .int a,.int b=>a = b
 | .str a,.str b=>a = b
 | _,_=>False
def zH (K:Frag) (ok:Addr->Prop) (H:Hp):Nat->V->Dt->Prop
 | 0,x,d=>jf x d
 | n + 1,x,d=>jf x d\/(∃ a xs ds,x = .ref a/\d = .tup ds/\SqT K H a xs/\Paired (zH K ok H n) xs ds)\/(∃ a xs ds,x = .ref a/\d = .lst ds/\ok a/\H a = some (.lst xs)/\Paired (zH K ok H n) xs ds)
section
variable {K:Frag} {ok ok':Addr->Prop} {H H':Hp}
theorem zH.flat {n:Nat} {x:V} {d:Dt} (h:jf x d):zH K ok H n x d:=by
 cases n with
 | zero=>exact h
 | succ n=>exact .inl h
theorem zH.int {n:Nat} {i:Int}:zH K ok H n (.int i) (.int i):=.flat rfl
theorem zH.str {n:Nat} {z:Str}:zH K ok H n (.str z) (.str z):=.flat rfl
theorem zH.tup {n:Nat} {a:Addr} {xs:List V} {ds:List Dt} (h:SqT K H a xs) (r:Paired (zH K ok H n) xs ds):zH K ok H (n + 1) (.ref a) (.tup ds):=.inr (.inl ⟨a,xs,ds,rfl,rfl,h,r⟩)
theorem zH.lst {n:Nat} {a:Addr} {xs:List V} {ds:List Dt} (o:ok a) (h:H a = some (.lst xs)) (r:Paired (zH K ok H n) xs ds):zH K ok H (n + 1) (.ref a) (.lst ds):=.inr (.inr ⟨a,xs,ds,rfl,rfl,o,h,r⟩)
theorem zH.frame (hT:∀ a xs,SqT K H a xs->SqT K H' a xs) (hL:∀ a xs,ok a->H a = some (.lst xs)->ok' a/\H' a = some (.lst xs)):∀ {n:Nat} {x:V} {d:Dt},zH K ok H n x d->zH K ok' H' n x d
 | 0,_,_,h=>h
 | n + 1,x,d,h=>by
  rcases h with h | ⟨a,xs,ds,e1,e2,h,r⟩ | ⟨a,xs,ds,e1,e2,o,h,r⟩
  ·exact .inl h
  ·exact .inr (.inl ⟨a,xs,ds,e1,e2,hT a xs h,Paired.imp' (fun _ _ z=>zH.frame hT hL z) r⟩)
  ·exact .inr (.inr ⟨a,xs,ds,e1,e2,(hL a xs o h).1,(hL a xs o h).2,Paired.imp' (fun _ _ z=>zH.frame hT hL z) r⟩)
theorem zm.sqT {a:Addr} {xs:List V} (e:zm H H') (h:SqT K H a xs):SqT K H' a xs:=by
 rcases h with (h | ⟨o,h⟩) | h
 ·exact .inl (.inl (e _ _ h))
 ·exact .inl (.inr ⟨o,e _ _ h⟩)
 ·exact .inr h
theorem zH.same {n:Nat} {x:V} {d:Dt} (e:zm H H') (h:zH K ok H n x d):zH K ok H' n x d:=h.frame (fun _ _ z=>e.sqT z) fun _ _ o z=>⟨o,e _ _ z⟩
theorem Paired.get {α β : Type} {F : α->β->Prop}:∀ {l₁:List α} {l₂:List β} {i:Nat} {a : α},Paired F l₁ l₂->l₁[i]? = some a->∃ b,l₂[i]? = some b/\F a b
 | _,_,_,_,.nil,e=>by simp at e
 | _,_,0,_,.cons r _,e=>by simp at e; subst e; exact ⟨_,rfl,r⟩
 | _,_,i + 1,a,.cons _ t,e=>by
  obtain ⟨b,h1,h2⟩:=Paired.get (i:=i) (a:=a) t (by simpa using e)
  exact ⟨b,by simpa using h1,h2⟩
end
section
variable {X:Cx} {pins:List (Addr × Obj)} {σ : St} {H:Hp} {s:Shared} {ok ok':Addr->Prop}
theorem zae {A:Around} {x y:V} {d:Dt} {u v:Value} (hx:jf x d) (hy:jf y d) (ru:zN x u) (rv:zN y v):SeqAt.EqAt A s u v true:=by
 cases d with
 | non=>
  cases x <;> try exact hx.elim
  cases y <;> try exact hy.elim
  cases ru; cases rv; exact SeqAt.EqAt.same _
 | bl b=>
  cases x <;> try exact hx.elim
  cases y <;> try exact hy.elim
  rename_i a c
  obtain rfl:a = b:=hx
  obtain rfl:c = a:=hy
  cases ru; cases rv; exact SeqAt.EqAt.same _
 | int b=>
  cases x <;> try exact hx.elim
  cases y <;> try exact hy.elim
  rename_i a c
  obtain rfl:a = b:=hx
  obtain rfl:c = a:=hy
  obtain ⟨t,rfl⟩:=ru
  obtain ⟨t',rfl⟩:=rv
  have:=SeqAt.EqAt.int_int (A:=A) (s:=s) c t c t'
  simpa using this
 | str b=>
  cases x <;> try exact hx.elim
  cases y <;> try exact hy.elim
  rename_i a c
  obtain rfl:a = b:=hx
  obtain rfl:c = a:=hy
  obtain ⟨t,rfl⟩:=ru
  obtain ⟨t',rfl⟩:=rv
  have:=SeqAt.EqAt.str_str (A:=A) (s:=s) c t c t'
  simpa using this
 | tup ds=>cases x <;> exact hx.elim
 | lst ds=>cases x <;> exact hx.elim
theorem j4 {a:Addr} {d:Dt} (h:jf (.ref a) d):False:=by cases d <;> exact h
theorem uo (n:Nat):((List.range n).all fun _=>true) = true:=by rw [List.all_eq_true]; intro _ _; rfl
theorem vj (I:Inv X pins σ H s):∀ (n:Nat) {A:Around} {x y:V} {d:Dt} {u v:Value},zH X.K ok H n x d->zH X.K ok' H n y d->zN x u->zN y v->A.units + n < cLine->SeqAt.EqAt A s u v true
 | 0,A,x,y,d,u,v,hx,hy,ru,rv,_=>zae hx hy ru rv
 | n + 1,A,x,y,d,u,v,hx,hy,ru,rv,hu=>by
  have hin:A.in1.units + n < cLine:=by show A.units + 1 + n < cLine; omega
  rcases hx with hx | ⟨a,xs,ds,rfl,rfl,hx,r⟩ | ⟨a,xs,ds,rfl,rfl,_,hx,r⟩
  ·rcases hy with hy | ⟨b,ys,es,rfl,rfl,hy,q⟩ | ⟨b,ys,es,rfl,rfl,_,hy,q⟩
   ·exact zae hx hy ru rv
   ·cases x <;> exact hx.elim
   ·cases x <;> exact hx.elim
  ·rcases hy with hy | ⟨b,ys,es,rfl,e2,hy,q⟩ | ⟨b,ys,es,rfl,e2,_,hy,q⟩
   ·cases y <;> exact hy.elim
   ·cases e2
    cases ru; cases rv
    by_cases hab:a = b
    ·subst hab; exact SeqAt.EqAt.same _
    ·obtain ⟨ia,va,pa,_⟩:=I.tuple hx
     obtain ⟨ib,vb,pb,_⟩:=I.tuple hy
     have la:ia.length = ds.length:=by rw [<- va.length,r.length]
     have lb:ib.length = ds.length:=by rw [<- vb.length,q.length]
     have:=SeqAt.RcAt.tuples (A:=A) (s:=s) (e:=fun _=>true) (show s.heap.IsTuple a ia.toArray from pa) (show s.heap.IsTuple b ib.toArray from pb) (by omega) (fun j h1 h2=>by
      have j1:j < ia.length:=by simpa using h1
      have j2:j < ib.length:=by simpa using h2
      have hxl:j < xs.length:=by rw [va.length]; exact j1
      have hyl:j < ys.length:=by rw [vb.length]; exact j2
      obtain ⟨u',e1,e2⟩:=va.get (i:=j) (List.getElem?_eq_getElem hxl)
      obtain ⟨v',e3,e4⟩:=vb.get (i:=j) (List.getElem?_eq_getElem hyl)
      obtain ⟨d1,f1,f2⟩:=Paired.get r (List.getElem?_eq_getElem hxl)
      obtain ⟨d2,f3,f4⟩:=Paired.get q (List.getElem?_eq_getElem hyl)
      rw [f1] at f3
      cases f3
      rw [List.getElem?_eq_getElem j1] at e1
      rw [List.getElem?_eq_getElem j2] at e3
      cases e1; cases e3
      simpa using vj I n f2 f4 e2 e4 hin)
     rw [uo] at this
     have z:(ia.toArray.size == ib.toArray.size) = true:=by simp [la,lb]
     rw [z] at this
     exact SeqAt.EqAt.of_refs hab this
   ·cases e2
  ·rcases hy with hy | ⟨b,ys,es,rfl,e2,hy,q⟩ | ⟨b,ys,es,rfl,e2,_,hy,q⟩
   ·cases y <;> exact hy.elim
   ·cases e2
   ·cases e2
    cases ru; cases rv
    by_cases hab:a = b
    ·subst hab; exact SeqAt.EqAt.same _
    ·obtain ⟨ia,va,pa,_⟩:=I.list (SqL.of hx)
     obtain ⟨ib,vb,pb,_⟩:=I.list (SqL.of hy)
     have la:ia.length = ds.length:=by rw [<- va.length,r.length]
     have lb:ib.length = ds.length:=by rw [<- vb.length,q.length]
     have:=SeqAt.RcAt.lists (A:=A) (s:=s) (e:=fun _=>true) pa.isList pb.isList (by simp [la,lb]) (by omega) (fun j h1 h2=>by
      have j1:j < ia.length:=by simpa using h1
      have j2:j < ib.length:=by simpa using h2
      have hxl:j < xs.length:=by rw [va.length]; exact j1
      have hyl:j < ys.length:=by rw [vb.length]; exact j2
      obtain ⟨u',e1,e2⟩:=va.get (i:=j) (List.getElem?_eq_getElem hxl)
      obtain ⟨v',e3,e4⟩:=vb.get (i:=j) (List.getElem?_eq_getElem hyl)
      obtain ⟨d1,f1,f2⟩:=Paired.get r (List.getElem?_eq_getElem hxl)
      obtain ⟨d2,f3,f4⟩:=Paired.get q (List.getElem?_eq_getElem hyl)
      rw [f1] at f3
      cases f3
      rw [List.getElem?_eq_getElem j1] at e1
      rw [List.getElem?_eq_getElem j2] at e3
      cases e1; cases e3
      simpa using vj I n f2 f4 e2 e4 hin)
     rw [uo] at this
     exact SeqAt.EqAt.of_refs hab this
theorem zdj (I:Inv X pins σ H s) {n:Nat} {A:Around} {a b:Addr} {d:Dt} (hx:zH X.K ok H (n + 1) (.ref a) d) (hy:zH X.K ok' H (n + 1) (.ref b) d) (hu:A.units + n + 1 < cLine) :
  SeqAt.RcAt A s (.ref a) (.ref b) true/\SeqAt.RcNeAt A s (.ref a) (.ref b) false:=by
 have hin:A.in1.units + n < cLine:=by show A.units + 1 + n < cLine; omega
 rcases hx with hx | ⟨a,xs,ds,e0,rfl,hx,r⟩ | ⟨a,xs,ds,e0,rfl,_,hx,r⟩
 ·exact (j4 hx).elim
 ·cases e0
  rcases hy with hy | ⟨b,ys,es,e1,e2,hy,q⟩ | ⟨b,ys,es,e1,e2,_,hy,q⟩
  ·exact (j4 hy).elim
  ·cases e1; cases e2
   obtain ⟨ia,va,pa,_⟩:=I.tuple hx
   obtain ⟨ib,vb,pb,_⟩:=I.tuple hy
   have la:ia.length = ds.length:=by rw [<- va.length,r.length]
   have lb:ib.length = ds.length:=by rw [<- vb.length,q.length]
   have el:∀ j (h1:j < ia.toArray.size) (h2:j < ib.toArray.size),SeqAt.EqAt A.in1 s ia.toArray[j] ib.toArray[j] true:=fun j h1 h2=>by
    have j1:j < ia.length:=by simpa using h1
    have j2:j < ib.length:=by simpa using h2
    have hxl:j < xs.length:=by rw [va.length]; exact j1
    have hyl:j < ys.length:=by rw [vb.length]; exact j2
    obtain ⟨u',e1,e2⟩:=va.get (i:=j) (List.getElem?_eq_getElem hxl)
    obtain ⟨v',e3,e4⟩:=vb.get (i:=j) (List.getElem?_eq_getElem hyl)
    obtain ⟨d1,f1,f2⟩:=Paired.get r (List.getElem?_eq_getElem hxl)
    obtain ⟨d2,f3,f4⟩:=Paired.get q (List.getElem?_eq_getElem hyl)
    rw [f1] at f3
    cases f3
    rw [List.getElem?_eq_getElem j1] at e1
    rw [List.getElem?_eq_getElem j2] at e3
    cases e1; cases e3
    simpa using vj I n f2 f4 e2 e4 hin
   have z:(ia.toArray.size == ib.toArray.size) = true:=by simp [la,lb]
   have t1:=SeqAt.RcAt.tuples (A:=A) (s:=s) (e:=fun _=>true) (show s.heap.IsTuple a ia.toArray from pa) (show s.heap.IsTuple b ib.toArray from pb) (by omega) el
   have t2:=SeqAt.RcNeAt.tuples (A:=A) (s:=s) (e:=fun _=>true) (show s.heap.IsTuple a ia.toArray from pa) (show s.heap.IsTuple b ib.toArray from pb) (by omega) el
   rw [uo,z] at t1 t2
   exact ⟨t1,t2⟩
  ·cases e1; cases e2
 ·cases e0
  rcases hy with hy | ⟨b,ys,es,e1,e2,hy,q⟩ | ⟨b,ys,es,e1,e2,_,hy,q⟩
  ·exact (j4 hy).elim
  ·cases e1; cases e2
  ·cases e1; cases e2
   obtain ⟨ia,va,pa,_⟩:=I.list (SqL.of hx)
   obtain ⟨ib,vb,pb,_⟩:=I.list (SqL.of hy)
   have la:ia.length = ds.length:=by rw [<- va.length,r.length]
   have lb:ib.length = ds.length:=by rw [<- vb.length,q.length]
   have el:∀ j (h1:j < ia.toArray.size) (h2:j < ib.toArray.size),SeqAt.EqAt A.in1 s ia.toArray[j] ib.toArray[j] true:=fun j h1 h2=>by
    have j1:j < ia.length:=by simpa using h1
    have j2:j < ib.length:=by simpa using h2
    have hxl:j < xs.length:=by rw [va.length]; exact j1
    have hyl:j < ys.length:=by rw [vb.length]; exact j2
    obtain ⟨u',e1,e2⟩:=va.get (i:=j) (List.getElem?_eq_getElem hxl)
    obtain ⟨v',e3,e4⟩:=vb.get (i:=j) (List.getElem?_eq_getElem hyl)
    obtain ⟨d1,f1,f2⟩:=Paired.get r (List.getElem?_eq_getElem hxl)
    obtain ⟨d2,f3,f4⟩:=Paired.get q (List.getElem?_eq_getElem hyl)
    rw [f1] at f3
    cases f3
    rw [List.getElem?_eq_getElem j1] at e1
    rw [List.getElem?_eq_getElem j2] at e3
    cases e1; cases e3
    simpa using vj I n f2 f4 e2 e4 hin
   have t1:=SeqAt.RcAt.lists (A:=A) (s:=s) (e:=fun _=>true) pa.isList pb.isList (by simp [la,lb]) (by omega) el
   have t2:=SeqAt.RcNeAt.lists (A:=A) (s:=s) (e:=fun _=>true) pa.isList pb.isList (by simp [la,lb]) (by omega) el
   rw [uo] at t1 t2
   exact ⟨t1,t2⟩
def zhw (K:Frag) (b:Bool):R2:=fun x y H Q=>∃ (a c:Addr) (n:Nat) (d:Dt) (ok ok':Addr->Prop),x = .ref a/\y = .ref c/\n<=20/\zH K ok H (n + 1) x d/\zH K ok' H (n + 1) y d/\Q (.bl b) H
theorem zaP (hu:X.A.units + 64 < cLine):OpR X (compareOp .Eq) (zhw X.K true):=by
 intro pins s σ H x y v u Q I rx ry h
 obtain ⟨a,c,n,d,ok,ok',rfl,rfl,hn,hx,hy,q⟩:=h
 cases rx; cases ry
 exact (zdj (A:=X.A) I hx hy (by omega)).1 X.prog X.w X.xe _ ⟨.bl true,H,I,rfl,q⟩
theorem zaO (hu:X.A.units + 64 < cLine):OpR X (compareOp .NotEq) (zhw X.K false):=by
 intro pins s σ H x y v u Q I rx ry h
 obtain ⟨a,c,n,d,ok,ok',rfl,rfl,hn,hx,hy,q⟩:=h
 cases rx; cases ry
 exact (zdj (A:=X.A) I hx hy (by omega)).2 X.prog X.w X.xe _ ⟨.bl false,H,I,rfl,q⟩
end
def Ite (K:Frag) (a:Addr):It:=
 ⟨fun i H=>∃ xs x,SqL K H a xs/\xs[i]? = some x,fun i H x H'=>∃ (p:Addr) (y:V),x = .ref p/\H p = none/\(∀ xs,SqL K H a xs->xs[i]? = some y)/\H' = upd H p (.tup [.int i,y]),fun i H=>∃ xs,SqL K H a xs/\xs.length<=i⟩
theorem zdM {P:Program} {w:World} {K:Frag} {elts:List Expr} {x1:Nat} {tpos:Pos} (a e it:Addr) (hne:e ≠ it) :
  za6 P w K (.Tuple elts x1 tpos) (Ite K a) [e,it] e (fun i h=>(∃ old,IsEnum h e it (i:Int) old)/\h.IsListIter it a i) where
 mem:=by simp
 obj:=fun i h st b hb=>by
  rcases List.mem_cons.mp hb with rfl | hb
  ·obtain ⟨⟨old,he⟩,_⟩:=st
   exact ⟨_,he,fun v q=>by cases q⟩
  ·have e':b = it:=by simpa using hb
   subst e'
   obtain ⟨_,o,ho,_,hd⟩:=st
   exact ⟨o,ho,fun v q=>by rw [hd] at q; cases q⟩
 keep:=fun i h h' st k=>by
  obtain ⟨⟨old,he⟩,o,ho,r⟩:=st
  exact ⟨⟨old,k e (by simp) _ he⟩,o,k it (by simp) o ho,r⟩
 item:=by
  intro X hP hw hK hc i pins s σ H E I hf st hg
  subst hP hw hK
  obtain ⟨f0,f1,f2,f3,f4,f5⟩:=hf e (by simp)
  obtain ⟨g0,g1,g2,g3,g4,g5⟩:=hf it (by simp)
  obtain ⟨⟨old,he⟩,hit⟩:=st
  obtain ⟨xs,x,hS,hx⟩:=hg
  obtain ⟨its,rv,hp,hz⟩:=I.list hS
  obtain ⟨u,hu,ru⟩:=rv.get hx
  refine wpAny_pyNext_enum_item he hit hp.isList (x:=u) (by simpa using hu) hne fun h' he' hit' htup hsz hk=>?_
  have I0:Inv X pins σ H { s with heap:=h',toks:=s.toks + 1 }:=by
   refine I.step (g':=s.gens) (d':=s.drawn) (ch:=[e,it]) (fun b hb=>?_) (fun b o _ _ hc' e1 _=>hk b o (fun z=>hc' (by simp [z])) (fun z=>hc' (by simp [z])) e1) (fun b o _ _ hc' e1 _=>⟨o.slots,hk b o (fun z=>hc' (by simp [z])) (fun z=>hc' (by simp [z])) e1⟩) (fun _ _ _ _ n=>n)
    (fun b o hc' e1=>⟨o,hk b o (fun z=>hc' (by simp [z])) (fun z=>hc' (by simp [z])) e1⟩) (fun _ _ e1=>e1) (fun _ _ _ e1=>e1) (fun b ps e1=>⟨#[],by rw [e1]; simp⟩) (fun m hm=>?_) (fun b u' e1=>?_) I.bare
   ·rcases List.mem_cons.mp hb with rfl | hb
    ·exact ⟨f3,f1,f4,f5⟩
    ·have e':b = it:=by simpa using hb
     subst e'
     exact ⟨g3,g1,g4,g5⟩
   ·obtain ⟨o,es,ep,ho,r⟩:=hm
    exact ⟨o,es,ep,hk _ o (Ne.symm f1) (Ne.symm g1) ho,r⟩
   ·have nit:∀ c v',H c = some v'->c ≠ e/\c ≠ it:=fun c v' q=>⟨fun z=>(by rw [z,f0] at q; cases q),fun z=>(by rw [z,g0] at q; cases q)⟩
    refine (I.hok b u' e1).stay (fun c v' hc' q=>?_) (fun _ q=>q) fun _ _ q=>q
    rcases hc' with z | z
    ·subst z; exact hk c v' (nit c _ e1).1 (nit c _ e1).2 q
    ·exact hk c v' (nit c _ z).1 (nit c _ z).2 q
  have hfr:H s.heap.objs.size = none:=I.hok.fresh (Nat.le_refl _)
  have I1:Inv X pins σ (upd H s.heap.objs.size (.tup [.int i,x])) { s with heap:=h',toks:=s.toks + 1 }:=by
   have hok:HOk X.prog X.w (upd H s.heap.objs.size (.tup [.int i,x])) h':=fun b o q=>by
    by_cases hb:b = s.heap.objs.size
    ·subst hb
     rw [za] at q; cases q
     exact ⟨by show 2<=sizeLine; decide,[.int i s.toks,u],.cons ⟨_,rfl⟩ (.cons ru .nil),⟨_,htup,rfl,_,rfl⟩⟩
    ·rw [zi hb] at q
     exact (I0.hok b o q).stay (fun _ _ _ z=>z) (fun c z=>by rw [zi (zf z hfr)]; exact z) fun c xs' z=>by rw [zi (zf z hfr)]; exact z
   refine I0.step (s:={ s with heap:=h',toks:=s.toks + 1 }) (g':=s.gens) (d':=s.drawn) (h':=h') (t':=s.toks + 1) (ch:=[s.heap.objs.size]) (fun b hb=>?_) (fun b o _ _ _ e1 _=>e1) (fun b o _ _ _ e1 _=>⟨o.slots,e1⟩) (fun b o hb e1 n=>by rw [zi (fun z=>hb (by simp [z]))]; exact n)
    (fun b o _ e1=>⟨o,e1⟩) (fun b xs' e1=>by rw [zi (zf e1 hfr)]; exact e1) (fun b o' u' e1=>by rw [zi (zf e1 hfr)]; exact e1) (fun b ps e1=>⟨#[],by rw [zi (zf e1 hfr),e1]; simp⟩) (fun m hm=>hm) hok I0.bare
   have e':b = s.heap.objs.size:=by simpa using hb
   subst e'
   refine ⟨.inr I.sz,fun z=>?_,fun y c h z=>?_,fun p hp' z=>?_⟩
   ·have:=I.lt; rw [<- z] at this; exact absurd this (Nat.lt_irrefl _)
   ·obtain ⟨v',hv⟩:=I.cell y c h
    have:=hv.lt; rw [z] at this; exact absurd this (Nat.lt_irrefl _)
   ·have:=I.pin_lt hp'; rw [z] at this; exact absurd this (Nat.lt_irrefl _)
  refine ⟨_,rfl,wpAny_letOwnedTupleGo_enum he' fun h2 he2 hs2=>?_⟩
  have nes:s.heap.objs.size ≠ e:=fun z=>by
   have:=Heap.lt_size (show s.heap.get? e = some _ from he)
   rw [<- z] at this; exact absurd this (Nat.lt_irrefl _)
  have nis:s.heap.objs.size ≠ it:=fun z=>by
   obtain ⟨o,ho,_⟩:=hit
   have:=Heap.lt_size ho
   rw [<- z] at this; exact absurd this (Nat.lt_irrefl _)
  have I2:Inv X pins σ (upd H s.heap.objs.size (.tup [.int i,x])) { s with heap:=h2,toks:=s.toks + 1 }:=
   I1.turned (s:={ s with heap:=h',toks:=s.toks + 1 }) (t':=s.toks + 1) (it:=e) (fun b o hb q=>(hs2.2 b hb).trans q) (by rw [zi nes.symm]; exact f0) f1 f3 f4 f5
  refine ⟨.ref s.heap.objs.size,_,I2,rfl,⟨_,x,rfl,hfr,fun xs' h'=>?_,rfl⟩,⟨⟨_,by simpa using he2⟩,?_⟩,fun b hb=>?_⟩
  ·rw [I.list_inj h' hS]; exact hx
  ·obtain ⟨o,ho,r⟩:=hit'
   exact ⟨o,(hs2.2 it (Ne.symm hne)).trans ho,r⟩
  ·rcases List.mem_cons.mp hb with rfl | hb
   ·rw [zi nes.symm]; exact f0
   ·have e':b = it:=by simpa using hb
    subst e'
    rw [zi nis.symm]; exact g0
 done:=by
  intro X hP hw hK hc i pins s σ H E I hf st hg
  subst hP hw hK
  obtain ⟨⟨old,he⟩,hit⟩:=st
  obtain ⟨g0,g1,g2,g3,g4,g5⟩:=hf it (by simp)
  obtain ⟨xs,hS,hle⟩:=hg
  obtain ⟨its,rv,hp,hz⟩:=I.list hS
  have hx:its.toArray[i]? = none:=by simp [<- rv.length,hle]
  exact wpAny_pyNext_enum_end (I.ok.hd hc) he hit hp.isList hx fun h' eb=>⟨rfl,I.turned (t':=s.toks) (fun b o hb e1=>eb b o hb e1) g0 g1 g3 g4 g5⟩
 self:=fun A i s Q E st h=>by
  obtain ⟨⟨old,he⟩,_⟩:=st
  exact wpAny_pyIter_enum he h
section
variable {X:Cx} {elts:List Expr} {x1:Nat} {tpos:Pos}
def zjD (K:Frag) (ta:TA):TI:=fun σ H R=>ta σ H fun vs H1=>∃ a,vs = [.ref a]/\(∃ xs,SqL K H1 a xs)/\R (Ite K a) H1
theorem xc {l:Expr} {ta:TA} {p pos:Pos} (hg:Gl X "enumerate") (hm:X.mg "enumerate" = none) (ha:PA X [l] ta) (hl:wI l = false:=by rfl):PI X (.Tuple elts x1 tpos) (.Call (.Name "enumerate" p) [l] [] pos) (zjD X.K ta):=by
 refine ⟨?_⟩
 intro pins s σ H R I h
 refine Call_ (wR I hg hm PyProof.Rows.boot_enumerate (PyProof.Rows.callWith_type1 (thn (ha pos pins s σ H _ I h) fun us s1 ⟨vs,H1,I1,r1,q1⟩=>?_) (yM hl) rfl))
 obtain ⟨a,e,⟨xs,hS⟩,q⟩:=q1
 subst e
 obtain ⟨u,rfl,ru⟩:=wB r1
 cases ru
 obtain ⟨its,rv,hp,hz⟩:=I1.list hS
 refine call_enumerate_list hp.isList fun h' he hit hsz hk=>?_
 refine wpAny_pyIter_enum he ?_
 have hfr:∀ b,s1.heap.objs.size<=b->H1 b = none:=fun b hb=>I1.hok.fresh hb
 have I2:Inv X pins σ H1 { s1 with heap:=h' }:=I1.kept (t':=s1.toks) hk
 refine ⟨s1.heap.objs.size + 1,[s1.heap.objs.size + 1,s1.heap.objs.size],_,_,H1,rfl,I2,zdM a _ _ (Nat.succ_ne_self _),⟨⟨_,he⟩,hit⟩,fun b hb=>?_,q⟩
 rcases List.mem_cons.mp hb with rfl | hb
 ·exact I1.fpOk (Nat.le_succ _) (hfr _ (Nat.le_succ _))
 ·have e':b = s1.heap.objs.size:=by simpa using hb
  subst e'
  exact I1.fpOk (Nat.le_refl _) (hfr _ (Nat.le_refl _))
end
end L2
namespace Att
open PySem PySem.W PySem.Calls PyProof.Rows
theorem zbi {ns:List Int} (h:WData.layableAll [WData.list (ns.map WData.int)] = true):∀ n ∈ ns,Builtin.Int.intBits n<=1048576:=fun n hn=>
 PySem.intBits_le_of_layable (layable0_of_all (lay0_int (layableW_item (layW_cons h).1 (.int n) (List.mem_map.mpr ⟨n,hn,rfl⟩))))
theorem zhk {l:OpenLaw} {n:Nat} {q:Program} {loose:List Str} {XP:(Str->Option Value)->Heap->Prop} {YP:World->Heap->Prop} {d:DefRec}
  (hn:l.most = some n) (hdf:d.params.defaults = [])
  (call:∀ (w:World) (s₀ s₁:Shared) (mg mb:Str->Option Value) (fa:Addr) (o:Obj) (pm cd doc:Value) (a:Addr) (vs:List Value) (ns:List Int),
   Ground q loose [] XP w s₀ mg mb s₁.heap->YP w s₁.heap->
   s₁.heap.get? fa = some o->o.data = .func (docDef d.name d.params d.body d.scope pm cd doc)->s₁.heap.CodeRec cd d.name->mg d.name = some (.ref fa)->
   s₁.heap.get? a = some { cls:=.type "list",data:=.seq vs.toArray }->IntsAre vs ns->ns.length<=n->(∀ m ∈ ns,Builtin.Int.intBits m<=1048576)->s₁.gens = #[]->
   codeAny (model l.prog w) callerA (.call (.ref fa) ⟨[.ref a],[]⟩) (fun r s'=>r = .ok (.ret (.bool true))/\OldK s₁.heap s'.heap/\s'.os = s₁.os/\AllBare s'.gens) s₁) :
  WalkO q loose XP YP l.row.toRowW d [] (fun f vs=>PySem.call f vs):=by
 intro w s₀ s₁ mg mb G Y fa o pm cd doc dV kV ho hd hcd hD hmg hg args vals as hpre hlay hrd hwl hlo
 obtain rfl:dV = .none:=Dflts.none hD hdf
 obtain rfl:kV = .none:=Dflts.noKw hD
 obtain ⟨a,vs,ns,rfl,rfl,hobj,hints,hlen⟩:=zdQ hn hpre hwl
 refine enter_call (codeAny_mono (call w s₀ s₁ mg mb fa o pm cd doc a vs ns G Y ho (fd_plain hd) hcd hmg hobj hints hlen (zbi hlay) hg) fun r s' hq=>?_)
 obtain ⟨rfl,h2,h3,h4⟩:=hq
 exact ⟨.inl ⟨.bool true,.bool true,[],rfl,fun _=>rfl,.bool true,zd1 l _,fun _=>⟨List.Pairwise.nil,fun _ hm=>(nomatch hm)⟩⟩,h2,h3,h4⟩
end Att
namespace L2
open PySem PySem.Spec PyProof.Rows
theorem ziQ {l:PySem.W.OpenLaw} {n k:Nat} {q:Program} {loose:List Str} {XP:(Str->Option Value)->Heap->Prop} {YP:World->Heap->Prop} {d:DefRec} {K:Params->Frag} {CX:World->CXT} {sp:World->Sp} {x:Str}
  (hn:l.most = some n) (hn2:n<=sizeLine) (hdf:d.params.defaults = []) (hr:z8 k callerA)
  (hY:∀ (w:World) (h:Heap),YP w h->(K w.params).In h)
  (F:∀ (w:World) (mg:Str->Option Value) (fa:Addr) (h:Heap),(K w.params).In h->h.Ns mainGlobals mg->mg d.name = some (.ref fa)->
   ∃ fd:FuncData,(∀ (s:Shared) (u:Value),BindsTo s fd ⟨[u],[]⟩ [(x,u)])/\
    ∀ base:Heap,(K w.params).In base->base.Ns mainGlobals mg->zE l.prog w (K w.params) mg base (CX w) k fa fd [x] (sp w))
  (hsp:∀ (w:World) (H:Hp) (a:Addr) (ns:List Int),ns.length<=n->(∀ m ∈ ns,Builtin.Int.intBits m<=1048576)->ziM H->SqL (K w.params) H a (ns.map V.int)->sp w [.ref a] H (fun v _=>v = .bl true) fun _ _ _=>False)
  (hCX:∀ (w:World) (H:Hp) (s:Shared) (e:Value) (s':Shared),CX w [] H s (fun _ _ _=>False) e s'->False) :
  PySem.W.WalkO q loose XP YP l.row.toRowW d [] (fun f vs=>PySem.call f vs):=by
 refine Att.zhk hn hdf fun w s₀ s₁ mg mb fa o pm cd doc a vs ns G Y ho hd hcd hmg hobj hints hlen hbits hg=>?_
 have KX:=hY w _ Y
 obtain ⟨fd,hb,hF⟩:=F w mg fa _ KX G.T.g hmg
 exact zfR KX G.T.g G.T.b G.T.builtins G.T.nolimit hg hobj hints (Nat.le_trans hlen hn2) hr hF hb (fun H hO hS=>hsp w H a ns hlen hbits hO hS) fun H e s'=>hCX w H s₁ e s'
section
variable {X:Cx}
theorem zgK:OpR X (binaryOp .Mult) (rI IntMulOk fun i j=>.int (i * j)):=opI fun _ _ _ _ _ _ _ hc q=>mul_int q hc
end
structure qe (K:Frag) (x qual:Str) (st:Stmt) (f:Addr) (fd:FuncData) (items:List Value):Prop where
 ex:∃ (oc:Value) (od:Option Addr) (T:Addr) (kV doc pm:Value) (an:Option Addr) (cdv ct:Value) (osl:Array (Option Value)) (o:Obj) (n:Nat),
  fd = fnOf x qual (zq st) (zo st) (ze st) (.ref T) kV doc pm an cdv ct/\K.lookup f = some ⟨oc,od,.func fd,osl⟩/\codeIn K cdv qual = true/\K.lookup T = some o/\o.data = .seq items.toArray n
 kp:keepIn K (.ref f) = true
section
variable {P:Program} {w:World} {K:Frag} {mg:Str->Option Value} {base:Heap}
theorem qe.ok {x qual:Str} {st:Stmt} {f:Addr} {fd:FuncData} {items:List Value} {N ps:List Str} {k:Nat} {sp:Sp} (F:qe K x qual st f fd items) (S:zu N ps (ze st)) (len:∀ vs H Q E,sp vs H Q E->vs.length = ps.length)
  (hbody:∀ (cdv:Value) (A:Around) (outer:List Env) (s:Shared) (H:Hp) (vs:List V) (Q:VK) (E:XK),z8 k (A.deeper (envOfC qual (ze st) s.heap.objs.size f cdv))->sp vs H Q E->
   ∃ t,PSs (qa CX0 P w K mg base N qual (ze st) f cdv A outer s H E).nox (zo st) t/\t { nx:=fun _ H'=>Q .non H',rt:=Q } (wK N vs) H):zE P w K mg base CX0 (k + 1) f fd ps sp:=by
 obtain ⟨oc,od,T,kV,doc,pm,an,cdv,ct,osl,o,n,rfl,lk,hcd,_,_⟩:=F.ex
 refine zdB lk hcd S len fun A outer s H vs Q E hr hsp=>?_
 obtain ⟨t,h,q⟩:=hbody cdv A outer s H vs Q E hr hsp
 exact ⟨t,h.nox,q⟩
theorem qe.bindsTo {x qual:Str} {st:Stmt} {f:Addr} {fd:FuncData} {items:List Value} (F:qe K x qual st f fd items) {args:Args} {bs:List (Str × Value)}
  (h:∀ (T:Addr) (kV doc pm:Value) (an:Option Addr) (cdv ct:Value),∃ k:Option (Array Value)->Sem (List (Str × Value)),
   bindArgs (fnOf x qual (zq st) (zo st) (ze st) (.ref T) kV doc pm an cdv ct) args = seqItems? (.ref T) >>= k/\k (some items.toArray) = pure bs) {s:Shared} (KX:K.In s.heap):BindsTo s fd args bs:=by
 obtain ⟨oc,od,T,kV,doc,pm,an,cdv,ct,osl,o,n,rfl,lk,hcd,lt,hs⟩:=F.ex
 obtain ⟨k,h1,h2⟩:=h T kV doc pm an cdv ct
 exact BindsTo.of_defaults (T:=T) (n:=n) rfl (KX _ _ lt) hs h1 h2
theorem ju {x qual:Str} {st:Stmt} {f T:Addr} {oc:Value} {od an:Option Addr} {osl:Array (Option Value)} {kV doc pm cdv ct:Value} {o:Obj} {n:Nat} {items:List Value}
  (l:K.lookup f = some ⟨oc,od,.func (fnOf x qual (zq st) (zo st) (ze st) (.ref T) kV doc pm an cdv ct),osl⟩)
  (c:codeIn K cdv qual = true) (k:keepIn K (.ref f) = true) (lT:K.lookup T = some o) (hs:o.data = .seq items.toArray n) :
  qe K x qual st f (fnOf x qual (zq st) (zo st) (ze st) (.ref T) kV doc pm an cdv ct) items:=⟨⟨oc,od,T,kV,doc,pm,an,cdv,ct,osl,o,n,rfl,l,c,lT,hs⟩,k⟩
end
section
variable {X:Cx} {CX:CXT} {k:Nat} {f C:Addr} {fd:FuncData} {ps ks:List Str} {sp:Sp} {E:XK} {x:Str} {p pos:Pos} {e:Expr} {es:List Expr} {kws:List Keyword} {t tk:TA}
 {g:List Value->List Value->List Value} {gV:List V->List V->List V}
end
theorem yP {t u:TS} {D:u7} {σ : St} {H:Hp} (R:St->Hp->Prop) (h2:∀ σ H,R σ H->u D σ H) (h1:(∀ σ H,R σ H->u D σ H)->t { D with nx:=u D } σ H):xS t u D σ H:=h1 h2
def lcN (n i:Nat) (D:Addr) (Pv:Nat->List V->Hp->Prop) (ys:List V):VK:=fun v H4=>H4 D = some (.lst ys)/\ys.length < sizeLine/\∃ m',m' < n - i/\m' = n - (i + 1)/\i + 1<=n/\Pv (i + 1) (ys ++ [v]) (upd H4 D (.lst (ys ++ [v])))
def lcS (n i:Nat) (Pv:Nat->List V->Hp->Prop) (ys:List V):Hp->Prop:=fun H4=>∃ m',m' < n - i/\m' = n - (i + 1)/\i + 1<=n/\Pv (i + 1) ys H4
theorem lcN.mk {n i:Nat} {D:Addr} {Pv:Nat->List V->Hp->Prop} {ys:List V} {v:V} {H4:Hp} (hi:i < n) (hn:n<=sizeLine) (hD:H4 D = some (.lst ys)) (hy:ys.length<=i) (p:Pv (i + 1) (ys ++ [v]) (upd H4 D (.lst (ys ++ [v])))):lcN n i D Pv ys v H4:=
 ⟨hD,by omega,n - (i + 1),by omega,rfl,hi,p⟩
theorem lcS.mk {n i:Nat} {Pv:Nat->List V->Hp->Prop} {ys:List V} {H4:Hp} (hi:i < n) (p:Pv (i + 1) ys H4):lcS n i Pv ys H4:=⟨n - (i + 1),by omega,rfl,hi,p⟩
theorem ub {K:Frag} {a:Addr} {xs:List V} {caps:List (Option Nat)} {g:TG} {tt:TT} {te:TE} {σ : St} {H1:Hp} {Q:VK} {D:Addr} (Pv:Nat->List V->Hp->Prop) (h0:Pv 0 [] (upd H1 D (.lst [])))
  (hl:∀ i ys H,Pv i ys H->SqL K H a xs)
  (hs:∀ i x ys H,i < xs.length->xs[i]? = some x->Pv i ys H->g x (y0 caps σ) H fun σ2 H2=>tt σ2 H2 fun ok H3=>(ok = true->te σ2 H3 (lcN xs.length i D Pv ys))/\(ok = false->lcS xs.length i Pv ys H3))
  (hd:∀ ys H,Pv xs.length ys H->Q (.ref D) H):LCr (Itl K a) caps g tt te σ H1 Q D:=by
 refine ⟨fun i m ys H=>m = xs.length - i/\i<=xs.length/\Pv i ys H,⟨xs.length,by simp,Nat.zero_le _,h0⟩,?_⟩
 rintro i m ys H ⟨rfl,hi,p⟩
 have q:=hl i ys H p
 by_cases hlt:i < xs.length
 ·refine .inr ⟨⟨xs,xs[i],q,by simp [hlt]⟩,fun x H' y=>?_⟩
  obtain ⟨e,y⟩:=y
  subst e
  exact hs i x ys _ hlt (y xs q) p
 ·have e:i = xs.length:=by omega
  subst e
  exact .inl ⟨⟨xs,q,Nat.le_refl _⟩,hd ys H p⟩
theorem yc {H:Hp} {x dx:Addr} {o1:HO} (hx:H x = none) (hd:H dx = none):zm H (upd (upd H dx (.own x)) x o1):=fun b u q=>by
 rw [zi (zf q hx),zi (zf q hd)]
 exact q
theorem zb {H:Hp} {p:Addr} (h:H p = none) (o:HO):zm H (upd H p o):=fun b u q=>by rw [zi (zf q h)]; exact q
theorem jX {lo:Int} {n:Nat} {caps:List (Option Nat)} {g:TG} {tt:TT} {te:TE} {σ : St} {H1:Hp} {Q:VK} {D:Addr} (Pv:Nat->List V->Hp->Prop) (h0:Pv 0 [] (upd H1 D (.lst [])))
  (hs:∀ i ys H,i < n->Pv i ys H->g (.int (lo + i)) (y0 caps σ) H fun σ2 H2=>tt σ2 H2 fun ok H3=>(ok = true->te σ2 H3 (lcN n i D Pv ys))/\(ok = false->lcS n i Pv ys H3))
  (hd:∀ ys H,Pv n ys H->Q (.ref D) H):LCr (Itr lo n) caps g tt te σ H1 Q D:=by
 refine ⟨fun i m ys H=>m = n - i/\i<=n/\Pv i ys H,⟨n,by simp,Nat.zero_le _,h0⟩,?_⟩
 rintro i m ys H ⟨rfl,hi,p⟩
 by_cases hlt:i < n
 ·refine .inr ⟨hlt,fun x H' y=>?_⟩
  obtain ⟨e,y⟩:=y
  subst e y
  exact hs i ys _ hlt p
 ·have e:i = n:=by omega
  subst e
  exact .inl ⟨Nat.le_refl _,hd ys H p⟩
theorem zaR {K:Frag} {a:Addr} {xs:List V} {caps:List (Option Nat)} {g:TG} {tt:TT} {te:TE} {σ : St} {H1:Hp} {Q:VK} {D:Addr} (Pv:Nat->List V->Hp->Prop) (h0:Pv 0 [] (upd H1 D (.lst [])))
  (hl:∀ i ys H,Pv i ys H->SqL K H a xs)
  (hs:∀ i x p ys H,i < xs.length->xs[i]? = some x->Pv i ys H->H p = none->g (.ref p) (y0 caps σ) (upd H p (.tup [.int i,x])) fun σ2 H2=>tt σ2 H2 fun ok H3=>(ok = true->te σ2 H3 (lcN xs.length i D Pv ys))/\(ok = false->lcS xs.length i Pv ys H3))
  (hd:∀ ys H,Pv xs.length ys H->Q (.ref D) H):LCr (Ite K a) caps g tt te σ H1 Q D:=by
 refine ⟨fun i m ys H=>m = xs.length - i/\i<=xs.length/\Pv i ys H,⟨xs.length,by simp,Nat.zero_le _,h0⟩,?_⟩
 rintro i m ys H ⟨rfl,hi,p⟩
 have q:=hl i ys H p
 by_cases hlt:i < xs.length
 ·refine .inr ⟨⟨xs,xs[i],q,by simp [hlt]⟩,fun x H' y=>?_⟩
  obtain ⟨pp,y,rfl,hp,y2,rfl⟩:=y
  exact hs i y pp ys H hlt (y2 xs q) p hp
 ·have e:i = xs.length:=by omega
  subst e
  exact .inl ⟨⟨xs,q,Nat.le_refl _⟩,hd ys H p⟩
theorem wk {K:Frag} {a:Addr} {xs:List V} {g:TG} {tb:TS} {D:u7} {σ : St} {H:Hp} (Pv:Nat->St->Hp->Prop) (h0:Pv 0 σ H) (hl:∀ i σ H,i<=xs.length->Pv i σ H->SqL K H a xs)
  (hs:∀ i x p σ H,xs[i]? = some x->Pv i σ H->H p = none->g (.ref p) σ (upd H p (.tup [.int i,x])) fun σ2 H2=>tb { D with nx:=Pv (i + 1),ct:=Pv (i + 1),bk:=D.nx } σ2 H2) (hd:∀ σ H,Pv xs.length σ H->D.nx σ H) :
  ∃ W:Nat->Nat->St->Hp->Prop,(∃ m,W 0 m σ H)/\∀ i m σ H,W i m σ H->
   ((Ite K a).stop i H/\D.nx σ H)\/((Ite K a).go i H/\∃ N:St->Hp->Prop,(∀ σ' H',N σ' H'->∃ m',m' < m/\W (i + 1) m' σ' H')/\∀ x H',(Ite K a).yld i H x H'->g x σ H' fun σ2 H2=>tb { D with nx:=N,ct:=N,bk:=D.nx } σ2 H2):=by
 refine ⟨fun i m σ H=>m = xs.length - i/\i<=xs.length/\Pv i σ H,⟨xs.length,by simp,Nat.zero_le _,h0⟩,?_⟩
 rintro i m σ H ⟨rfl,hi,p⟩
 have q:=hl i σ H hi p
 by_cases hlt:i < xs.length
 ·refine .inr ⟨⟨xs,xs[i],q,by simp [hlt]⟩,Pv (i + 1),fun σ' H' p'=>⟨xs.length - (i + 1),by omega,rfl,hlt,p'⟩,fun x H' y=>?_⟩
  obtain ⟨pp,y,rfl,hp,y2,rfl⟩:=y
  exact hs i y pp σ H (y2 xs q) p hp
 ·have e:i = xs.length:=by omega
  subst e
  exact .inl ⟨⟨xs,q,Nat.le_refl _⟩,hd σ H p⟩
theorem za3 {X:Cx}:y1 X (.builtin "isinstance") (fun xs H Q=>∃ a ys T b,xs = [.ref a,.ty T]/\SqT X.K H a ys/\kitOne X.K (.type "tuple") (.type T) = some b/\Q (.bl b) H):=by
 intro pins s σ H xs us Q I r h
 obtain ⟨a,ys,T,b,rfl,hS,e,q⟩:=h
 obtain ⟨u,w',rfl,ru,rw'⟩:=qp r
 cases rw'
 cases ru
 obtain ⟨its,r,⟨o,h1,h2,_⟩,_⟩:=I.tuple hS
 exact kia_one PySem.W.kitx_tuple I.kIn ⟨o,h1,h2⟩ e (fun z=>nomatch z) fun tk=>⟨.bl b,H,I.tok tk,rfl,q⟩
structure Fly (P:Program) (w:World) (outer:List Env) (H:Hp) (s:Shared) (cls:Value) (H':Hp) (ea:Addr) (s':Shared):Prop where
 os:s'.os = s.os
 bare:AllBare s'.gens
 un:Un (frs outer) [] H H' s.heap s'.heap
 hok:HOk P w H' s'.heap
 nt:H' ea = none
 fly:∃ B a0,Heap.FlyingW B outer ea cls a0 s'.heap/\(∀ b u,H' b = some u->∃ o,B.get? b = some o)/\(∀ b o,s.heap.get? b = some o->H b = none->b ∉ frs outer->B.get? b = some o)/\
  ∀ b o,s.heap.get? b = some o->b ∉ frs outer->∃ o',B.get? b = some o'
abbrev CXe (P:Program) (w:World):CXT:=fun outer H s E e s'=>∃ ea cls H',e = .ref ea/\Fly P w outer H s cls H' ea s'/\E cls none H'
section
variable {X:Cx} {pins:List (Addr × Obj)} {σ : St} {H H':Hp} {s s':Shared} {ea:Addr} {cls:Value} {vs:List Value} {h':Heap} {M:Model} {E:Value->Shared->Prop}
theorem zab (hstk:X.stack = X.env :: X.outer) (hfl:X.env.frame = some X.env.locals):frs X.stack = X.env.locals :: frs X.outer:=by
 rw [hstk]
 unfold frs
 rw [List.filterMap_cons,hfl]
theorem HOk.sameAt {P:Program} {w:World} {h h':Heap} (x:HOk P w H h) (k:∀ b u o,H b = some u->h.get? b = some o->h'.get? b = some o):HOk P w H h':=fun a o e=>
 (x a o e).stay (fun b u hb q=>by
  rcases hb with z | z
  ·exact k b o u (by rw [z]; exact e) q
  ·exact k b _ u z q) (fun _ q=>q) fun _ _ q=>q
theorem HOk.rec {P:Program} {w:World} {h:Heap} (x:HOk P w H h) {b:Addr} {u:HO} (e:H b = some u):∃ o,h.get? b = some o:=by
 have q:=x b u e
 cases u with
 | lst xs=>obtain ⟨_,_,_,_,e⟩:=q; exact ⟨_,e⟩
 | tup xs=>obtain ⟨_,_,_,o,e,_⟩:=q; exact ⟨_,e⟩
 | dK kvs=>obtain ⟨_,_,_,_,o,_,_,e,_⟩:=q; exact ⟨_,e⟩
 | dT kvs=>obtain ⟨_,_,_,_,o,_,_,e,_⟩:=q; exact ⟨_,e⟩
 | set S n=>obtain ⟨o,_,_,_,e,_⟩:=q; exact ⟨_,e⟩
 | ins C dx fs=>obtain ⟨_,_,_,e,_⟩:=q; exact ⟨_,e⟩
 | own y=>exact q
 | xd fs=>obtain ⟨_,⟨o,_,_,e,_⟩,_⟩:=q; exact ⟨_,e⟩
 | rng lo hi=>obtain ⟨_,_,_,e⟩:=q; exact ⟨_,e⟩
 | frz ob u=>obtain ⟨e,_⟩:=q; exact ⟨_,e⟩
 | tbl ps=>exact ⟨_,q⟩
 | met f y=>exact ⟨_,q⟩
 | ext φ=>exact q.2.1
theorem zf1 (I:Inv X pins σ H s) (hstk:X.stack = X.env :: X.outer) (hfl:X.env.frame = some X.env.locals) (hex:X.ex = []) (hx:Heap.MadeExcOf s.heap h' ea cls vs) :
  wpAny M X.A (leaving X.env (.ref ea)) (fun _ s''=>Fly X.prog X.w X.outer X.H₀ X.s₀ cls H ea s'') E { s with heap:=h' }:=by
 have fr:=zab hstk hfl
 have fl:s.heap.FunFrames (hideAll s.heap (frs X.stack)) (X.env :: X.outer):=by
  have:=I.stack
  rw [hstk] at this
  refine PySem.W.funFrames_hide this fun env he b hb=>?_
  rw [hstk]
  exact List.mem_filterMap.mpr ⟨env,he,hb⟩
 have fr0:=I.ok.frames
 rw [hstk] at fr0
 have neL:∀ b o,X.s₀.heap.get? b = some o->b ≠ X.env.locals:=fun b o e=>Nat.ne_of_lt (Nat.lt_of_lt_of_le (Heap.lt_size e) I.ok.above)
 have noEx:∀ b:Addr,b ∉ X.ex:=fun b=>by rw [hex]; simp
 have inB:∀ b o,s.heap.get? b = some o->b ∉ frs X.stack->(hideAll s.heap (frs X.stack)).get? b = some o:=fun b o e n=>PySem.W.hideAll_get _ e n
 have trB:∀ b u,H b = some u->b ∉ frs X.stack:=fun b u e n=>by rw [I.stkFree b n] at e; cases e
 refine wpAny_leaves_madeW (base:=hideAll s.heap (frs X.stack)) fr0 hfl (fun b o q=>PySem.W.of_hideAll _ q) fl hx fun h2 t x1 x2 x3 x4=>?_
 have stay:∀ b o,s.heap.get? b = some o->b ∉ frs X.stack->h2.get? b = some o:=fun b o e n=>x1.1 b o (inB b o e n)
 have up:∀ b o,s.heap.get? b = some o->(∀ vs,o.data ≠ .fields vs)->∃ sl,h2.get? b = some { o with slots:=sl }:=fun b o e n=>x4 b o (hx.keeps b o e) n
 refine ⟨I.os,I.bare,⟨fun b o e n hb _=>?_,fun b o e n hb _=>?_,fun b o e n _=>I.base.free b o e n (noEx b),fun b o e _=>?_,I.base.tups,I.base.frzs,I.base.tbls⟩,I.hok.sameAt fun b u o e q=>stay b o q (trB b u e),?_,?_⟩
 ·refine stay b o (I.base.keep b o e n hb (noEx b)) ?_
  rw [fr]
  exact fun z=>(List.mem_cons.mp z).elim (neL b o e) hb
 ·obtain ⟨sl,e1⟩:=I.base.slot b o e n hb (noEx b)
  obtain ⟨_,o',ho',hd⟩:=I.funs.mem hb
  rw [e1] at ho'
  cases ho'
  obtain ⟨sl2,e2⟩:=up b _ e1 hd
  exact ⟨sl2,e2⟩
 ·obtain ⟨o1,e1⟩:=I.base.there b o e (noEx b)
  by_cases hb:b ∈ frs X.stack
  ·obtain ⟨_,o',ho',hd⟩:=I.stack.mem hb
   obtain ⟨sl2,e2⟩:=up b o' ho' hd
   exact ⟨_,e2⟩
  ·exact ⟨o1,stay b o1 e1 hb⟩
 ·cases q:H ea with
  | none=>rfl
  | some u=>
   obtain ⟨o,e⟩:=I.hok.rec q
   rw [hx.new] at e; cases e
 ·refine ⟨_,_,x1,fun b u e=>?_,fun b o e n hb=>?_,fun b o e hb=>?_⟩
  ·obtain ⟨o,q⟩:=I.hok.rec e
   exact ⟨o,inB b o q (trB b u e)⟩
  ·refine inB b o (I.base.keep b o e n hb (noEx b)) ?_
   rw [fr]
   exact fun z=>(List.mem_cons.mp z).elim (neL b o e) hb
  ·obtain ⟨o1,e1⟩:=I.base.there b o e (noEx b)
   refine ⟨o1,inB b o1 e1 ?_⟩
   rw [fr]
   exact fun z=>(List.mem_cons.mp z).elim (neL b o e) hb
theorem ziD (I:Inv X pins σ H s) (hstk:X.stack = X.env :: X.outer) (hfl:X.env.frame = some X.env.locals) (hex:X.ex = []) (F:Fly X.prog X.w X.stack H s cls H' ea s') :
  wpAny M X.A (leaving X.env (.ref ea)) (fun _ s''=>Fly X.prog X.w X.outer X.H₀ X.s₀ cls H' ea s'') E s':=by
 have fr:=zab hstk hfl
 have fr0:=I.ok.frames
 rw [hstk] at fr0
 obtain ⟨B,a0,fl,tr,old,olds⟩:=F.fly
 have neL:∀ b o,X.s₀.heap.get? b = some o->b ≠ X.env.locals:=fun b o e=>Nat.ne_of_lt (Nat.lt_of_lt_of_le (Heap.lt_size e) I.ok.above)
 have noEx:∀ b:Addr,b ∉ X.ex:=fun b=>by rw [hex]; simp
 have nst:∀ b o,X.s₀.heap.get? b = some o->b ∉ frs X.outer->b ∉ frs X.stack:=fun b o e hb=>by
  rw [fr]
  exact fun z=>(List.mem_cons.mp z).elim (neL b o e) hb
 have fl':=fl
 rw [hstk] at fl'
 refine wpAny_leaves_onW fr0 hfl fl' fun h2 x1 x2=>?_
 have oldB:∀ b o,X.s₀.heap.get? b = some o->X.H₀ b = none->b ∉ frs X.outer->B.get? b = some o:=fun b o e n hb=>
  old b o (I.base.keep b o e n hb (noEx b)) (I.base.free b o e n (noEx b)) (nst b o e hb)
 refine ⟨F.os.trans I.os,F.bare,⟨fun b o e n hb _=>x1.1 b o (oldB b o e n hb),fun b o e n hb _=>?_,fun b o e n _=>?_,fun b o e _=>?_,fun b xs e=>F.un.tups b xs (I.base.tups b xs e),fun b o u e=>F.un.frzs b o u (I.base.frzs b o u e),fun b ps e=>?_⟩,F.hok.sameAt fun b u o e q=>?_,F.nt,⟨B,a0,x1,tr,oldB,fun b o e hb=>?_⟩⟩
 ·obtain ⟨sl,e1⟩:=I.base.slot b o e n hb (noEx b)
  obtain ⟨sl1,e2⟩:=F.un.any e1 (I.base.free b o e n (noEx b)) (by simp)
  have hd:∀ vs,o.data ≠ .fields vs:=by
   obtain ⟨_,o',ho',hd⟩:=I.funs.mem hb
   rw [e1] at ho'
   cases ho'
   exact hd
  obtain ⟨sl2,e3⟩:=x2 b _ e2 hd
  exact ⟨sl2,e3⟩
 ·obtain ⟨o',e1⟩:=I.base.there b o e (noEx b)
  exact F.un.free b o' e1 (I.base.free b o e n (noEx b)) (by simp)
 ·obtain ⟨o1,e1⟩:=I.base.there b o e (noEx b)
  obtain ⟨o2,e2⟩:=F.un.there b o1 e1 (by simp)
  by_cases hb:b ∈ frs X.stack
  ·obtain ⟨_,o',ho',hd⟩:=fl.2.2.1.mem hb
   obtain ⟨sl2,e3⟩:=x2 b o' ho' hd
   exact ⟨_,e3⟩
  ·obtain ⟨o3,e3⟩:=olds b o1 e1 hb
   exact ⟨o3,x1.1 b o3 e3⟩
 ·obtain ⟨m1,e1⟩:=I.base.tbls b ps e
  obtain ⟨m2,e2⟩:=F.un.tbls b _ e1
  exact ⟨m1 ++ m2,by rw [e2,Array.append_assoc]⟩
 ·obtain ⟨o3,e3⟩:=tr b u e
  have e4:=fl.1 b o3 e3
  rw [q] at e4
  cases e4
  exact x1.1 b o e3
 ·obtain ⟨o1,e1⟩:=I.base.there b o e (noEx b)
  exact olds b o1 e1 (nst b o e hb)
end
def zgd (X:Cx) (E:XK):Prop:=∀ (pins:List (Addr × Obj)) (σ : St) (H:Hp) (s:Shared) (ea:Addr) (cls:Value) (vs:List Value) (h':Heap),Inv X pins σ H s->Heap.MadeExcOf s.heap h' ea cls vs->E cls none H->X.xe (.ref ea) { s with heap:=h' }
def zhL (C:Addr) (E:XK) (t:TA):TS:=fun _ σ H=>t σ H fun vs H1=>vs.length<=sizeLine/\E (.ref C) none H1
section
variable {X:Cx} {E:XK} {x:Str} {C:Addr} {B Bn newId nid initId inN:String} {bm bmN:List Value} {np cpos pos:Pos} {e:Expr} {es:List Expr} {t:TA}
theorem ze9 (hX:zgd X E) (O:OwnCls x C bm newId X.mg X.base) (Fn:ExcBaseFacts Bn newId inN bmN) (hBn:bm.contains (.type Bn) = true) (FB:ExcBaseFacts B nid initId bm) (hc:X.calm = true) (ha:PA X (e :: es) t)
  (hg:Gl X x:=by rfl) (hd:(x == ("__debug__" : Str)) = false:=by decide) (h1:wI e = false:=by rfl) (h2:es.any wI = false:=by rfl) :
  PS X (.Raise (some (.Call (.Name x np) (e :: es) [] cpos)) none pos) (zhL C E t):=by
 refine ⟨?_⟩
 intro pins s σ H D I h
 obtain ⟨tl,N,nm,q,bs,hdct,sn,sub,ab,col,dd,k0,k1,k2,k3,k5,mN,hC,hN,hni,T⟩:=O.obj
 have hst:starEach (e :: es) X.env = (false,eval e X.env) :: starEach es X.env:=yM h1
 refine wpAny_Raise_call_subU (C:=C) (nm:=nm) (q:=q) (N:=N) (bs:=bs) (bm:=tl) (hdct:=hdct) (sn:=sn) (sub:=sub) (ab:=ab) (col:=col) (dd:=dd) (k0:=k0) (k1:=k1) (k2:=k2) (k3:=k3) (k5:=k5)
  Fn hBn FB (mN:=mN) (T.hasType FB.hasBase) (I.ok.hd hc) (by rw [hst]; show (false || (backTo cpos (starEach es X.env)).any (·.1)) = false; rw [xB h2]; rfl) hni (vg I hg O.bound ⟨rfl,?_⟩ hd)
 rw [hst]
 refine Calls.evalArgs_plain ?_
 have hA:=ha cpos pins s σ H _ I h
 rw [hst] at hA
 refine thn hA fun us s2 ⟨vs,H1,I1,r,hl,q1⟩=>⟨rfl,by rw [<- r.length]; exact hl,I1.bk _ _ hC,hN.keeps I1.bk,T.keeps I1.bk,fun h' ea hm=>?_⟩
 exact hX pins σ H1 s2 ea _ _ h' I1 hm q1
end
section
variable {P:Program} {w:World} {K:Frag} {mg:Str->Option Value} {base:Heap} {N:List Str} {qual:Str} {scope:Scope} {f:Addr} {cd:Value} {A:Around} {outer:List Env} {s:Shared} {H:Hp} {E E':XK}
theorem zd0:zgd (qa (CXe P w) P w K mg base N qual scope f cd A outer s H E) E:=fun pins σ H1 s1 ea cls vs h' I hm q=>by
 refine wpAny_mono (zf1 I rfl rfl rfl hm) (fun _ s2 F=>?_) fun _ _ z=>z
 exact ⟨ea,cls,H1,rfl,F,q⟩
theorem vt (hE:∀ c d H,E' c d H->E c d H):xy (CXe P w) (qa (CXe P w) P w K mg base N qual scope f cd A outer s H E) E':=fun pins σ H1 s1 e s' I q=>by
 obtain ⟨ea,cls,H',rfl,F,q⟩:=q
 refine wpAny_mono (ziD I rfl rfl rfl F) (fun _ s2 F2=>?_) fun _ _ z=>z
 exact ⟨ea,cls,H',rfl,F2,hE _ _ _ q⟩
theorem Fun.okE {x:Str} {st:Stmt} {fd:FuncData} {ps:List Str} {k:Nat} {sp:Sp} (F:Fun K x qual st f fd) (S:zu N ps (ze st)) (len:∀ vs H Q E,sp vs H Q E->vs.length = ps.length)
  (hbody:∀ (cdv:Value) (A:Around) (outer:List Env) (s:Shared) (H:Hp) (vs:List V) (Q:VK) (E:XK),z8 k (A.deeper (envOfC qual (ze st) s.heap.objs.size f cdv))->sp vs H Q E->
   ∃ t,PSs (qa (CXe P w) P w K mg base N qual (ze st) f cdv A outer s H E) (zo st) t/\t { nx:=fun _ H'=>Q .non H',rt:=Q } (wK N vs) H):zE P w K mg base (CXe P w) (k + 1) f fd ps sp:=by
 obtain ⟨oc,od,kV,doc,pm,an,cdv,ct,osl,rfl,lk,hcd⟩:=F.ex
 exact zdB lk hcd S len fun A outer s H vs Q E hr hsp=>hbody cdv A outer s H vs Q E hr hsp
end
structure za8 (P:Program) (w:World) (K:Frag) (mg:Str->Option Value) (base:Heap) (k:Nat) (x:Str) (f:Addr) (fd:FuncData) (ps:List Str) (sp:Sp):Prop where
 ok:zE P w K mg base (CXe P w) k f fd ps sp
 mg:mg x = some (.ref f)
 kp:keepIn K (.ref f) = true
 bd:zS K fd ps []
section
variable {X:Cx} {k:Nat} {f:Addr} {fd:FuncData} {ps:List Str} {sp:Sp} {E:XK} {x:Str} {p pos:Pos} {e:Expr} {es:List Expr} {t:TA}
theorem cE (c:za8 X.prog X.w X.K X.mg X.base k x f fd ps sp) (hp:xy (CXe X.prog X.w) X E) (hr:z8 k X.A) (ha:PA X (e :: es) t) (hg:Gl X x:=by rfl) (hdb:(x == ("__debug__" : Str)) = false:=by decide)
  (h1:wI e = false:=by rfl) (h2:es.any wI = false:=by rfl):PE X (.Call (.Name x p) (e :: es) [] pos) (zc7 sp [] E t):=
 zdo c.ok hr hg c.mg c.kp c.bd .nil hp ha hdb (yM h1) (xB h2)
end
section
variable {X:Cx} {pins:List (Addr × Obj)} {σ : St} {H H':Hp} {s s':Shared} {ea a:Addr} {cls:Value} {o:HO} {h5:Heap}
end
section
variable {X:Cx} {pins:List (Addr × Obj)} {σ : St} {H:Hp} {s:Shared} {M:Model} {A:Around} {E:Value->Shared->Prop} {i:Nat} {n:Str} {pos:Pos}
end
section
variable {X:Cx} {pins:List (Addr × Obj)} {σ : St} {e:Expr} {es:List Expr} {te ta:TE} {t tr:TA} {E:XK} {x m:Str} {p pos apos:Pos} {k:Nat} {f C:Addr} {fd:FuncData} {ps:List Str} {sp:Sp} {o:Expr} {dvs:List V} {ds:List Value}
end
section
variable {X:Cx} {pins:List (Addr × Obj)} {σ : St} {H:Hp} {s:Shared} {ea:Addr}
variable {st b₀:Stmt} {suite:List Stmt} {c n:Str} {np hpos pos:Pos} {C:Addr} {i:Nat} {tb:XK->TS} {ts:TS} {ok:Value->Prop}
end
end L2
namespace L2
open PySem PySem.W PySem.Builtin PySem.Builtin.ObjectAttr PySem.Builtin.Getset_descriptor PySem.Spec PyProof.Rows
section
variable {prog:Program} {w:World} {A:Around} {E:Value->Shared->Prop} {s:Shared} {K:Frag} {x D:Addr}
end
end L2
namespace L2
open PySem PySem.Spec PyProof.Rows
section
variable {X:Cx}
theorem qm:∀ {cs:List Addr} {us:List Value},zP (cs.map V.ref) us->us = cs.map Value.ref
 | [],_,.nil=>rfl
 | c :: cs,_,.cons r t=>by
  cases r
  rw [qm t]
  rfl
end
section
variable {P:Program} {w:World} {K:Frag} {mg:Str->Option Value} {base:Heap}
end
section
variable {X:Cx} {k:Nat} {f:Addr} {fd:FuncData} {ps:List Str} {sp:Sp} {x:Str} {p pos:Pos} {e:Expr} {es:List Expr} {t:TA}
end
section
variable {prog:Program} {w:World} {A:Around} {E:Value->Shared->Prop} {s:Shared} {r:Addr} {n:Int} {t u v:Tok}
end
section
variable {X:Cx} {tg:Expr}
end
section
variable {X:Cx} {o i:Expr} {to ti:TE} {pos tpos:Pos}
def zj0:R2:=fun x y H Q=>∃ (a c:Addr) (xs ys:List V),x = .ref a/\y = .ref c/\H a = some (.lst xs)/\H c = some (.lst ys)/\xs.length ≠ ys.length/\Q (.bl false) H
theorem zbz (hu:X.A.units < cLine):OpR X (compareOp .Eq) zj0:=by
 intro pins s σ H x y v u Q I rx ry h
 obtain ⟨a,c,xs,ys,rfl,rfl,ha,hc,hn,q⟩:=h
 cases rx
 cases ry
 obtain ⟨its,r,pl,_⟩:=I.list (SqL.of ha)
 obtain ⟨its2,r2,pl2,_⟩:=I.list (SqL.of hc)
 have e1:=r.length
 have e2:=r2.length
 exact PySem.SeqAt.eq_list_lengthsAt pl.isList pl2.isList (by simp only [List.size_toArray,bne_iff_ne]; omega) hu ⟨.bl false,H,I,rfl,q⟩
end
section
variable {X:Cx} {pins:List (Addr × Obj)} {σ : St} {e:Expr} {te:TE} {pos p:Pos} {C:Addr} {x:Str}
end
theorem zhx {P:Program} {w:World} {X:Cx}:xy (CXe P w) X (fun _ _ _=>False):=fun pins σ H1 s1 e s' I q=>by
 obtain ⟨_,_,_,_,_,q⟩:=q
 exact q.elim
theorem xN {H H1:Hp} {x dx:Addr} {o1 o2:HO} (hx:H x = none) (hd:H dx = none) (s:zm (upd (upd H dx (.own x)) x o1) H1):zm H (upd H1 x o2):=fun b u q=>by
 rw [zi (zf q hx)]
 exact s _ _ (yc hx hd b u q)
structure qh (P:Program) (w:World) (K:Frag) (mg:Str->Option Value) (base:Heap) (CX:CXT) (k:Nat) (x:Str) (C i:Addr) (fd:FuncData) (ps:List Str) (ds:List Value) (sp:Sp):Prop where
 mkr:Mk K C i
 ok:zE P w K mg base CX k i fd ps sp
 mg:mg x = some (.ref C)
 bd:zS K fd ps ds
section
variable {X:Cx} {CX:CXT} {k:Nat} {C i f:Addr} {fd:FuncData} {ps ks:List Str} {sp:Sp} {E:XK} {x m:Str} {p pos apos:Pos} {e:Expr} {es:List Expr} {t tk:TA} {ds:List Value} {dvs:List V} {kws:List Keyword}
 {g:List Value->List Value->List Value} {gV:List V->List V->List V}
theorem cMk (c:qh X.prog X.w X.K X.mg X.base CX k x C i fd ps ds sp) (hd:zP dvs ds) (hp:xy CX X E) (hr:z8 (k + 1) X.A) (ha:PA X (e :: es) t) (hg:Gl X x:=by rfl) (hdb:(x == ("__debug__" : Str)) = false:=by decide)
  (h1:wI e = false:=by rfl) (h2:es.any wI = false:=by rfl):PE X (.Call (.Name x p) (e :: es) [] pos) (zhs C sp dvs E t):=zdm c.mkr c.ok hr hg c.mg c.bd hd hp ha hdb (yM h1) (xB h2)
structure qi (K:Frag) (C:Addr) (m:Str) (f:Addr):Prop where
 ga:specialIn K (.ref C) "__getattribute__" = some (some (.builtin "type.__getattribute__"))
 rd:PySem.W.readsIn K C (.type "type") = true
 fc:PySem.W.findCls K (.ref C) (.type "type") m = some (.val (.ref f))
 kp:keepIn K (.ref f) = true
theorem zbq {pl:Sem Bool} (B:qi X.K C m f) (hm:X.mg x = some (.ref C)) (F:zE X.prog X.w X.K X.mg X.base CX k f fd ps sp) (hr:z8 k X.A) (hb:zS X.K fd ps []) (hx:xy CX X E) (ha:PA X (e :: es) t) (hg:Gl X x:=by rfl)
  (hdb:(x == ("__debug__" : Str)) = false:=by decide) (h1:wI e = false:=by rfl) (h2:es.any wI = false:=by rfl)
  (ht:eval (.Call (.Attribute (.Name x p) m apos) (e :: es) [] pos) X.env = (do
   let ov <- eval (.Name x p) X.env
   standAt apos.atName
   let (f,first) <- holding [ov] (getMethod ov m pl)
   callWith pos f first (backTo pos (starEach (e :: es) X.env)) (backToKw pos (keywordEach [] X.env))):=by rfl) :
  PE X (.Call (.Attribute (.Name x p) m apos) (e :: es) [] pos) (zc7 sp [] E t):=by
 refine ⟨?_⟩
 intro pins s σ H Q I h
 refine methodCall_KW (pl:=pl) (vg I hg hm ?_ hdb) ht
 refine PySem.W.method_cls I.kIn B.ga (PySem.W.cls_value I.kIn B.rd B.fc rfl ?_)
 have It:=I.tok (s.toks + 1)
 refine callWith_K (first:=[]) (h₀:=X.base) I.ok.mod.kin B.kp (thn (ha pos pins _ σ H _ It h) fun us s2 ⟨vs,H2,I2,r,q2⟩=>⟨I2.kIn,?_⟩) (yM h1) (xB h2)
 exact jK F hr hb .nil hx I2 r q2
end
theorem qe.okE {P:Program} {w:World} {K:Frag} {mg:Str->Option Value} {base:Heap} {x qual:Str} {st:Stmt} {f:Addr} {fd:FuncData} {items:List Value} {N ps:List Str} {k:Nat} {sp:Sp} (F:qe K x qual st f fd items) (S:zu N ps (ze st)) (len:∀ vs H Q E,sp vs H Q E->vs.length = ps.length)
  (hbody:∀ (cdv:Value) (A:Around) (outer:List Env) (s:Shared) (H:Hp) (vs:List V) (Q:VK) (E:XK),z8 k (A.deeper (envOfC qual (ze st) s.heap.objs.size f cdv))->sp vs H Q E->
   ∃ t,PSs (qa (CXe P w) P w K mg base N qual (ze st) f cdv A outer s H E) (zo st) t/\t { nx:=fun _ H'=>Q .non H',rt:=Q } (wK N vs) H):zE P w K mg base (CXe P w) (k + 1) f fd ps sp:=by
 obtain ⟨oc,od,T,kV,doc,pm,an,cdv,ct,osl,o,n,rfl,lk,hcd,_,_⟩:=F.ex
 exact zdB lk hcd S len fun A outer s H vs Q E hr hsp=>hbody cdv A outer s H vs Q E hr hsp
theorem vT {X:Cx} {st:Stmt}:PS X st (fun _ _ _=>False):=⟨fun _ _ _ _ _ _ h=>h.elim⟩
def zkn (P:Program) (w:World) (a:Addr) (S:Str->Bool) (n:Nat) (h:Heap):Prop:=h.SetOf (strKind P w) a S n
abbrev wG (P:Program) (w:World) (a:Addr) (S:Str->Bool) (n:Nat):HO:=.ext (zkn P w a S n)
theorem zaH {P:Program} {w:World} {H:Hp} {h:Heap} {a:Addr} {S:Str->Bool} {n:Nat} (e:h.SetOf (strKind P w) a S n):yi P w H h a (wG P w a S n):=
 ⟨e,let ⟨o,_,_,_,h1,_⟩:=e; ⟨o,h1⟩,fun g1 g2 q k=>let ⟨o,es,ep,t,h1,c⟩:=q; ⟨o,es,ep,t,k o h1,c⟩⟩
section
variable {X:Cx}
theorem zeC:y1 X (.type "set") (fun xs H Q=>xs = []/\∀ p,H p = none->Q (.ref p) (upd H p (wG X.prog X.w p (fun _=>false) 0))):=by
 intro pins s σ H xs us Q I r h
 obtain ⟨rfl,q⟩:=h
 cases r
 refine call_set_0 fun led=>?_
 have hf:H s.heap.objs.size = none:=I.hok.fresh (Nat.le_refl _)
 refine ⟨.ref s.heap.objs.size,_,I.laid (t':=s.toks) (fun b u e=>Heap.get?_push_of_some _ e) (Nat.le_refl _) (zaH ?_),rfl,q _ hf⟩
 exact (setObjOf_fresh led).setOf (Heap.get?_push_size _ rfl) (by decide)
theorem jQ:OpR X (compareOp .In) (fun x y H Q=>∃ (a:Addr) (S:Str->Bool) (n:Nat) (z:Str),x = .str z/\y = .ref a/\H a = some (wG X.prog X.w a S n)/\Q (.bl (S z)) H):=by
 intro pins s σ H x y v u Q I rx ry h
 obtain ⟨a,S,n,z,rfl,rfl,e,q⟩:=h
 obtain ⟨t,rfl⟩:=rx
 cases ry
 have hS:s.heap.SetOf (strKind X.prog X.w) a S n:=(I.hok a _ e).1
 exact wpAny_inSet_of (strKind_is X.prog X.w z t) rfl hS ⟨.bl (S z),H,I.tok _,rfl,q⟩
def ziU (P:Program) (w:World) (to te:TE):TE:=fun σ H Q=>to σ H fun x H1=>∃ (a:Addr) (S:Str->Bool) (n:Nat),x = .ref a/\H1 a = some (wG P w a S n)/\te σ H1 fun y H2=>∃ (S:Str->Bool) (n:Nat) (z:Str),y = .str z/\H2 a = some (wG P w a S n)/\n + 1 < scanBound/\
 Q .non (upd H2 a (wG P w a (fun k=>S k || decide (k = z)) (if S z then n else n + 1)))
theorem zgE {o e:Expr} {apos cpos:Pos} {to te:TE} (ho:PE X o to) (he:PE X e te) (m:M1 X o "add" apos e cpos):PE X (.Call (.Attribute o "add" apos) [e] [] cpos) (ziU X.prog X.w to te):=by
 refine ⟨?_⟩
 intro pins s σ H Q I h
 refine wpAny_Call_method m.base m.few m.line PySem.F.plainAttrs_set PySem.F.slot_set_add PySem.F.type_set_add (thn (ho pins s σ H _ I h) fun u s1 ⟨x,H1,I1,rx,a,S,n,ex,d,q1⟩=>?_)
 subst ex
 obtain rfl:u = Value.ref a:=rx
 have hS:s1.heap.SetOf (strKind X.prog X.w) a S n:=(I1.hok a _ d).1
 refine ⟨hS.typeIs,hS.noDict,?_⟩
 rw [m.trees]
 refine Calls.callWith_builtin rfl (Calls.evalArgs_plain (Calls.spliced_cons (thn (he pins s1 σ H1 _ I1 q1) fun iv s2 ⟨y,H2,I2,ry,S2,n2,z,ey,e2,hn,q2⟩=>Calls.spliced_nil ?_)))
 subst ey
 obtain ⟨t,rfl⟩:=ry
 have hS2:s2.heap.SetOf (strKind X.prog X.w) a S2 n2:=(I2.hok a _ e2).1
 refine call_set_add (strKind_is X.prog X.w z t) rfl hS2 hn fun h' hs hS3=>⟨.non,_,?_,rfl,q2⟩
 refine I2.write (x:=a) (e:=a) (by rw [e2]; exact True.intro) (.inl rfl) (fun b q hb z=>(hs.2 b hb).trans z) (let ⟨o,_,_,_,h1,_⟩:=hS3; ⟨o,h1⟩) (zaH hS3)
def zhM (Cs:Addr->Prop) (m:Str) (sp:Sp) (E:XK) (ta:TE):TE:=fun σ H Q=>ta σ H fun x H1=>∃ a C dx fs,x = .ref a/\Cs C/\H1 a = some (.ins C dx fs)/\fs.lookup m = none/\sp [x] H1 Q E
theorem vV {CX:CXT} {k:Nat} {f:Addr} {fd:FuncData} {ps:List Str} {sp:Sp} {E:XK} {m:Str} {pos apos:Pos} {o:Expr} {ta:TE} {Cs:Addr->Prop} {pl:Sem Bool} (he:PE X o ta) (hC:∀ C,Cs C->Cls X.K C/\y6 X.K C m f) (F:zE X.prog X.w X.K X.mg X.base CX k f fd ps sp) (hr:z8 k X.A) (hb:zS X.K fd ps []) (hx:xy CX X E)
  (ht:eval (.Call (.Attribute o m apos) [] [] pos) X.env = (do
   let ov <- eval o X.env
   standAt apos.atName
   let (f,first) <- holding [ov] (getMethod ov m pl)
   callWith pos f first (backTo pos (starEach [] X.env)) (backToKw pos (keywordEach [] X.env))):=by rfl) :
  PE X (.Call (.Attribute o m apos) [] [] pos) (zhM Cs m sp E ta):=by
 refine ⟨?_⟩
 intro pins s σ H Q I h
 refine methodCall_KW (pl:=pl) (thn (he pins s σ H _ I h) fun u s1 ⟨x,H1,I1,rx,a,C,dx,fs,ex,hc,ea,l,q⟩=>?_) ht
 subst ex
 obtain rfl:u = Value.ref a:=rx
 obtain ⟨c,hm⟩:=hC C hc
 refine wz I1 ea c hm l ?_
 exact PySem.W.callWith_K0 (first:=[.ref a]) I1.kIn hm.kp (jK (us:=[.ref a]) (vs:=[.ref a]) F hr hb .nil hx I1 (.cons rfl .nil) q)
structure ziN (w:World) (K:Frag) (a:Addr) (f:Str->Option V):Prop where
 obj:∃ es n,K.lookup a = some ⟨.type "dict",none,.dict es n,#[]⟩/\KeysLit w.params es.toList
 vals:∀ x v,f x = some v->∃ u,nsIn K a x = some (some u)/\zN v u
theorem zgF {e:Expr} {d:Str} {p pos:Pos} {a:Addr} {f:Str->Option V} {te:TE} (T:ziN X.w X.K a f) (hm:X.mg d = some (.ref a)) (he:PE X e te) (hg:Gl X d:=by rfl) (hs:zhp e:=by first | exact fun _ _=>rfl | decide | rfl) (hdb:(d == ("__debug__" : Str)) = false:=by decide) :
  PE X (.Subscript (.Name d p) e pos) (fun σ H Q=>te σ H fun y H1=>∃ x v,y = .str x/\f x = some v/\Q v H1):=by
 refine ⟨?_⟩
 intro pins s σ H Q I h
 obtain ⟨es,n,hl,hk⟩:=T.obj
 refine zas PySem.F.slot_dict_getitem.lookup hs (vg I hg hm (thn (he pins s σ H _ I h) fun iv s2 ⟨y,H2,I2,ry,x,v,ey,ef,q2⟩=>?_) hdb)
 subst ey
 obtain ⟨t,rfl⟩:=ry
 obtain ⟨u,eu,ru⟩:=T.vals x v ef
 have hmap:=PySem.W.mapOf_K (prog:=X.prog) (w:=X.w) I2.kIn hl hk
 exact ⟨hmap.typeIs,wpAny_getItem_of (strKind_is X.prog X.w x t) hmap (PySem.W.find_K hl eu) ⟨v,H2,I2.tok _,ru,q2⟩⟩
end
section
variable {X:Cx} {pins:List (Addr × Obj)} {σ : St} {H:Hp} {s:Shared} {sc:Scope} {fr Nc:List Str} {fp:List Addr} {C:Addr}
theorem zbW {caps:List (Option Nat)} {h':Heap} {D:Addr} {m:Str->Option Value} {t':Nat} {o0:HO} (I:Inv X pins σ H s) (B:yS X.env sc fr) (hf:∀ b ∈ fp,wT X pins H b) (ho:∀ b ∈ fp,∃ o,s.heap.get? b = some o)
  (hC:s.heap.objs.size<=C) (hD:s.heap.objs.size<=D) (hDC:D ≠ C) (keep:∀ b o,s.heap.get? b = some o->h'.get? b = some o) (new:yi X.prog X.w (upd H D o0) h' D o0) (hn:h'.Ns C m)
  (hcap:vG X.N Nc caps X.env sc fr = true) (hlen:caps.length = Nc.length) :
  Inv (zO X pins sc fr Nc fp s H C) [] (y0 caps σ) (upd H D o0) { s with heap:=h',toks:=t' }:=by
 have hk:X.env.scope.kind = .function:=I.ok.kind
 have fresh:∀ a,s.heap.objs.size<=a->H a = none:=fun a ha=>I.hok.fresh ha
 refine ⟨zdH I B hf ho hC,rfl,I.bare,Un.laid keep hD (fresh D hD),⟨m,hn,fun i x v e1 e2 e3=>?_⟩,fun x c h=>?_,?_,fun x c h=>?_,fun p hp=>?_,?_,?_⟩
 ·
  have e2':(caps[i]?).map (fun o=>match o with | none=>none | some j=>(σ[j]?).join) = some (some v):=by
   have:(y0 caps σ)[i]? = some (some v):=e2
   unfold y0 at this
   rw [List.getElem?_map] at this
   exact this
  cases hc:caps[i]? with
  | none=>rw [hc] at e2'; cases e2'
  | some o=>
   rw [hc] at e2'
   cases o with
   | none=>simp at e2'
   | some j=>
    have e4:(σ[j]?).join = some v:=by simpa using e2'
    have e5 : σ[j]? = some (some v):=by
     cases q : σ[j]? with
     | none=>rw [q] at e4; cases e4
     | some w'=>rw [q] at e4; simp at e4; rw [e4]
    have e6:(Nc.zip caps)[i]? = some (x,some j):=by
     rw [List.getElem?_zip_eq_some]
     exact ⟨e1,hc⟩
    have e7:=List.all_eq_true.mp hcap _ (List.mem_of_getElem? e6)
    simp only [Bool.and_eq_true,beq_iff_eq,List.contains_iff_mem] at e7
    obtain ⟨⟨⟨a1,a2⟩,a3⟩,a4⟩:=e7
    obtain ⟨m0,hn0,hl0⟩:=I.loc
    obtain ⟨u,r,l⟩:=hl0 j x v a1 e5 (.inr (.inl a2))
    refine ⟨u,r,.inr ⟨.inl (wq hk a3 a2),_,za1 a4,?_⟩⟩
    rcases l with ⟨z,_⟩ | ⟨_,c,ec,hcell⟩
    ·rw [a2] at z; cases z
    ·have:(X.env.cells.lookup x).getD 0 = c:=by rw [ec]; rfl
     rw [this]
     exact hcell.keeps keep
 ·obtain ⟨v,hv⟩:=I.cell x c (B.sub h)
  exact ⟨v,hv.keeps keep⟩
 ·show upd H D o0 C = none
  rw [zi (Ne.symm hDC)]; exact fresh C hC
 ·obtain ⟨v,hv⟩:=I.cell x c (B.sub h)
  have:c ≠ D:=fun z=>by have:=hv.lt; rw [z] at this; exact absurd (Nat.lt_of_lt_of_le this hD) (Nat.lt_irrefl _)
  rw [zi this]; exact I.freeC x c (B.sub h)
 ·have hp':p ∈ X.pn ++ pins:=by simpa using hp
  obtain ⟨e,n,ne,nf,d⟩:=I.pin p hp'
  have hlt:=I.pin_lt hp'
  refine ⟨keep _ _ e,?_,?_,fun z=>?_,d⟩
  ·rw [zi (fun z=>by rw [z] at hlt; exact absurd (Nat.lt_of_lt_of_le hlt hD) (Nat.lt_irrefl _))]; exact n
  ·intro z
   have z':p.1 = C:=z
   rw [z'] at hlt; exact absurd (Nat.lt_of_lt_of_le hlt hC) (Nat.lt_irrefl _)
  ·rcases List.mem_cons.mp (I.stkSub p.1 z) with q | q
   ·exact ne q
   ·exact nf q
 ·exact I.hok.laid keep hD new
 ·show (y0 caps σ).length = Nc.length
  unfold y0
  rw [List.length_map,hlen]
end
section
variable {prog:Program} {w:World} {A:Around} {R:Result->Shared->Prop} {s:Shared}
theorem ql {kx vx target iter:Expr} {ifs:List Expr} {scope:Scope} {pos:Pos} {it:Value} {D:Addr} {env:Env} (I:Nat->Shared->Prop)
  (turn:∀ n s,I n s->wpAny (model prog w) A (pyNext it) (fun r s₁=>match r with
   | none=>R (.ok .next) s₁
   | some v=>wpAny (model prog w) A (letOwnedTupleGo target it v) (fun _ s₀=>wpAny (model prog w) A (assign target env v) (fun _ s₂=>
     wpAny (model prog w) A (forIn ifs true fun c r=>if r = true then do let ok <- isTrue c env (eval c env); pure (ForInStep.yield ok) else pure (ForInStep.yield r)) (fun ok s₃=>
      if ok = true then wpAny (model prog w) A (eval kx env) (fun kv s₄=>wpAny (model prog w) A (eval vx env) (fun vv s₅=>
       wpAny (model prog w) A (dictSet D kv vv) (fun _ s₆=>∃ m,m < n/\I m s₆) (fun _ _=>False) s₅) (fun _ _=>False) s₄) (fun _ _=>False) s₃
      else ∃ m,m < n/\I m s₃) (fun _ _=>False) s₂) (fun _ _=>False) s₀) (fun _ _=>False) s₁) (fun _ _=>False) s)
  (n:Nat) (h:I n s) :
  codeAny (model prog w) A (.compLoop (.DictComp kx vx [⟨target,iter,ifs,0⟩] scope pos) 0 it (.ref D) env) R s:=by
 refine codeAny_loop rfl I (fun n s hI=>?_) n h
 show wpAny _ A ((compTurn (.DictComp kx vx [⟨target,iter,ifs,0⟩] scope pos) 0 it (.ref D) env).onRaise (fun x=>do noteFrame x env; theTreesLotGoes x)) _ _ s
 refine wpAny_noted ?_
 rw [compTurn_dict]
 refine wpAny_bind (wpAny_standAt (wpAny_bind (wpAny_mono (turn n s hI) (fun r s₁ h₁=>?_) fun _ _ z=>z.elim)))
 cases r with
 | none=>exact wpAny_pure h₁
 | some v=>
  refine wpAny_bind (wpAny_mono h₁ (fun _ s₀ h₀=>?_) fun _ _ z=>z.elim)
  refine wpAny_bind (wpAny_mono h₀ (fun _ s₂ h₂=>wpAny_bind (wpAny_mono h₂ (fun ok s₃ h₃=>?_) fun _ _ z=>z.elim)) fun _ _ z=>z.elim)
  cases ok with
  | false=>exact wpAny_pure ⟨rfl,h₃⟩
  | true=>
   exact wpAny_bind (wpAny_bind (wpAny_mono h₃ (fun kv s₄ h₄=>wpAny_bind (wpAny_holding (wpAny_mono h₄ (fun vv s₅ h₅=>wpAny_bind (wpAny_standAt (wpAny_holding (wpAny_mono h₅ (fun _ s₆ h₆=>wpAny_pure ⟨rfl,h₆⟩) fun _ _ z=>z.elim)))) fun _ _ z=>z.elim))) fun _ _ z=>z.elim))
end
def DCr (J:It) (caps:List (Option Nat)) (g:TG) (tt:TT) (tk tv:TE) (σ : St) (H1:Hp) (Q:VK) (D:Addr):Prop:=
 ∃ W:Nat->Nat->List (Key × V)->Hp->Prop,(∃ m,W 0 m [] (upd H1 D (.dK [])))/\∀ i m ys H,W i m ys H->
  (J.stop i H/\Q (.ref D) H)\/
  (J.go i H/\∀ x H',J.yld i H x H'->g x (y0 caps σ) H' fun σ2 H2=>tt σ2 H2 fun ok H3=>
   (ok = true->tk σ2 H3 fun y H4=>tv σ2 H4 fun v H5=>∃ k,y = kV k/\H5 D = some (.dK ys)/\ys.length < sizeLine/\∃ m',m' < m/\W (i + 1) m' (yf ys k v) (upd H5 D (.dK (yf ys k v))))/\
   (ok = false->∃ m',m' < m/\W (i + 1) m' ys H3))
def tDC (wi:TI) (caps:List (Option Nat)) (g:TG) (tt:TT) (tk tv:TE):TE:=fun σ H Q=>wi σ H fun J H1=>∀ D,H1 D = none->DCr J caps g tt tk tv σ H1 Q D
section
variable {X:Cx} {pins:List (Addr × Obj)} {σ : St} {s:Shared} {sc:Scope} {fr Nc:List Str} {caps:List (Option Nat)} {kx vx tg iter:Expr} {ifs:List Expr} {g:TG} {tt:TT} {tk tv:TE} {ow:List Nat} {pos pos2:Pos} {E:Value->Shared->Prop}
theorem zi4 {H:Hp} (I:Inv X pins σ H s):sysModules < s.heap.objs.size:=I.big
theorem zeA {H2:Hp} {it:Addr} {fp:List Addr} {tn:Nat->Heap->Prop} {J:It} {Q:VK} {RR:Value->Addr->Result->Shared->Prop}
  (hc:X.calm = true) (B:yS X.env sc fr) (go:zcZ g ow) (how:(ow.all fun i=>caps[i]? == some none) = true) (hcap:vG X.N Nc caps X.env sc fr = true) (hlen:caps.length = Nc.length)
  (hb:∀ (pins:List (Addr × Obj)) (fp:List Addr) (s:Shared) (H:Hp) (C:Addr),PG (zO X pins sc fr Nc fp s H C) tg g/\PIf (zO X pins sc fr Nc fp s H C) ifs tt/\PE (zO X pins sc fr Nc fp s H C) kx tk/\PE (zO X pins sc fr Nc fp s H C) vx tv)
  (I2:Inv X pins σ H2 s) (T:za6 X.prog X.w X.K tg J fp it tn) (st2:tn 0 s.heap) (f2:∀ b ∈ fp,wT X pins H2 b) (h:∀ D,H2 D = none->DCr J caps g tt tk tv σ H2 Q D)
  (fin:∀ (D C:Addr) (σ':St) (H':Hp) (s':Shared),Inv (zO X pins sc fr Nc fp s H2 C) [] σ' H' s'->Q (.ref D) H'->RR (.ref D) C (.ok .next) s') :
  wpAny (model X.prog X.w) X.A newDict (fun acc s₃=>wpAny (model X.prog X.w) X.A (newFunctionEnv sc X.env.globals (clB X.env fr) [] X.env.qual none .none (some X.env)) (fun cenv s₄=>
   codeAny (model X.prog X.w) X.A (.compStart (.DictComp kx vx [⟨tg,iter,ifs,0⟩] sc pos) 0 (.ref it) acc { cenv with scope:=relabel sc X.env }) (RR acc cenv.locals) s₄) E s₃) E s:=by
 have hcell:∀ y ∈ sc.names,y.2 ≠ .cell:=fun y hy=>by
  have h3:=List.all_eq_true.mp B.names _ hy
  simp only [Bool.and_eq_true,bne_iff_ne,ne_eq] at h3
  exact h3.1.1
 refine wpAny_newObj_type (wpAny_newFunctionEnv hcell (by intro y hy; simp at hy) (fun h₁ hns₁ hsb₁=>?_) B.kind)
 dsimp only at hns₁ hsb₁ |-
 have hnew:(s.heap.push { cls:=.type "dict",dict:=none,data:=.dict #[] }).DictOf (zY X.prog X.w) s.heap.objs.size []:=Heap.DictOf.new s.heap
 generalize hH2:s.heap.push { cls:=.type "dict",dict:=none,data:=.dict #[] } = H3 at hns₁ hsb₁ hnew |-
 have hCs:H3.objs.size = s.heap.objs.size + 1:=by rw [<- hH2,Heap.size_push]
 have hDC:s.heap.objs.size ≠ H3.objs.size:=by rw [hCs]; exact Nat.ne_of_lt (Nat.lt_succ_self _)
 have hC:s.heap.objs.size<=H3.objs.size:=by rw [hCs]; exact Nat.le_succ _
 have old:∀ b o,s.heap.get? b = some o->h₁.get? b = some o:=fun b o e=>
  hsb₁.extBut b o (Nat.ne_of_lt (Nat.lt_of_lt_of_le (Heap.lt_size e) hC)) (Heap.get?_push_of_some _ (hH2 ▸ Heap.get?_push_of_some _ e))
 have hsm:sysModules < s.heap.objs.size:=zi4 I2
 have hD:h₁.DictOf (zY X.prog X.w) s.heap.objs.size []:=hnew.at fun o e=>hsb₁.extBut _ _ hDC (Heap.get?_push_of_some _ e)
 have hDo:∀ H',yi X.prog X.w H' h₁ s.heap.objs.size (.dK []):=fun _=>⟨Nat.zero_le _,beq_eq_false_iff_ne.mpr (Ne.symm (Nat.ne_of_lt hsm)),[],.nil,hD⟩
 have ho:∀ b ∈ fp,∃ o,s.heap.get? b = some o:=fun b hb'=>let ⟨o,e,_⟩:=T.obj 0 _ st2 b hb'; ⟨o,e⟩
 have I4:∀ t',Inv (zO X pins sc fr Nc fp s H2 H3.objs.size) [] (y0 caps σ) (upd H2 s.heap.objs.size (.dK [])) { s with heap:=h₁,toks:=t' }:=fun t'=>
  zbW I2 B f2 ho hC (Nat.le_refl _) hDC old (hDo _) hns₁ hcap hlen
 have ok:=(I4 0).ok
 obtain ⟨hbg,hbt,hbk,hbv⟩:=hb pins fp s H2 H3.objs.size
 obtain ⟨W,⟨m0,w0⟩,turn⟩:=h s.heap.objs.size (I2.hok.fresh (Nat.le_refl _))
 have stat:∀ {H':Hp},(∀ b ∈ fp,H' b = none)->∀ b ∈ fp,wT (zO X pins sc fr Nc fp s H2 H3.objs.size) [] H' b:=fun hn b hb'=>
  ⟨hn b hb',(ok.exf b hb').1,ok.exfs b hb',.inl hb',(ok.exf b hb').2,fun p hp=>(f2 b hb').2.2.2.2.2 p (by simpa using hp)⟩
 have hfp0:∀ b ∈ fp,upd H2 s.heap.objs.size (.dK []) b = none:=fun b hb'=>by
  obtain ⟨o,e⟩:=ho b hb'
  rw [zi (Nat.ne_of_lt (Heap.lt_size e))]
  exact (f2 b hb').1
 have loop:∀ s₃:Shared,s₃ = { s with heap:=h₁,toks:=s.toks + ([]:List (Str × Value)).length }->
   codeAny (model X.prog X.w) X.A (.compLoop (.DictComp kx vx [⟨tg,iter,ifs,0⟩] sc pos) 0 (.ref it) (.ref s.heap.objs.size) (compEnvC sc (clB X.env fr) H3.objs.size X.env)) (RR (.ref s.heap.objs.size) H3.objs.size) s₃:=by
  rintro s₃ rfl
  refine ql (fun n s'=>∃ i σ' H' ys,Inv (zO X pins sc fr Nc fp s H2 H3.objs.size) [] σ' H' s'/\tn i s'.heap/\(∀ b ∈ fp,H' b = none)/\W i n ys H'/\
   (∀ (k:Nat) (v:V),(y0 caps σ)[k]? = some (some v)->σ'[k]? = some (some v))) ?_ m0
   ⟨0,_,_,[],I4 _,T.keep _ _ _ st2 (fun b _ o e=>old b o e),hfp0,w0,fun _ _ e=>e⟩
  rintro n s3 ⟨i,σ3,H4,ys,I3,st3,fr3,w3,wk3⟩
  have I3':Inv (zO X pins sc fr Nc fp s H2 H3.objs.size) [] (y0 caps σ) H4 s3:=I3.weak (by rw [I3.len]; exact (I4 0).len) wk3
  rcases turn i n ys H4 w3 with ⟨stop,qn⟩ | ⟨gg,step⟩
  ·refine thn (T.done (zO X pins sc fr Nc fp s H2 H3.objs.size) rfl rfl rfl hc i [] s3 _ H4 (fun _ _=>False) I3' (stat fr3) st3 stop) fun r s4 ⟨hr,I4'⟩=>?_
   subst hr
   exact fin _ _ _ _ _ I4' qn
  ·refine thn (T.item (zO X pins sc fr Nc fp s H2 H3.objs.size) rfl rfl rfl hc i [] s3 _ H4 (fun _ _=>False) I3' (stat fr3) st3 gg) fun r s4 ⟨u,hr,h4⟩=>?_
   subst hr
   refine thn h4 fun _ s5 ⟨x,H5,I5,r5,y5,st5,fr5⟩=>?_
   have I5':=I5.pinned (stat fr5) (T.obj _ _ st5)
   refine thn (hbg _ s5 _ H5 x u _ I5' r5 (go _ _ _ _ (step x H5 y5))) fun _ s6 ⟨σ6,H6,I6,q6,l6,k6⟩=>?_
   have wk6:∀ (k:Nat) (v:V),(y0 caps σ)[k]? = some (some v)->σ6[k]? = some (some v):=fun k v e=>by
    rw [k6 k fun hk=>?_]
    ·exact e
    ·have h1:=List.all_eq_true.mp how k hk
     have h2:caps[k]? = some none:=by simpa using h1
     unfold y0 at e
     rw [List.getElem?_map,h2] at e
     cases e
   refine thn (hbt _ s6 σ6 H6 _ I6 q6) fun ok s7 ⟨H7,I7,q7⟩=>?_
   have again:∀ {H8:Hp} {s8:Shared} {ys':List (Key × V)},Inv (zO X pins sc fr Nc fp s H2 H3.objs.size) ([] ++ uR fp s5.heap) σ6 H8 s8->(∃ m',m' < n/\W (i + 1) m' ys' H8)->
     ∃ m,m < n/\∃ i σ' H' ys,Inv (zO X pins sc fr Nc fp s H2 H3.objs.size) [] σ' H' s8/\tn i s8.heap/\(∀ b ∈ fp,H' b = none)/\W i m ys H'/\(∀ (k:Nat) (v:V),(y0 caps σ)[k]? = some (some v)->σ'[k]? = some (some v)):=fun {H8 s8 ys'} I8 ⟨m',hm,w8⟩=>by
    refine ⟨m',hm,i + 1,σ6,H8,ys',I8.unpinned,T.keep _ _ _ st5 fun b hb' o e=>(I8.pin (b,o) (List.mem_append_right _ (List.mem_append_right _ (xw hb' e)))).1,fun b hb'=>?_,w8,wk6⟩
    obtain ⟨o,e,d⟩:=T.obj _ _ st5 b hb'
    exact (I8.pin (b,o) (List.mem_append_right _ (List.mem_append_right _ (xw hb' e)))).2.1
   cases ok with
   | false=>
    rw [if_neg Bool.false_ne_true]
    exact again I7 (q7.2 rfl)
   | true=>
    rw [if_pos rfl]
    refine thn (hbk _ s7 σ6 H7 _ I7 (q7.1 rfl)) fun uk s8 ⟨y,H8,I8,r8,q8⟩=>?_
    refine thn (hbv _ s8 σ6 H8 _ I8 q8) fun uv s9 ⟨v,H9,I9,r9,k,ey,hD9,hz,q9⟩=>?_
    subst ey
    obtain ⟨z,hd,vs,rel,dd⟩:=zf6 I9.hok hD9
    have hzs:vs.length<=sizeLine:=by rw [<- rel.length]; exact z
    have hl:(yf ys k v).length<=sizeLine:=by have:=xk ys k v; omega
    refine wpAny_dictSet_pairs (hsz:=hzs) (jc r8) dd fun h' dd' hs=>?_
    have he:∃ q,h'.get? s.heap.objs.size = some q:=let ⟨q,_,_,hq,_⟩:=dd'; ⟨q,hq⟩
    exact again (jv I9 (by rw [hD9]; exact True.intro) hs he (zcU hl hd (rel.put k r9) dd')) q9
 exact codeAny_compStart_dict (loop _ rfl) (T.self _ 0 _ _ _ (T.keep _ _ _ st2 (fun b _ o e=>old b o e)) (loop _ rfl))
theorem zjf {wi:TI} (fr Nc:List Str) (caps:List (Option Nat)) (hc:X.calm = true) (B:yS X.env sc fr) (hi:PI X tg iter wi) (go:zcZ g ow) (how:(ow.all fun i=>caps[i]? == some none) = true)
  (hcap:vG X.N Nc caps X.env sc fr = true) (hlen:caps.length = Nc.length)
  (hb:∀ (pins:List (Addr × Obj)) (fp:List Addr) (s:Shared) (H:Hp) (C:Addr),PG (zO X pins sc fr Nc fp s H C) tg g/\PIf (zO X pins sc fr Nc fp s H C) ifs tt/\PE (zO X pins sc fr Nc fp s H C) kx tk/\PE (zO X pins sc fr Nc fp s H C) vx tv)
  (hs:∀ x,foldedSetIterable iter X.env x = pure x:=by intro _; rfl):PE X (.DictComp kx vx [⟨tg,iter,ifs,0⟩] sc pos) (tDC wi caps g tt tk tv):=by
 refine ⟨?_⟩
 intro pins s σ H Q I h
 rw [arm_eval_DictComp]
 refine wpAny_comprehension_free (use:=none) rfl hs B.clos B.kind B.loc (thn (hi pins s σ H _ I h) fun v s1 h1=>thn h1 fun itv s2 h2=>?_)
 obtain ⟨it,fp,tn,J,H2,e,I2,T,st2,f2,q⟩:=h2
 subst e
 refine zeA (RR:=fun acc C=>compPost (model X.prog X.w) X.A X.xe none (EP X pins σ Q) acc C) hc B go how hcap hlen hb I2 T st2 f2 q ?_
 intro D C σ' H' s' J' qq
 obtain ⟨m,hn,_⟩:=J'.loc
 exact ⟨m,hn,fun h' hs'=>⟨.ref D,H',zai I2 J' (u5 I2 f2 J') hs',rfl,qq⟩⟩
end
def eqT (xs ys:List V):Bool:=((List.range (min xs.length ys.length)).all fun j=>eqV (xs[j]?.getD .non) (ys[j]?.getD .non)) && xs.length == ys.length
end L2
namespace K22
open PySem L2 PyProof.Rows
def top (i:Nat):Stmt:=PySem.Challenge.pw_callbinds_k22_papers_walked.main.body.getD i (.Pass ⟨0,0,0,0⟩)
abbrev uE:Stmt:=yg (top 47) 0
abbrev qG:Stmt:=yg (top 47) 1
abbrev wg:Stmt:=yg (top 47) 2
abbrev w6:Stmt:=yg (top 47) 3
abbrev zaK:Stmt:=yg (top 47) 4
abbrev zdf:Stmt:=yg (top 47) 5
abbrev qy:Stmt:=yg (top 48) 0
abbrev qM:Stmt:=yg (top 49) 0
abbrev qx:Stmt:=yg (top 50) 0
abbrev zdV:Stmt:=yg (top 51) 0
abbrev zdZ:Stmt:=yg (top 52) 0
abbrev uL:Stmt:=yg (top 37) 0
abbrev qF:Stmt:=yg (top 37) 1
abbrev uK:Stmt:=yg (top 37) 2
abbrev uM:Stmt:=yg (top 37) 3
abbrev wf:Stmt:=yg (top 37) 4
abbrev uJ:Stmt:=yg (top 37) 5
abbrev qK:Stmt:=yg (top 37) 6
abbrev qJ:Stmt:=yg (top 37) 7
abbrev sIs:Stmt:=top 31
abbrev zdW:Stmt:=top 53
abbrev uB:Stmt:=top 38
abbrev wW:Stmt:=top 39
abbrev uC:Stmt:=top 40
abbrev wV:Stmt:=top 41
abbrev qB:Stmt:=top 42
abbrev qC:Stmt:=top 1
abbrev wb:Stmt:=top 16
abbrev qI:Stmt:=top 17
abbrev uz:Stmt:=top 19
abbrev wY:Stmt:=top 20
abbrev zdY:Stmt:=top 21
abbrev uF:Stmt:=top 22
abbrev zdU:Stmt:=top 23
abbrev qD:Stmt:=top 24
abbrev qA:Stmt:=top 26
abbrev jo:Stmt:=top 27
abbrev uD:Stmt:=top 18
abbrev uN:Stmt:=top 25
abbrev qL:Stmt:=top 55
abbrev uI:Stmt:=top 56
abbrev zdX:Stmt:=top 57
abbrev qz:Stmt:=top 58
abbrev qH:Stmt:=top 59
abbrev qE:Stmt:=top 60
abbrev uG:Stmt:=top 61
abbrev uy:Stmt:=top 62
abbrev uH:Stmt:=top 63
abbrev ux:Stmt:=top 64
abbrev wc:Stmt:=top 65
abbrev wZ:Stmt:=top 66
abbrev wa:Stmt:=top 67
abbrev wX:Stmt:=top 68
abbrev qw:Stmt:=top 69
abbrev uA:Stmt:=top 70
abbrev zaL:Stmt:=top 71
def low (c:Nat):Bool:=decide (97<=c) && decide (c<=122)
def xq (z:Str):Bool:=decide (1<=z.length) && decide (z.length<=8) && z.cps.toList.all low
def nmV:V->Bool
 | .str z=>xq z
 | _=>false
def OkS (z:Str):Prop:=z.length<=1000/\∀ c ∈ z.cps.toList,c < 128
def OkV (K:Frag) (H:Hp) (x:V):Prop:=(∃ z,x = .str z/\OkS z)\/(nmV x = false/\∃ t,vn K H x t/\kitOne K t (.type "str") = some false)
theorem qT {z:Str}:xq z = true ↔ 1<=z.length/\z.length<=8/\∀ c ∈ z.cps.toList,97<=c/\c<=122:=by
 unfold xq low
 simp only [Bool.and_eq_true,decide_eq_true_eq,List.all_eq_true]
 constructor
 ·rintro ⟨⟨a,b⟩,c⟩; exact ⟨a,b,c⟩
 ·rintro ⟨a,b,c⟩; exact ⟨⟨a,b⟩,c⟩
theorem jT {z:Str} (h:z.length = 0\/9<=z.length):xq z = false:=by
 cases e:xq z with
 | false=>rfl
 | true=>
  have:=qT.mp e
  omega
theorem jS {z:Str} (h:xq z = true):OkS z:=by
 obtain ⟨_,h2,h3⟩:=qT.mp h
 exact ⟨by omega,fun c hc=>by have:=h3 c hc; omega⟩
def letters:Str:="abcdefghijklmnopqrstuvwxyz"
theorem zcD:∀ c:Nat,c < 128->(!(Builtin.Str.occurrences letters ⟨#[c]⟩ 0 letters.length 1).isEmpty) = low c:=by decide +kernel
theorem zb {H:Hp} {p:Addr} (h:H p = none) (o:HO):zm H (upd H p o):=fun b u q=>by rw [zi (zf q h)]; exact q
theorem zdK {K:Frag} {H H':Hp} {x:V} {t:Value} (s:zm H H') (h:vn K H x t):vn K H' x t:=by
 cases h with
 | non=>exact .non
 | bl b=>exact .bl b
 | int i=>exact .int i
 | str z=>exact .str z
 | flt z=>exact .flt z
 | lst e=>exact .lst (s _ _ e)
 | frz e=>exact .frz (s _ _ e)
 | tup e=>exact .tup (s _ _ e)
 | dK e=>exact .dK (s _ _ e)
 | dT e=>exact .dT (s _ _ e)
 | ins e a b c d f=>exact .ins (s _ _ e) a b c d f
theorem OkV.same {K:Frag} {H H':Hp} {x:V} (s:zm H H') (h:OkV K H x):OkV K H' x:=by
 rcases h with h | ⟨h,t,ty,e⟩
 ·exact .inl h
 ·exact .inr ⟨h,t,zdK s ty,e⟩
theorem nd1:([Str.ofString "sign"]:List Str).Nodup:=by decide +kernel
def zgn (K:Frag):Sp:=fun vs H Q _=>∃ x,vs = [x]/\OkV K H x/\∀ H',zm H H'->Q (.bl (nmV x)) H'
structure zjI (K:Frag) (mg:Str->Option Value):Prop where
 isi:mg "isinstance" = none
 str:mg "str" = none
 bool:mg "bool" = none
 len:mg "len" = none
 all:mg "all" = none
 range:mg "range" = none
 letters:∃ t,mg "LETTERS" = some (.str letters t)
 longest:∃ t,mg "LONGEST" = some (.int 8 t)
 kNon:kitOne K (.type "NoneType") (.type "str") = some false
 kInt:kitOne K (.type "int") (.type "str") = some false
 kBl:kitOne K (.type "bool") (.type "str") = some false
 kLst:kitOne K (.type "list") (.type "str") = some false
 kTup:kitOne K (.type "tuple") (.type "str") = some false
 kDct:kitOne K (.type "dict") (.type "str") = some false
 kStr:kitOne K (.type "str") (.type "str") = some true
 bBl:kitOne K (.type "bool") (.type "bool") = some true
section
variable {P:Program} {w:World} {K:Frag} {mg:Str->Option Value} {base:Heap} {f:Addr} {fd:FuncData}
theorem zjV:zu ["thing"] ["thing"] (ze sIs):=⟨rfl,rfl,rfl,by decide +kernel,rfl,by decide +kernel,by decide +kernel⟩
theorem zjj (F:Fun K "is_name" "is_name" sIs f fd) (T:zjI K mg):zE P w K mg base CX0 1 f fd ["thing"] (zgn K):=by
 refine F.ok zjV (fun vs H Q E h=>?_) (fun cdv A outer s H vs Q E hr h=>?_)
 ·obtain ⟨x,rfl,_⟩:=h
  rfl
 obtain ⟨x,rfl,hx,q⟩:=h
 obtain ⟨tL,hL⟩:=T.letters
 obtain ⟨tN,hN⟩:=T.longest
 refine ⟨_,zd (zI (PW.pt (xW (xg (yr (cB xF T.isi boot_isinstance (ac (pv 0) (ac (ve (v:=.ty "str") rfl T.str PyProof.Rows.boot_str rfl) zc)))))
   (xH (xg (ze7 zfm zfm zg (cB za2 T.len PySem.boot_len (ac (pv 0) zc)) (wv (v:=.int 8) rfl hN ⟨_,rfl⟩))))))
   (zh (zA wD)) zC)
  (zh (zA (cB (zeH rfl) T.all boot_all (ac (xp [] ["sign"] [none] rfl ⟨rfl,rfl,rfl,rfl⟩ (zib (pv 0)) (zW 0) rfl rfl rfl
   (fun pins fp s H C=>⟨zn (i:=0) nd1 rfl (Or.inl rfl) (.inr rfl),xz,yb zd9 (pv 0) (wv (v:=.str letters) rfl hL ⟨_,rfl⟩) (by with_unfolding_all rfl)⟩)) zc)))),?_⟩
 rcases hx with ⟨z,rfl,hz1,hz2⟩ | ⟨hn,t,ty,e⟩
 ·refine ⟨_,rfl,_,_,_,_,rfl,.str z,T.kStr,_,rfl,?_⟩
  refine yk ?_
  refine ⟨_,rfl,z,rfl,Nat.le_trans hz1 (by decide),_,_,rfl,rfl,_,rfl,?_⟩
  have no:xq z = false->Q (.bl false) H:=fun e=>by
   have:=q H (zm.refl H)
   have e':nmV (.str z) = false:=e
   rw [e'] at this
   exact this
  refine qk (fun c=>?_) (fun c=>?_)
  ·have c':(1:Int)<=(z.length:Int):=of_decide_eq_true c
   refine ⟨_,_,rfl,rfl,_,rfl,?_⟩
   by_cases h8:(z.length:Int)<=8
   ·rw [decide_eq_true h8]
    refine yk ?_
    refine ⟨_,rfl,z,rfl,fun D hD=>?_⟩
    refine ⟨fun i m ys H'=>i<=z.cps.size/\m = z.cps.size - i/\ys = (z.cps.toList.take i).map (fun c=>V.bl (low c))/\H' = upd H D (.lst ys),⟨_,Nat.zero_le _,rfl,rfl,rfl⟩,?_⟩
    rintro i m ys H' ⟨hi,rfl,rfl,rfl⟩
    by_cases he:i = z.cps.size
    ·subst he
     refine .inl ⟨Nat.le_refl _,?_⟩
     refine ⟨D,z.cps.toList.map low,rfl,SqL.of ?_,?_⟩
     ·rw [za,List.take_of_length_le (by simp),List.map_map]
      rfl
     ·have e:(z.cps.toList.map low).all id = nmV (.str z):=by
       show _ = xq z
       unfold xq
       rw [decide_eq_true (show 1<=z.length by omega),decide_eq_true (show z.length<=8 by omega),List.all_map]
       rfl
      rw [e]
      exact q _ (zb hD _)
    ·refine .inr ⟨by show i < z.cps.size; omega,?_⟩
     rintro x H' ⟨rfl,c,hc,rfl⟩
     refine ⟨fun _=>?_,fun e=>Bool.noConfusion e⟩
     refine ⟨_,rfl,_,_,rfl,rfl,za,?_,z.cps.size - (i + 1),by omega,by omega,rfl,?_,?_⟩
     ·rw [List.length_map,List.length_take]
      have:z.cps.size<=1000:=hz1
      exact zF (by omega)
     ·have hc':z.cps.toList[i]? = some c:=by simpa using hc
      have hlow:=zcD c (hz2 c (List.mem_of_getElem? hc'))
      rw [hlow,List.take_add_one,hc',List.map_append]
      rfl
     ·rw [zaq]
   ·rw [decide_eq_false h8]
    refine xI ?_
    exact no (jT (.inr (by omega)))
  ·have c':¬ (1:Int)<=(z.length:Int):=of_decide_eq_false (Bool.eq_false_iff.mpr c)
   refine ⟨_,rfl,?_⟩
   exact xI (no (jT (.inl (by omega))))
 ·refine ⟨_,rfl,_,_,_,_,rfl,ty,e,_,rfl,?_⟩
  refine xI ?_
  refine xI ?_
  have:=q H (zm.refl H)
  rw [hn] at this
  exact this
end
abbrev EB:List Value:=[.type "ValueError",.type "Exception",.type "BaseException",.type "object"]
theorem dT {A B:Prop} {c:Prop} [Decidable c] (h:c) (a:A):if decide c = true then A else B:=by rw [decide_eq_true h]; exact xI a
theorem dF {A B:Prop} {c:Prop} [Decidable c] (h:¬ c) (b:B):if decide c = true then A else B:=by rw [decide_eq_false h]; exact yk b
def kw:Nat->Str
 | 0=>"seat" | 1=>"both" | 2=>"tail" | 3=>"tag" | _=>"bag"
def jL (k:Nat) (x:V) (b:Bool):List V:=match k with
 | 0=>[.str "seat",x,.bl b] | 1=>[.str "both",x,.bl b] | 2=>[.str "tail",x] | 3=>[.str "tag",x,.bl b] | _=>[.str "bag",x]
def fr (k:Nat) (b:Bool):Bool:=match k with
 | 0=>b | 1=>b | 2=>true | 3=>b | _=>true
theorem lt5 {k:Nat} (h:k < 5):k = 0\/k = 1\/k = 2\/k = 3\/k = 4:=by omega
def pf (wd:Str) (x:V) (b:Bool):List (Str × V):=zT "may_lack" (.bl b) (zT "name" x (zT "word" (.str wd) []))
theorem vU {wd:Str} {x:V} {b:Bool}:(pf wd x b).lookup ("word" : Str) = some (.str wd):=by
 unfold pf
 rw [zj,if_neg (by decide +kernel),zj,if_neg (by decide +kernel),zj,if_pos rfl]
theorem jp {wd:Str} {x:V} {b:Bool}:(pf wd x b).lookup ("name" : Str) = some x:=by
 unfold pf
 rw [zj,if_neg (by decide +kernel),zj,if_pos rfl]
theorem zgD {wd:Str} {x:V} {b:Bool}:(pf wd x b).lookup ("may_lack" : Str) = some (.bl b):=by
 unfold pf
 rw [zj,if_pos rfl]
theorem qQ {wd:Str} {x:V} {b:Bool} {m:Str} (h1:¬ m = "may_lack") (h2:¬ m = "name") (h3:¬ m = "word"):(pf wd x b).lookup m = none:=by
 unfold pf
 rw [zj,if_neg h1,zj,if_neg h2,zj,if_neg h3]
 rfl
structure MA where
 (fF fP fB fT fO:Addr)
structure PC (K:Frag) (m:MA) (C:Addr):Prop where
 cl:Cls K C
 nW:xh K C "word"
 nN:xh K C "name"
 nM:xh K C "may_lack"
 mF:y6 K C "free" m.fF
 mP:y6 K C "by_place" m.fP
 mB:y6 K C "by_name" m.fB
 mT:y6 K C "takes_one" m.fT
 mO:y6 K C "told" m.fO
def spP (K:Frag) (m:MA) (N:Addr):Sp:=fun vs H Q E=>∃ (p dx C:Addr) (wd:Str) (x:V) (b:Bool),vs = [.ref p,.str wd,x,.bl b]/\H p = some (.ins C dx [])/\PC K m C/\OkV K H x/\(nmV x = true->∀ H1,zm H H1->Q .non (upd H1 p (.ins C dx (pf wd x b))))/\(nmV x = false->∀ H1,zm H H1->E (.ref N) none H1)
def spS (K:Frag) (C N:Addr) (wd:Str):Sp:=fun vs H Q E=>∃ (p dx:Addr) (x:V) (b:Bool),vs = [.ref p,x,.bl b]/\H p = some (.ins C dx [])/\OkV K H x/\(nmV x = true->∀ H1,zm H H1->Q .non (upd H1 p (.ins C dx (pf wd x b))))/\(nmV x = false->∀ H1,zm H H1->E (.ref N) none H1)
def spT (K:Frag) (C N:Addr) (wd:Str):Sp:=fun vs H Q E=>∃ (p dx:Addr) (x:V),vs = [.ref p,x]/\H p = some (.ins C dx [])/\OkV K H x/\(nmV x = true->∀ H1,zm H H1->Q .non (upd H1 p (.ins C dx (pf wd x true))))/\(nmV x = false->∀ H1,zm H H1->E (.ref N) none H1)
def bpL:List V:=[.str "seat",.str "both"]
def bnL:List V:=[.str "both",.str "tag"]
def otL:List V:=[.str "seat",.str "both",.str "tag"]
def zch (K:Frag) (m:MA):Sp:=fun vs H Q _=>∃ (p dx C:Addr) (wd:Str) (x:V) (b:Bool),vs = [.ref p]/\PC K m C/\H p = some (.ins C dx (pf wd x b))/\Q (.bl b) H
def zaC (K:Frag) (m:MA) (l:List V):Sp:=fun vs H Q _=>∃ (p dx C:Addr) (wd:Str) (x:V) (b:Bool),vs = [.ref p]/\PC K m C/\H p = some (.ins C dx (pf wd x b))/\Q (.bl (inV (.str wd) l)) H
structure Wds (K:Frag) (mg:Str->Option Value) (tP tB tO:Addr):Prop where
 mP:mg "BY_PLACE" = some (.ref tP)
 mB:mg "BY_NAME" = some (.ref tB)
 mO:mg "OF_ONE_THING" = some (.ref tO)
 hP:∀ H,SqT K H tP bpL
 hB:∀ H,SqT K H tB bnL
 hO:∀ H,SqT K H tO otL
section
variable {P:Program} {w:World} {K:Frag} {mg:Str->Option Value} {base:Heap} {f C N tP tB tO:Addr} {fd:FuncData} {m:MA}
theorem zgr:zu ["self","word","name","may_lack"] ["self","word","name","may_lack"] (ze uE):=⟨rfl,rfl,rfl,by decide +kernel,rfl,by decide +kernel,by decide +kernel⟩
theorem zfu {g:Addr} {gd:FuncData} (F:Fun K "__init__" "Parameter.__init__" uE f fd) (own:OwnCls "NoName" N EB "ValueError.__new__" mg base) (cI:zp P w K mg base 1 "is_name" g gd ["thing"] (zgn K)) :
  zE P w K mg base (CXe P w) 2 f fd ["self","word","name","may_lack"] (spP K m N):=by
 refine F.okE zgr (fun vs H Q E h=>?_) (fun cdv A outer s H vs Q E hr h=>?_)
 ·obtain ⟨p,dx,C,wd,x,b,rfl,_⟩:=h
  rfl
 obtain ⟨p,dx,C,wd,x,b,rfl,hp,c,hx,q1,q2⟩:=h
 refine ⟨_,zd (zI (xg (yr (cF cI hr (ac (pv 2) zc)))) (zh (ze9 zd0 own PySem.F.excBase_ValueError (by decide) PySem.F.excBase_ValueError rfl (ac zl zc))) zC)
  (zd (wu (pv 0) (pv 1) rfl) (zd (wu (pv 0) (pv 2) rfl) (zh (wu (pv 0) (pv 3) rfl)))),?_⟩
 refine ⟨_,rfl,x,rfl,hx,fun H1 s1=>⟨_,rfl,?_⟩⟩
 cases e:nmV x with
 | false=>
  refine xI ?_
  exact ⟨by show 1<=sizeLine; decide,q2 e _ s1⟩
 | true=>
  refine yk ?_
  refine ⟨_,rfl,_,rfl,p,C,dx,[],rfl,s1 _ _ hp,c.cl,c.nW,(by show 0 < 1000; decide),?_⟩
  refine ⟨_,rfl,_,rfl,p,C,dx,_,rfl,za,c.cl,c.nN,(by show 1 < 1000; decide),?_⟩
  refine ⟨_,rfl,_,rfl,p,C,dx,_,rfl,za,c.cl,c.nM,(by show 2 < 1000; decide),?_⟩
  rw [zaq,zaq]
  exact q1 e _ s1
theorem zhY:zu ["self","name","free"] ["self","name","free"] (ze qy):=⟨rfl,rfl,rfl,by decide +kernel,rfl,by decide +kernel,by decide +kernel⟩
theorem zdq {g D:Addr} {gd:FuncData} {ds:List Value} (F:qe K "__init__" "Seat.__init__" qy f fd ds) (c:PC K m C) (B:qi K D "__init__" g) (mD:mg "Parameter" = some (.ref D)) (G:zE P w K mg base (CXe P w) 2 g gd ["self","word","name","may_lack"] (spP K m N)) (bg:zS K gd ["self","word","name","may_lack"] []) :
  zE P w K mg base (CXe P w) 3 f fd ["self","name","free"] (spS K C N "seat"):=by
 refine F.okE zhY (fun vs H Q E h=>?_) (fun cdv A outer s H vs Q E hr h=>?_)
 ·obtain ⟨p,dx,x,b,rfl,_⟩:=h
  rfl
 obtain ⟨p,dx,x,b,rfl,hp,hx,q1,q2⟩:=h
 refine ⟨_,zh (zJ (zbq B mD G hr bg (vt fun _ _ _ z=>z) (ac (pv 0) (ac zl (ac (pv 1) (ac (pv 2) zc)))))),?_⟩
 exact ⟨_,rfl,_,rfl,_,rfl,p,dx,C,_,x,b,rfl,hp,c,hx,q1,q2⟩
theorem zh6:zu ["self","name","free"] ["self","name","free"] (ze qM):=⟨rfl,rfl,rfl,by decide +kernel,rfl,by decide +kernel,by decide +kernel⟩
theorem zdr {g D:Addr} {gd:FuncData} {ds:List Value} (F:qe K "__init__" "Both.__init__" qM f fd ds) (c:PC K m C) (B:qi K D "__init__" g) (mD:mg "Parameter" = some (.ref D)) (G:zE P w K mg base (CXe P w) 2 g gd ["self","word","name","may_lack"] (spP K m N)) (bg:zS K gd ["self","word","name","may_lack"] []) :
  zE P w K mg base (CXe P w) 3 f fd ["self","name","free"] (spS K C N "both"):=by
 refine F.okE zh6 (fun vs H Q E h=>?_) (fun cdv A outer s H vs Q E hr h=>?_)
 ·obtain ⟨p,dx,x,b,rfl,_⟩:=h
  rfl
 obtain ⟨p,dx,x,b,rfl,hp,hx,q1,q2⟩:=h
 refine ⟨_,zh (zJ (zbq B mD G hr bg (vt fun _ _ _ z=>z) (ac (pv 0) (ac zl (ac (pv 1) (ac (pv 2) zc)))))),?_⟩
 exact ⟨_,rfl,_,rfl,_,rfl,p,dx,C,_,x,b,rfl,hp,c,hx,q1,q2⟩
theorem zi6:zu ["self","name","free"] ["self","name","free"] (ze zdV):=⟨rfl,rfl,rfl,by decide +kernel,rfl,by decide +kernel,by decide +kernel⟩
theorem zfr {g D:Addr} {gd:FuncData} {ds:List Value} (F:qe K "__init__" "Tag.__init__" zdV f fd ds) (c:PC K m C) (B:qi K D "__init__" g) (mD:mg "Parameter" = some (.ref D)) (G:zE P w K mg base (CXe P w) 2 g gd ["self","word","name","may_lack"] (spP K m N)) (bg:zS K gd ["self","word","name","may_lack"] []) :
  zE P w K mg base (CXe P w) 3 f fd ["self","name","free"] (spS K C N "tag"):=by
 refine F.okE zi6 (fun vs H Q E h=>?_) (fun cdv A outer s H vs Q E hr h=>?_)
 ·obtain ⟨p,dx,x,b,rfl,_⟩:=h
  rfl
 obtain ⟨p,dx,x,b,rfl,hp,hx,q1,q2⟩:=h
 refine ⟨_,zh (zJ (zbq B mD G hr bg (vt fun _ _ _ z=>z) (ac (pv 0) (ac zl (ac (pv 1) (ac (pv 2) zc)))))),?_⟩
 exact ⟨_,rfl,_,rfl,_,rfl,p,dx,C,_,x,b,rfl,hp,c,hx,q1,q2⟩
theorem zhX:zu ["self","name"] ["self","name"] (ze qx):=⟨rfl,rfl,rfl,by decide +kernel,rfl,by decide +kernel,by decide +kernel⟩
theorem zgN {g D:Addr} {gd:FuncData} (F:Fun K "__init__" "Tail.__init__" qx f fd) (c:PC K m C) (B:qi K D "__init__" g) (mD:mg "Parameter" = some (.ref D)) (G:zE P w K mg base (CXe P w) 2 g gd ["self","word","name","may_lack"] (spP K m N)) (bg:zS K gd ["self","word","name","may_lack"] []) :
  zE P w K mg base (CXe P w) 3 f fd ["self","name"] (spT K C N "tail"):=by
 refine F.okE zhX (fun vs H Q E h=>?_) (fun cdv A outer s H vs Q E hr h=>?_)
 ·obtain ⟨p,dx,x,rfl,_⟩:=h
  rfl
 obtain ⟨p,dx,x,rfl,hp,hx,q1,q2⟩:=h
 refine ⟨_,zh (zJ (zbq B mD G hr bg (vt fun _ _ _ z=>z) (ac (pv 0) (ac zl (ac (pv 1) (ac wD zc)))))),?_⟩
 exact ⟨_,rfl,_,rfl,p,dx,C,_,x,true,rfl,hp,c,hx,q1,q2⟩
theorem zi7:zu ["self","name"] ["self","name"] (ze zdZ):=⟨rfl,rfl,rfl,by decide +kernel,rfl,by decide +kernel,by decide +kernel⟩
theorem ziq {g D:Addr} {gd:FuncData} (F:Fun K "__init__" "Bag.__init__" zdZ f fd) (c:PC K m C) (B:qi K D "__init__" g) (mD:mg "Parameter" = some (.ref D)) (G:zE P w K mg base (CXe P w) 2 g gd ["self","word","name","may_lack"] (spP K m N)) (bg:zS K gd ["self","word","name","may_lack"] []) :
  zE P w K mg base (CXe P w) 3 f fd ["self","name"] (spT K C N "bag"):=by
 refine F.okE zi7 (fun vs H Q E h=>?_) (fun cdv A outer s H vs Q E hr h=>?_)
 ·obtain ⟨p,dx,x,rfl,_⟩:=h
  rfl
 obtain ⟨p,dx,x,rfl,hp,hx,q1,q2⟩:=h
 refine ⟨_,zh (zJ (zbq B mD G hr bg (vt fun _ _ _ z=>z) (ac (pv 0) (ac zl (ac (pv 1) (ac wD zc)))))),?_⟩
 exact ⟨_,rfl,_,rfl,p,dx,C,_,x,true,rfl,hp,c,hx,q1,q2⟩
theorem zh1:zu ["self"] ["self"] (ze qG):=⟨rfl,rfl,rfl,by decide +kernel,rfl,by decide +kernel,by decide +kernel⟩
theorem zgV (F:Fun K "free" "Parameter.free" qG f fd):zE P w K mg base CX0 1 f fd ["self"] (zch K m):=by
 refine F.ok zh1 (fun vs H Q E h=>?_) (fun cdv A outer s H vs Q E hr h=>?_)
 ·obtain ⟨p,dx,C,wd,x,b,rfl,_⟩:=h
  rfl
 obtain ⟨p,dx,C,wd,x,b,rfl,c,hp,q⟩:=h
 refine ⟨_,zh (zA (yO (pv 0) rfl)),?_⟩
 exact ⟨_,rfl,p,C,dx,_,_,rfl,hp,c.cl,c.nM,zgD,q⟩
theorem zdT:zu ["self"] ["self"] (ze wg):=⟨rfl,rfl,rfl,by decide +kernel,rfl,by decide +kernel,by decide +kernel⟩
theorem zbA (F:Fun K "by_place" "Parameter.by_place" wg f fd) (Wd:Wds K mg tP tB tO):zE P w K mg base CX0 1 f fd ["self"] (zaC K m bpL):=by
 refine F.ok zdT (fun vs H Q E h=>?_) (fun cdv A outer s H vs Q E hr h=>?_)
 ·obtain ⟨p,dx,C,wd,x,b,rfl,_⟩:=h
  rfl
 obtain ⟨p,dx,C,wd,x,b,rfl,c,hp,q⟩:=h
 refine ⟨_,zh (zA (yb zU (yO (pv 0) rfl) (wv (v:=.ref tP) rfl Wd.mP rfl) (by with_unfolding_all rfl))),?_⟩
 exact ⟨_,rfl,p,C,dx,_,_,rfl,hp,c.cl,c.nW,vU,tP,bpL,rfl,.inr (Wd.hP H),rfl,(by decide),q⟩
theorem ze1:zu ["self"] ["self"] (ze w6):=⟨rfl,rfl,rfl,by decide +kernel,rfl,by decide +kernel,by decide +kernel⟩
theorem zcw (F:Fun K "by_name" "Parameter.by_name" w6 f fd) (Wd:Wds K mg tP tB tO):zE P w K mg base CX0 1 f fd ["self"] (zaC K m bnL):=by
 refine F.ok ze1 (fun vs H Q E h=>?_) (fun cdv A outer s H vs Q E hr h=>?_)
 ·obtain ⟨p,dx,C,wd,x,b,rfl,_⟩:=h
  rfl
 obtain ⟨p,dx,C,wd,x,b,rfl,c,hp,q⟩:=h
 refine ⟨_,zh (zA (yb zU (yO (pv 0) rfl) (wv (v:=.ref tB) rfl Wd.mB rfl) (by with_unfolding_all rfl))),?_⟩
 exact ⟨_,rfl,p,C,dx,_,_,rfl,hp,c.cl,c.nW,vU,tB,bnL,rfl,.inr (Wd.hB H),rfl,(by decide),q⟩
end
structure C5 where
 (c0 c1 c2 c3 c4:Addr)
def C5.at (c:C5):Nat->Addr
 | 0=>c.c0 | 1=>c.c1 | 2=>c.c2 | 3=>c.c3 | _=>c.c4
def g21 {α : Type}:List α->List α->List α
 | [u,v],[w]=>[u,v,w]
 | _,_=>[]
theorem jt {vs:List V} {us:List Value} {zs:List V} {ws:List Value} (r:zP vs us) (q:zP zs ws):zP (g21 vs zs) (g21 us ws):=by
 cases r with
 | nil=>exact .nil
 | cons a r=>cases r with
  | nil=>exact .nil
  | cons a2 r=>cases r with
   | cons _ _=>exact .nil
   | nil=>cases q with
    | nil=>exact .nil
    | cons b q=>cases q with
     | nil=>exact .cons a (.cons a2 (.cons b .nil))
     | cons _ _=>exact .nil
structure zhE (P:Program) (w:World) (K:Frag) (mg:Str->Option Value) (base:Heap) (c:C5) (N:Addr) (i0 i1 i2 i3 i4:Addr) (d0 d1 d2 d3 d4:FuncData):Prop where
 k0:qh P w K mg base (CXe P w) 3 "Seat" c.c0 i0 d0 ["self","name","free"] [] (spS K c.c0 N "seat")
 e0:qh P w K mg base (CXe P w) 3 "Seat" c.c0 i0 d0 ["self","name","free"] [.bool false] (spS K c.c0 N "seat")
 b0:vI K d0 ["self","name","free"] ["free"] g21 g21
 k1:qh P w K mg base (CXe P w) 3 "Both" c.c1 i1 d1 ["self","name","free"] [] (spS K c.c1 N "both")
 e1:qh P w K mg base (CXe P w) 3 "Both" c.c1 i1 d1 ["self","name","free"] [.bool false] (spS K c.c1 N "both")
 b1:vI K d1 ["self","name","free"] ["free"] g21 g21
 k2:qh P w K mg base (CXe P w) 3 "Tail" c.c2 i2 d2 ["self","name"] [] (spT K c.c2 N "tail")
 k3:qh P w K mg base (CXe P w) 3 "Tag" c.c3 i3 d3 ["self","name","free"] [] (spS K c.c3 N "tag")
 e3:qh P w K mg base (CXe P w) 3 "Tag" c.c3 i3 d3 ["self","name","free"] [.bool false] (spS K c.c3 N "tag")
 b3:vI K d3 ["self","name","free"] ["free"] g21 g21
 k4:qh P w K mg base (CXe P w) 3 "Bag" c.c4 i4 d4 ["self","name"] [] (spT K c.c4 N "bag")
def Res (c:C5) (N:Addr) (H:Hp) (k:Nat) (x:V) (b:Bool) (Q:VK) (E:XK):Prop:=
 (nmV x = true->∀ (o dx:Addr) (H':Hp),zm H H'->H' o = some (.ins (c.at k) dx (pf (kw k) x (fr k b)))->Q (.ref o) H')/\(nmV x = false->∀ H',zm H H'->E (.ref N) none H')
def zeV (K:Frag) (c:C5) (N:Addr):Sp:=fun vs H Q E=>∃ (p:Addr) (k:Nat) (x:V) (b:Bool),vs = [.ref p]/\k < 5/\H p = some (.tup (jL k x b))/\OkV K H x/\Res c N H k x b Q E
theorem zkc:¬ (V.str "both" = V.str "seat"):=by decide +kernel
theorem zkb:¬ (V.str "tail" = V.str "seat"):=by decide +kernel
theorem zka:¬ (V.str "tail" = V.str "both"):=by decide +kernel
theorem zj9:¬ (V.str "tag" = V.str "seat"):=by decide +kernel
theorem zj8:¬ (V.str "tag" = V.str "both"):=by decide +kernel
theorem zj7:¬ (V.str "tag" = V.str "tail"):=by decide +kernel
theorem zj6:¬ (V.str "bag" = V.str "seat"):=by decide +kernel
theorem zj5:¬ (V.str "bag" = V.str "both"):=by decide +kernel
theorem zj4:¬ (V.str "bag" = V.str "tail"):=by decide +kernel
theorem zj3:¬ (V.str "bag" = V.str "tag"):=by decide +kernel
section
variable {P:Program} {w:World} {K:Frag} {mg:Str->Option Value} {base:Heap} {f N i0 i1 i2 i3 i4:Addr} {fd d0 d1 d2 d3 d4:FuncData} {c:C5}
theorem zcC {x:V} {k:Nat} {b:Bool}:atI (jL k x b) 1 = some x:=by unfold jL; split <;> rfl
theorem xU {x:V} {k:Nat} {b:Bool} (h:k < 5):atI (jL k x b) 0 = some (.str (kw k)):=by rcases lt5 h with rfl | rfl | rfl | rfl | rfl <;> rfl
theorem zht:zu ["told","word"] ["told"] (ze zdW):=⟨rfl,rfl,rfl,by decide +kernel,rfl,by decide +kernel,by decide +kernel⟩
theorem zik (F:Fun K "parameter_of" "parameter_of" zdW f fd) (U:zhE P w K mg base c N i0 i1 i2 i3 i4 d0 d1 d2 d3 d4):zE P w K mg base (CXe P w) 5 f fd ["told"] (zeV K c N):=by
 refine F.okE zht (fun vs H Q E h=>?_) (fun cdv A outer s H vs Q E hr h=>?_)
 ·obtain ⟨p,k,x,b,rfl,_⟩:=h
  rfl
 obtain ⟨p,k,x,b,rfl,hk,hp,hx,r1,r2⟩:=h
 refine ⟨_,zd (zw (i:=1) zht.nd rfl (Or.inl rfl) (zy zr (pv 0) zg (fun _ _=>rfl)))
  (zd (zI (zk zZ (pv 1) zl (zt _)) (zh (zA (cMk U.k0 .nil (vt fun _ _ _ z=>z) hr (ac (zy zr (pv 0) zg (fun _ _=>rfl)) (ac (zy zr (pv 0) zg (fun _ _=>rfl)) zc))))) zC)
  (zd (zI (zk zZ (pv 1) zl (zt _)) (zh (zA (cMk U.k1 .nil (vt fun _ _ _ z=>z) hr (ac (zy zr (pv 0) zg (fun _ _=>rfl)) (ac (zy zr (pv 0) zg (fun _ _=>rfl)) zc))))) zC)
  (zd (zI (zk zZ (pv 1) zl (zt _)) (zh (zA (cMk U.k2 .nil (vt fun _ _ _ z=>z) hr (ac (zy zr (pv 0) zg (fun _ _=>rfl)) zc)))) zC)
  (zd (zI (zk zZ (pv 1) zl (zt _)) (zh (zA (cMk U.k3 .nil (vt fun _ _ _ z=>z) hr (ac (zy zr (pv 0) zg (fun _ _=>rfl)) (ac (zy zr (pv 0) zg (fun _ _=>rfl)) zc))))) zC)
  (zh (zA (cMk U.k4 .nil (vt fun _ _ _ z=>z) hr (ac (zy zr (pv 0) zg (fun _ _=>rfl)) zc)))))))),?_⟩
 refine ⟨_,rfl,p,_,_,.str (kw k),rfl,rfl,SqT.of hp,xU hk,?_⟩
 rcases lt5 hk with rfl | rfl | rfl | rfl | rfl
 ·have hS:SqT K H p _:=SqT.of hp
  refine ⟨_,rfl,rfl,_,rfl,?_⟩
  refine dT rfl ?_
  exact ⟨_,rfl,p,_,_,x,rfl,rfl,hS,rfl,_,rfl,p,_,_,.bl b,rfl,rfl,hS,rfl,fun o dx ho hdx ne=>⟨o,dx,x,b,rfl,za,hx.same (yc ho hdx),fun e H1 s1=>⟨rfl,r1 e o dx _ (xN ho hdx s1) za⟩,fun e H1 s1=>r2 e _ ((yc ho hdx).trans s1)⟩⟩
 ·have hS:SqT K H p _:=SqT.of hp
  refine ⟨_,rfl,rfl,_,rfl,?_⟩
  refine dF zkc ?_
  refine ⟨_,rfl,rfl,_,rfl,?_⟩
  refine dT rfl ?_
  exact ⟨_,rfl,p,_,_,x,rfl,rfl,hS,rfl,_,rfl,p,_,_,.bl b,rfl,rfl,hS,rfl,fun o dx ho hdx ne=>⟨o,dx,x,b,rfl,za,hx.same (yc ho hdx),fun e H1 s1=>⟨rfl,r1 e o dx _ (xN ho hdx s1) za⟩,fun e H1 s1=>r2 e _ ((yc ho hdx).trans s1)⟩⟩
 ·have hS:SqT K H p _:=SqT.of hp
  refine ⟨_,rfl,rfl,_,rfl,?_⟩
  refine dF zkb ?_
  refine ⟨_,rfl,rfl,_,rfl,?_⟩
  refine dF zka ?_
  refine ⟨_,rfl,rfl,_,rfl,?_⟩
  refine dT rfl ?_
  exact ⟨_,rfl,p,_,_,x,rfl,rfl,hS,rfl,fun o dx ho hdx ne=>⟨o,dx,x,rfl,za,hx.same (yc ho hdx),fun e H1 s1=>⟨rfl,r1 e o dx _ (xN ho hdx s1) za⟩,fun e H1 s1=>r2 e _ ((yc ho hdx).trans s1)⟩⟩
 ·have hS:SqT K H p _:=SqT.of hp
  refine ⟨_,rfl,rfl,_,rfl,?_⟩
  refine dF zj9 ?_
  refine ⟨_,rfl,rfl,_,rfl,?_⟩
  refine dF zj8 ?_
  refine ⟨_,rfl,rfl,_,rfl,?_⟩
  refine dF zj7 ?_
  refine ⟨_,rfl,rfl,_,rfl,?_⟩
  refine dT rfl ?_
  exact ⟨_,rfl,p,_,_,x,rfl,rfl,hS,rfl,_,rfl,p,_,_,.bl b,rfl,rfl,hS,rfl,fun o dx ho hdx ne=>⟨o,dx,x,b,rfl,za,hx.same (yc ho hdx),fun e H1 s1=>⟨rfl,r1 e o dx _ (xN ho hdx s1) za⟩,fun e H1 s1=>r2 e _ ((yc ho hdx).trans s1)⟩⟩
 ·have hS:SqT K H p _:=SqT.of hp
  refine ⟨_,rfl,rfl,_,rfl,?_⟩
  refine dF zj6 ?_
  refine ⟨_,rfl,rfl,_,rfl,?_⟩
  refine dF zj5 ?_
  refine ⟨_,rfl,rfl,_,rfl,?_⟩
  refine dF zj4 ?_
  refine ⟨_,rfl,rfl,_,rfl,?_⟩
  refine dF zj3 ?_
  exact ⟨_,rfl,p,_,_,x,rfl,rfl,hS,rfl,fun o dx ho hdx ne=>⟨o,dx,x,rfl,za,hx.same (yc ho hdx),fun e H1 s1=>⟨rfl,r1 e o dx _ (xN ho hdx s1) za⟩,fun e H1 s1=>r2 e _ ((yc ho hdx).trans s1)⟩⟩
end
end K22
namespace L2
open PySem PySem.Spec PyProof.Rows
def dcN (n i:Nat) (D:Addr) (Pv:Nat->List (Key × V)->Hp->Prop) (ys:List (Key × V)) (y:V):VK:=fun v H5=>∃ k,y = kV k/\H5 D = some (.dK ys)/\ys.length < sizeLine/\∃ m',m' < n - i/\m' = n - (i + 1)/\i + 1<=n/\Pv (i + 1) (yf ys k v) (upd H5 D (.dK (yf ys k v)))
def dcS (n i:Nat) (Pv:Nat->List (Key × V)->Hp->Prop) (ys:List (Key × V)) (H4:Hp):Prop:=∃ m',m' < n - i/\m' = n - (i + 1)/\i + 1<=n/\Pv (i + 1) ys H4
theorem dcN.mk {n i:Nat} {D:Addr} {Pv:Nat->List (Key × V)->Hp->Prop} {ys:List (Key × V)} {y v:V} {H5:Hp} (k:Key) (hi:i < n) (ek:y = kV k) (hn:n<=sizeLine) (hD:H5 D = some (.dK ys)) (hy:ys.length<=i) (p:Pv (i + 1) (yf ys k v) (upd H5 D (.dK (yf ys k v)))):dcN n i D Pv ys y v H5:=
 ⟨k,ek,hD,by omega,n - (i + 1),by omega,rfl,hi,p⟩
theorem dcS.mk {n i:Nat} {Pv:Nat->List (Key × V)->Hp->Prop} {ys:List (Key × V)} {H4:Hp} (hi:i < n) (p:Pv (i + 1) ys H4):dcS n i Pv ys H4:=⟨n - (i + 1),by omega,rfl,hi,p⟩
theorem zhf {K:Frag} {a:Addr} {xs:List V} {caps:List (Option Nat)} {g:TG} {tt:TT} {tk tv:TE} {σ : St} {H1:Hp} {Q:VK} {D:Addr} (Pv:Nat->List (Key × V)->Hp->Prop) (h0:Pv 0 [] (upd H1 D (.dK [])))
  (hl:∀ i ys H,Pv i ys H->SqL K H a xs)
  (hs:∀ i x p ys H,i < xs.length->xs[i]? = some x->Pv i ys H->H p = none->g (.ref p) (y0 caps σ) (upd H p (.tup [.int i,x])) fun σ2 H2=>tt σ2 H2 fun ok H3=>(ok = true->tk σ2 H3 fun y H4=>tv σ2 H4 (dcN xs.length i D Pv ys y))/\(ok = false->dcS xs.length i Pv ys H3))
  (hd:∀ ys H,Pv xs.length ys H->Q (.ref D) H):DCr (Ite K a) caps g tt tk tv σ H1 Q D:=by
 refine ⟨fun i m ys H=>m = xs.length - i/\i<=xs.length/\Pv i ys H,⟨xs.length,by simp,Nat.zero_le _,h0⟩,?_⟩
 rintro i m ys H ⟨rfl,hi,p⟩
 have q:=hl i ys H p
 by_cases hlt:i < xs.length
 ·refine .inr ⟨⟨xs,xs[i],q,by simp [hlt]⟩,fun x H' y=>?_⟩
  obtain ⟨pp,y,rfl,hp,y2,rfl⟩:=y
  exact hs i y pp ys H hlt (y2 xs q) p hp
 ·have e:i = xs.length:=by omega
  subst e
  exact .inl ⟨⟨xs,q,Nat.le_refl _⟩,hd ys H p⟩
end L2
namespace K22
open PySem L2 PyProof.Rows
structure Rw where
 (k:Nat) (z:Str) (b:Bool)
def Rw.ok (r:Rw):Prop:=r.k < 5/\xq r.z = true
abbrev rv (r:Rw):List V:=jL r.k (.str r.z) r.b
abbrev pr (r:Rw):List (Str × V):=pf (kw r.k) (.str r.z) (fr r.k r.b)
def PAt (c:C5) (H:Hp) (p:Addr) (r:Rw):Prop:=∃ dx,H p = some (.ins (c.at r.k) dx (pr r))
def yL (k:Nat):Bool:=k == 0 || k == 1
def z5 (k:Nat):Bool:=k == 1 || k == 3
theorem zfW:∀ k:Nat,k < 5->inV (.str (kw k)) bpL = yL k:=by decide +kernel
theorem ug:∀ k:Nat,k < 5->inV (.str (kw k)) bnL = z5 k:=by decide +kernel
def grp:Nat->Nat
 | 0=>0 | 1=>0 | 2=>1 | 3=>2 | _=>3
def xt (l g:Nat):Bool:=decide (g < l) || (g == l && (g == 1 || g == 3))
def ya:Nat->List Rw->Bool
 | _,[]=>true
 | l,r :: rs=>!xt l (grp r.k) && ya (grp r.k) rs
def nms (rows:List Rw):List Str:=(rows.filter fun r=>z5 r.k).map (·.z)
structure yR (rows:List Rw) (bars:List Str):Prop where
 ok:∀ r ∈ rows,r.ok
 l24:rows.length<=24
 l60:bars.length<=60
 ord:ya 0 rows = true
 bn:∀ z ∈ bars,xq z = true
 nd:(nms rows ++ bars).Nodup
def zD (kk:Nat):Nat->List Rw->Option Nat
 | _,[]=>none
 | i,r :: rs=>if r.k = kk then some i else zD kk (i + 1) rs
def xT:Option Nat->V
 | none=>.non
 | some i=>.int i
def yu:Nat->List (Key × V)->List Rw->List (Key × V)
 | _,acc,[]=>acc
 | i,acc,r :: rs=>yu (i + 1) (if z5 r.k = true then yf acc (.inr r.z) (.int i) else acc) rs
def plN (rows:List Rw):Nat:=(rows.filter fun r=>yL r.k).length
def zgb:List Str:=["row","bar_names","place_count","tail_number","bag_number","doors"]
structure FF (fs:List (Str × V)) (lr lb ld:Addr) (rows:List Rw):Prop where
 row:fs.lookup ("row" : Str) = some (.ref lr)
 bn:fs.lookup ("bar_names" : Str) = some (.ref lb)
 pc:fs.lookup ("place_count" : Str) = some (.int (plN rows))
 tn:fs.lookup ("tail_number" : Str) = some (xT (zD 2 0 rows))
 bg:fs.lookup ("bag_number" : Str) = some (xT (zD 4 0 rows))
 dr:fs.lookup ("doors" : Str) = some (.ref ld)
 no:∀ m,m ∉ zgb->fs.lookup m = none
def xi (c:C5) (CF:Addr) (H:Hp) (f:Addr) (rows:List Rw) (bars:List Str):Prop:=
 ∃ dx fs lr lb ld ps,H f = some (.ins CF dx fs)/\FF fs lr lb ld rows/\H lr = some (.lst (ps.map V.ref))/\Paired (PAt c H) ps rows/\H lb = some (.lst (bars.map V.str))/\H ld = some (.dK (yu 0 [] rows))
section
variable {c:C5} {CF f p:Addr} {H H':Hp} {rows:List Rw} {bars:List Str} {r:Rw} {ps:List Addr}
theorem PAt.same (h:PAt c H p r) (s:zm H H'):PAt c H' p r:=h.imp fun _=>s _ _
theorem xu (s:zm H H') (h:Paired (PAt c H) ps rows):Paired (PAt c H') ps rows:=Paired.imp' (fun _ _ z=>z.same s) h
theorem xi.same (h:xi c CF H f rows bars) (s:zm H H'):xi c CF H' f rows bars:=by
 obtain ⟨dx,fs,lr,lb,ld,ps,h1,h2,h3,h4,h5,h6⟩:=h
 exact ⟨dx,fs,lr,lb,ld,ps,s _ _ h1,h2,s _ _ h3,xu s h4,s _ _ h5,s _ _ h6⟩
def qg (c:C5) (CF:Addr) (H H':Hp) (f:Addr) (rows:List Rw) (bars:List Str):Prop:=
 ∃ dx fs lr lb ld ps,H' f = some (.ins CF dx fs)/\FF fs lr lb ld rows/\H' lr = some (.lst (ps.map V.ref))/\Paired (PAt c H') ps rows/\H' lb = some (.lst (bars.map V.str))/\H' ld = some (.dK (yu 0 [] rows))/\H lr = none/\H lb = none
theorem qg.at (h:qg c CF H H' f rows bars):xi c CF H' f rows bars:=by
 obtain ⟨dx,fs,lr,lb,ld,ps,h1,h2,h3,h4,h5,h6,_,_⟩:=h
 exact ⟨dx,fs,lr,lb,ld,ps,h1,h2,h3,h4,h5,h6⟩
theorem qg.of {H0:Hp} (h:qg c CF H H' f rows bars) (s:zm H0 H):qg c CF H0 H' f rows bars:=by
 obtain ⟨dx,fs,lr,lb,ld,ps,h1,h2,h3,h4,h5,h6,h7,h8⟩:=h
 exact ⟨dx,fs,lr,lb,ld,ps,h1,h2,h3,h4,h5,h6,s.free h7,s.free h8⟩
theorem yj {α β : Type} {R : α->β->Prop} {xs:List α} {ys:List β} (h:Paired R xs ys):∀ {i:Nat} {x : α},xs[i]? = some x->∃ y,ys[i]? = some y/\R x y:=by
 induction h with
 | nil=>intro i x e; simp at e
 | cons r t ih=>
  intro i x e
  cases i with
  | zero=>exact ⟨_,rfl,by simp at e; exact e ▸ r⟩
  | succ i=>simpa using ih (by simpa using e)
end
def zg8 (x:Str):Option V:=([(("seat" : Str),V.int 0),("both",.int 0),("tail",.int 1),("tag",.int 2),("bag",.int 3)]:List (Str × V)).lookup x
theorem zg7:∀ k:Nat,k < 5->zg8 (kw k) = some (.int (grp k)):=by decide +kernel
theorem ziC (k:Nat):grp k < 4:=by unfold grp; split <;> decide
structure zb3 (w:World) (K:Frag) (mg:Str->Option Value) (G sg:Addr):Prop where
 len:mg "len" = none
 en:mg "enumerate" = none
 lst:mg "list" = none
 set:mg "set" = none
 mp:∃ t,mg "MOST_PARAMETERS" = some (.int 24 t)
 mb:∃ t,mg "MOST_BARS" = some (.int 60 t)
 mgr:mg "GROUPS" = some (.ref G)
 gt:ziN w K G zg8
 ms:mg "SINGLE_GROUPS" = some (.ref sg)
 hs:∀ H,SqT K H sg [.int 1,.int 3]
def Cs5 (c:C5):Addr->Prop:=fun C=>∃ k,k < 5/\C = c.at k
def zcd (K:Frag):Sp:=fun vs H Q _=>∃ (a b:Addr) (xs ys:List V),vs = [.ref a,.ref b]/\SqL K H a xs/\SqL K H b ys/\xs.length<=24/\ys.length<=60/\Q .non H
def zeW (c:C5):Sp:=fun vs H Q _=>∃ (a:Addr) (ps:List Addr) (rows:List Rw),vs = [.ref a]/\H a = some (.lst (ps.map V.ref))/\Paired (PAt c H) ps rows/\(∀ r ∈ rows,r.ok)/\ya 0 rows = true/\∀ H',zm H H'->Q .non H'
def zhT:Sp:=fun vs H Q _=>∃ (b:Addr) (bars:List Str),vs = [.ref b]/\H b = some (.lst (bars.map V.str))/\(∀ z ∈ bars,xq z = true)/\∀ H',zm H H'->Q .non H'
def zhS (c:C5):Sp:=fun vs H Q _=>∃ (a b:Addr) (ps:List Addr) (rows:List Rw) (bars:List Str),vs = [.ref a,.ref b]/\H a = some (.lst (ps.map V.ref))/\Paired (PAt c H) ps rows/\(∀ r ∈ rows,r.ok)/\rows.length<=500/\H b = some (.lst (bars.map V.str))/\bars.length<=500/\(nms rows ++ bars).Nodup/\∀ H',zm H H'->Q .non H'
def zhV (c:C5):Sp:=fun vs H Q _=>∃ (a:Addr) (ps:List Addr) (rows:List Rw) (kk:Nat),vs = [.ref a,.str (kw kk)]/\kk < 5/\H a = some (.lst (ps.map V.ref))/\Paired (PAt c H) ps rows/\(∀ r ∈ rows,r.ok)/\∀ H',zm H H'->Q (xT (zD kk 0 rows)) H'
theorem zir:∀ i:Nat,i < 5->∀ k:Nat,k < 5->decide (V.str (kw k) = V.str (kw i)) = (k == i):=by decide +kernel
theorem zdD {α : Type} {xs:List α} {i:Nat} {x : α} (h:xs[i]? = some x):xs.drop i = x :: xs.drop (i + 1):=by
 have hi:i < xs.length:=(List.getElem?_eq_some_iff.mp h).1
 rw [List.drop_eq_getElem_cons hi]
 rw [List.getElem?_eq_getElem hi] at h
 rw [Option.some.inj h]
theorem xm {ps:List Addr} {i:Nat} {x:V} (h:(ps.map V.ref)[i]? = some x):∃ p,ps[i]? = some p/\x = .ref p:=by
 rw [List.getElem?_map] at h
 cases e:ps[i]? with
 | none=>rw [e] at h; cases h
 | some p=>rw [e] at h; exact ⟨p,rfl,(Option.some.inj h).symm⟩
theorem strs_at {zs:List Str} {i:Nat} {x:V} (h:(zs.map V.str)[i]? = some x):∃ z,zs[i]? = some z/\x = .str z:=by
 rw [List.getElem?_map] at h
 cases e:zs[i]? with
 | none=>rw [e] at h; cases h
 | some p=>rw [e] at h; exact ⟨p,rfl,(Option.some.inj h).symm⟩
section
variable {P:Program} {w:World} {K:Frag} {mg:Str->Option Value} {base:Heap} {f G sg:Addr} {fd:FuncData} {c:C5} {m:MA}
def Pcs (K:Frag) (m:MA) (c:C5):Prop:=∀ k,k < 5->PC K m (c.at k)
theorem zgq:zu ["parameters","bars"] ["parameters","bars"] (ze uB):=⟨rfl,rfl,rfl,by decide +kernel,rfl,by decide +kernel,by decide +kernel⟩
theorem zgR (F:Fun K "refuse_too_many" "refuse_too_many" uB f fd) (T:zb3 w K mg G sg):zE P w K mg base CX0 1 f fd ["parameters","bars"] (zcd K):=by
 refine F.ok zgq (fun vs H Q E h=>?_) (fun cdv A outer s H vs Q E hr h=>?_)
 ·obtain ⟨a,b,xs,ys,rfl,_⟩:=h
  rfl
 obtain ⟨a,b,xs,ys,rfl,ha,hb,l1,l2,q⟩:=h
 obtain ⟨t1,m1⟩:=T.mp
 obtain ⟨t2,m2⟩:=T.mb
 refine ⟨_,zd (zI (zk zbx (cB zB T.len PySem.boot_len (ac (pv 0) zc)) (wv (v:=.int 24) rfl m1 ⟨_,rfl⟩) (zt _)) (zh vT) zC)
  (zh (zI (zk zbx (cB zB T.len PySem.boot_len (ac (pv 1) zc)) (wv (v:=.int 60) rfl m2 ⟨_,rfl⟩) (zt _)) (zh vT) zC)),?_⟩
 refine ⟨_,rfl,a,_,rfl,.inl ha,_,_,rfl,rfl,_,rfl,?_⟩
 refine dF (by show ¬ (24:Int) < (xs.length:Int); omega) ?_
 refine ⟨_,rfl,b,_,rfl,.inl hb,_,_,rfl,rfl,_,rfl,?_⟩
 exact dF (by show ¬ (60:Int) < (ys.length:Int); omega) q
theorem x8:zu ["parameters","last","at","parameter","group"] ["parameters"] (ze wW):=⟨rfl,rfl,rfl,by decide +kernel,rfl,by decide +kernel,by decide +kernel⟩
theorem zfx (F:Fun K "refuse_bad_order" "refuse_bad_order" wW f fd) (T:zb3 w K mg G sg) (PP:Pcs K m c):zE P w K mg base CX0 1 f fd ["parameters"] (zeW c):=by
 refine F.ok x8 (fun vs H Q E h=>?_) (fun cdv A outer s H vs Q E hr h=>?_)
 ·obtain ⟨a,ps,rows,rfl,_⟩:=h
  rfl
 obtain ⟨a,ps,rows,rfl,ha,hp,hok,ho,q⟩:=h
 refine ⟨_,zd (zw (i:=1) x8.nd rfl (Or.inl rfl) zg)
  (zh (y9 PassesOwn.never rfl (xc rfl T.en (ac (pv 0) zc)) (yp rfl (zv (zn (i:=2) x8.nd rfl (Or.inl rfl)) (zv (zn (i:=3) x8.nd rfl (Or.inl rfl)) z7)))
   (zd (zw (i:=4) x8.nd rfl (Or.inl rfl) (zgF T.gt T.mgr (yO (pv 3) rfl)))
   (zd (zI (PW.pt (xW (zk ja (pv 4) (pv 1) (zt _)) (xH (PW.pt (xn (zk zZ (pv 4) (pv 1) (zt _)) (yQ (zk zU (pv 4) (wv (v:=.ref sg) rfl T.ms rfl) (by with_unfolding_all rfl)))))))) (zh vT) zC)
   (zh (zw (i:=1) x8.nd rfl (Or.inl rfl) (pv 4))))))),?_⟩
 show xS _ _ _ _ _
 refine ⟨_,rfl,a,rfl,⟨_,SqL.of ha⟩,wk (K:=K) (a:=a) (xs:=ps.map V.ref) (fun i σ H'=>∃ (l:Nat) (v2 v3 v4:Option V),σ = [some (.ref a),some (.int (l:Nat)),v2,v3,v4]/\zm H H'/\ya l (rows.drop i) = true)
  ⟨0,_,_,_,rfl,zm.refl _,ho⟩ (fun i σ H' _ ⟨_,_,_,_,_,sH,_⟩=>SqL.of (sH _ _ ha)) ?_ ?_⟩
 ·rintro i x p σ H' hx ⟨l,v2,v3,v4,rfl,sH,hl⟩ hpn
  obtain ⟨pa,hpa,rfl⟩:=xm hx
  obtain ⟨r,hr',dx,hdx⟩:=yj hp hpa
  have rok:=hok r (List.mem_of_getElem? hr')
  have C:=PP r.k rok.1
  rw [zdD hr'] at hl
  have hl':(!xt l (grp r.k) && ya (grp r.k) (rows.drop (i + 1))) = true:=hl
  rw [Bool.and_eq_true,Bool.not_eq_true'] at hl'
  obtain ⟨hb,hl2⟩:=hl'
  have hb':(decide (grp r.k < l) || (grp r.k == l && (grp r.k == 1 || grp r.k == 3))) = false:=hb
  rw [Bool.or_eq_false_iff] at hb'
  have sp:=zb hpn (.tup [.int (i:Nat),.ref pa])
  refine ⟨p,_,rfl,SqT.of za,rfl,_,_,rfl,_,_,rfl,rfl,?_⟩
  refine ⟨_,rfl,pa,_,dx,_,_,rfl,sp _ _ (sH _ _ hdx),C.cl,C.nW,vU,kw r.k,.int (grp r.k),rfl,zg7 r.k rok.1,?_⟩
  refine ⟨_,rfl,_,rfl,_,_,rfl,rfl,_,rfl,?_⟩
  refine dF (fun z=>by have:=of_decide_eq_false hb'.1; omega) ?_
  have fin:∃ (l':Nat) (v2 v3 v4:Option V),([some (.ref a),some (.int (grp r.k:Nat)),some (.int (i:Nat)),some (.ref pa),some (.int (grp r.k:Nat))]:L2.St) = [some (.ref a),some (.int (l':Nat)),v2,v3,v4]/\zm H (upd H' p (.tup [.int (i:Nat),.ref pa]))/\ya l' (rows.drop (i + 1)) = true:=
   ⟨grp r.k,_,_,_,rfl,sH.trans sp,hl2⟩
  refine ⟨_,rfl,_,rfl,rfl,_,rfl,?_⟩
  by_cases e:grp r.k = l
  ·refine dT (by rw [e]) ?_
   refine ⟨_,rfl,sg,_,rfl,.inr (T.hs _),rfl,(by decide),_,rfl,?_⟩
   have h13:(grp r.k == 1 || grp r.k == 3) = false:=by
    have:=hb'.2
    rw [e] at this |-
    simpa using this
   have hin:inV (.int (grp r.k:Nat)) [.int 1,.int 3] = false:=by
    have g4:=ziC r.k
    have:∀ g:Nat,g < 4->(g == 1 || g == 3) = false->inV (.int (g:Nat)) [.int 1,.int 3] = false:=by decide +kernel
    exact this _ g4 h13
   rw [show (if false = true then !inV (V.int ((grp r.k:Nat):Int)) [V.int 1,V.int 3] else inV (V.int ((grp r.k:Nat):Int)) [V.int 1,V.int 3]) = false from hin]
   refine yk ?_
   exact ⟨_,rfl,fin⟩
  ·refine dF (fun z=>e (by have:=V.int.inj z; omega)) ?_
   exact ⟨_,rfl,fin⟩
 ·rintro σ H' ⟨l,v2,v3,v4,rfl,sH,_⟩
  exact q _ sH
end
end K22
namespace L2
open PySem PySem.Spec PyProof.Rows
theorem zdn {X:Cx} {K:Frag} {e:Expr} {f:Str} {pos:Pos} {ta:TE} (hK:X.K = K) (he:PE X e ta) (hb:attributeBase e f X.env (eval e X.env) = eval e X.env):PE X (.Attribute e f pos) (ziZ K ta f):=hK ▸ yO he hb
end L2
namespace K22
open PySem L2 PyProof.Rows
theorem ye {n:Nat} (h:n<=1000):n<=sizeLine:=Nat.le_of_lt (zF h)
theorem zg3 {rows:List Rw} {i:Nat} {r:Rw} (h:rows[i]? = some r):nms (rows.take (i + 1)) = nms (rows.take i) ++ (if z5 r.k = true then [r.z] else []):=by
 have hi:i < rows.length:=(List.getElem?_eq_some_iff.mp h).1
 have e:rows[i] = r:=by rw [List.getElem?_eq_getElem hi] at h; exact Option.some.inj h
 unfold nms
 rw [List.take_succ_eq_append_getElem hi,List.filter_append,List.map_append,e]
 cases hb:z5 r.k <;> simp [hb]
section
variable {P:Program} {w:World} {K:Frag} {mg:Str->Option Value} {base:Heap} {f G sg:Addr} {fd:FuncData} {c:C5} {m:MA}
theorem zcm:zu ["parameters","word","at","parameter"] ["parameters","word"] (ze qB):=⟨rfl,rfl,rfl,by decide +kernel,rfl,by decide +kernel,by decide +kernel⟩
theorem zgQ (F:Fun K "number_of_word" "number_of_word" qB f fd) (T:zb3 w K mg G sg) (PP:Pcs K m c):zE P w K mg base CX0 1 f fd ["parameters","word"] (zhV c):=by
 refine F.ok zcm (fun vs H Q E h=>?_) (fun cdv A outer s H vs Q E hr h=>?_)
 ·obtain ⟨a,ps,rows,kk,rfl,_⟩:=h
  rfl
 obtain ⟨a,ps,rows,kk,rfl,hkk,ha,hp,hok,q⟩:=h
 refine ⟨_,zd (y9 PassesOwn.never rfl (xc rfl T.en (ac (pv 0) zc)) (yp rfl (zv (zn (i:=2) zcm.nd rfl (Or.inl rfl)) (zv (zn (i:=3) zcm.nd rfl (Or.inl rfl)) z7)))
   (zh (zI (zk zZ (yO (pv 3) rfl) (pv 1) (zt _)) (zh (zA (pv 2))) zC))) (zh (zA zie)),?_⟩
 refine ⟨_,rfl,a,rfl,⟨_,SqL.of ha⟩,wk (K:=K) (a:=a) (xs:=ps.map V.ref) (fun i σ H'=>∃ (v2 v3:Option V),σ = [some (.ref a),some (.str (kw kk)),v2,v3]/\zm H H'/\zD kk i (rows.drop i) = zD kk 0 rows)
  ⟨_,_,rfl,zm.refl _,rfl⟩ (fun i σ H' _ ⟨_,_,_,sH,_⟩=>SqL.of (sH _ _ ha)) ?_ ?_⟩
 ·rintro i x p σ H' hx ⟨v2,v3,rfl,sH,hl⟩ hpn
  obtain ⟨pa,hpa,rfl⟩:=xm hx
  obtain ⟨r,hr',dx,hdx⟩:=yj hp hpa
  have rok:=hok r (List.mem_of_getElem? hr')
  have C:=PP r.k rok.1
  rw [zdD hr'] at hl
  have hl':(if r.k = kk then some i else zD kk (i + 1) (rows.drop (i + 1))) = zD kk 0 rows:=hl
  have sp:=zb hpn (.tup [.int (i:Nat),.ref pa])
  refine ⟨p,_,rfl,SqT.of za,rfl,_,_,rfl,_,_,rfl,rfl,?_⟩
  refine ⟨_,rfl,pa,_,dx,_,_,rfl,sp _ _ (sH _ _ hdx),C.cl,C.nW,vU,_,rfl,rfl,_,rfl,?_⟩
  by_cases e:r.k = kk
  ·refine dT (by rw [e]) ?_
   rw [if_pos e] at hl'
   refine ⟨_,rfl,?_⟩
   have:=q _ (sH.trans sp)
   rw [<- hl'] at this
   exact this
  ·refine dF (fun z=>?_) ?_
   ·have h1:=zir kk hkk r.k rok.1
    rw [decide_eq_true z] at h1
    exact e (by simpa using h1.symm)
   ·rw [if_neg e] at hl'
    exact ⟨_,_,rfl,sH.trans sp,hl'⟩
 ·rintro σ H' ⟨v2,v3,rfl,sH,hl⟩
  have e:zD kk 0 rows = none:=by
   rw [<- hl,List.length_map,hp.length,List.drop_length]
   rfl
  have:=q _ sH
  rw [e] at this
  exact this
theorem zdc:zu ["bars","bar"] ["bars"] (ze uC):=⟨rfl,rfl,rfl,by decide +kernel,rfl,by decide +kernel,by decide +kernel⟩
theorem zft {g:Addr} {gd:FuncData} (F:Fun K "refuse_bars_without_name" "refuse_bars_without_name" uC f fd) (cI:zp P w K mg base 1 "is_name" g gd ["thing"] (zgn K)):zE P w K mg base CX0 2 f fd ["bars"] zhT:=by
 refine F.ok zdc (fun vs H Q E h=>?_) (fun cdv A outer s H vs Q E hr h=>?_)
 ·obtain ⟨b,bars,rfl,_⟩:=h
  rfl
 obtain ⟨b,bars,rfl,hb,hn,q⟩:=h
 refine ⟨_,zh (y9 PassesOwn.never rfl (z6 (pv 0)) (zn (i:=1) zdc.nd rfl (Or.inl rfl)) (zh (zI (xg (yr (cF cI hr (ac (pv 1) zc)))) (zh vT) zC))),?_⟩
 refine ⟨_,rfl,b,rfl,⟨_,SqL.of hb⟩,wj (K:=K) (a:=b) (xs:=bars.map V.str) (fun i σ H'=>∃ v1,σ = [some (.ref b),v1]/\zm H H') ⟨_,rfl,zm.refl _⟩ (fun i σ H' _ ⟨_,_,sH⟩=>SqL.of (sH _ _ hb)) ?_ ?_⟩
 ·rintro i x σ H' hx ⟨v1,rfl,sH⟩
  obtain ⟨z,hz,rfl⟩:=strs_at hx
  have nz:=hn z (List.mem_of_getElem? hz)
  refine ⟨_,rfl,_,rfl,.inl ⟨z,rfl,jS nz⟩,fun H2 s2=>⟨_,rfl,?_⟩⟩
  rw [show nmV (.str z) = true from nz]
  refine yk ?_
  exact ⟨_,rfl,sH.trans s2⟩
 ·rintro σ H' ⟨v1,rfl,sH⟩
  exact q _ sH
theorem zjl:([Str.ofString "parameter"]:List Str).Nodup:=by decide +kernel
theorem jF:zu ["parameters","bars","seen","name"] ["parameters","bars"] (ze wV):=⟨rfl,rfl,rfl,by decide +kernel,rfl,by decide +kernel,by decide +kernel⟩
theorem zfo {gd:FuncData} (F:Fun K "refuse_twice" "refuse_twice" wV f fd) (T:zb3 w K mg G sg) (PP:Pcs K m c) (GB:zE P w K mg base CX0 1 m.fB gd ["self"] (zaC K m bnL)) (bB:zS K gd ["self"] []):zE P w K mg base CX0 2 f fd ["parameters","bars"] (zhS c):=by
 refine F.ok jF (fun vs H Q E h=>?_) (fun cdv A outer s H vs Q E hr h=>?_)
 ·obtain ⟨a,b,ps,rows,bars,rfl,_⟩:=h
  rfl
 obtain ⟨a,b,ps,rows,bars,rfl,ha,hp,hok,l1,hb,l2,nd,q⟩:=h
 have hC:∀ C,Cs5 c C->Cls K C/\y6 K C "by_name" m.fB:=fun C ⟨k,hk,e⟩=>by rw [e]; exact ⟨(PP k hk).cl,(PP k hk).mB⟩
 refine ⟨_,zd (zw (i:=2) jF.nd rfl (Or.inl rfl) (zcq zeC rfl T.set (by decide +kernel:bootBuiltins "set" = some (.type "set"))))
  (zh (y9 PassesOwn.never rfl (z6 (zx yW (xp [] ["parameter"] [none] rfl ⟨rfl,rfl,rfl,rfl⟩ (z6 (pv 0)) (zW 0) rfl rfl rfl
    (fun pins fp s H C=>⟨zn (i:=0) zjl rfl (Or.inl rfl) (.inr rfl),yq (yr (vV (pv 0) hC GB hr bB y7)),zdn (K:=K) rfl (pv 0) rfl⟩)) (cTy yF T.lst PyProof.Rows.boot_list (ac (pv 1) zc)))) (zn (i:=3) jF.nd rfl (Or.inl rfl))
   (zd (zI (zk jQ (pv 3) (pv 2) (by with_unfolding_all rfl)) (zh vT) zC)
   (zh (zJ (zgE (pv 2) (pv 3) ⟨rfl,rfl,rfl,rfl⟩)))))),?_⟩
 refine ⟨rfl,fun se hse=>?_⟩
 have s1:zm H (upd H se (wG P w se (fun _=>false) 0)):=zb hse _
 have g1:upd H se (wG P w se (fun _=>false) 0) se = some (wG P w se (fun _=>false) 0):=za
 show xS _ _ _ _ (upd H se (wG P w se (fun _=>false) 0))
 generalize upd H se (wG P w se (fun _=>false) 0) = H1 at s1 g1 |-
 have ha1:=s1 _ _ ha
 have hp1:=xu s1 hp
 refine ⟨_,rfl,a,rfl,⟨_,SqL.of ha1⟩,fun D hD=>?_⟩
 refine ub (K:=K) (xs:=ps.map V.ref) (fun i ys H'=>zm H1 H'/\H' D = some (.lst ys)/\ys = (nms (rows.take i)).map V.str) ⟨zb hD _,za,rfl⟩ (fun i ys H' h=>SqL.of (h.1 _ _ ha1)) ?_ ?_
 ·rintro i x ys H' hlt hx ⟨sH,hDy,ey⟩
  obtain ⟨pa,hpa,rfl⟩:=xm hx
  obtain ⟨r,hr',dx,hdx⟩:=yj hp1 hpa
  have rok:=hok r (List.mem_of_getElem? hr')
  have C:=PP r.k rok.1
  have nl:ys.length<=i:=by
   rw [ey,List.length_map]
   unfold nms
   rw [List.length_map]
   refine Nat.le_trans (List.length_filter_le _ _) ?_
   rw [List.length_take]
   omega
  have hd2:=sH _ _ hdx
  refine ⟨_,rfl,pa,_,dx,_,rfl,⟨r.k,rok.1,rfl⟩,hd2,qQ (by decide +kernel) (by decide +kernel) (by decide +kernel),pa,dx,_,_,_,_,rfl,C,hd2,_,rfl,?_⟩
  rw [ug r.k rok.1]
  have tk:=zg3 hr'
  refine ⟨fun e=>?_,fun e=>?_⟩
  ·rw [e,if_pos rfl] at tk
   refine ⟨_,rfl,pa,_,dx,_,_,rfl,hd2,C.cl,C.nN,jp,?_⟩
   refine lcN.mk hlt (ye (by rw [List.length_map,hp.length]; omega)) hDy nl ⟨fun b u e=>?_,za,?_⟩
   ·rw [zi (zf e hD)]
    exact sH b u e
   ·rw [ey,tk,List.map_append]
    rfl
  ·rw [e,if_neg Bool.false_ne_true,List.append_nil] at tk
   exact lcS.mk hlt ⟨sH,hDy,by rw [ey,tk]⟩
 rintro ys H2 ⟨s2,hDy,ey⟩
 have ey:ys = (nms rows).map V.str:=by
  rw [ey,List.length_map,hp.length,List.take_length]
 subst ey
 have hb2:=s2 _ _ (s1 _ _ hb)
 refine ⟨_,rfl,b,_,rfl,.inl (SqL.of hb2),fun l hl=>?_⟩
 have s3:=zb hl (.lst (bars.map V.str))
 have g3:upd H2 l (.lst (bars.map V.str)) l = some (.lst (bars.map V.str)):=za
 generalize upd H2 l (.lst (bars.map V.str)) = H3 at s3 g3 |-
 have ln:(nms rows).length<=500:=by
  unfold nms
  rw [List.length_map]
  exact Nat.le_trans (List.length_filter_le _ _) l1
 refine ⟨D,l,_,_,rfl,rfl,s3 _ _ hDy,g3,ye (by rw [List.length_map,List.length_map]; omega),fun l4 hl4=>?_⟩
 rw [<- List.map_append]
 have s4:=zb hl4 (.lst ((nms rows ++ bars).map V.str))
 have g4:upd H3 l4 (.lst ((nms rows ++ bars).map V.str)) l4 = some (.lst ((nms rows ++ bars).map V.str)):=za
 have nse:l4 ≠ se:=fun z=>by
  rw [z] at hl4
  rw [s3 _ _ (s2 _ _ g1)] at hl4
  cases hl4
 generalize upd H3 l4 (.lst ((nms rows ++ bars).map V.str)) = H4 at s4 g4 |-
 have sA:zm H1 H4:=s2.trans (s3.trans s4)
 have gse:=sA _ _ g1
 refine ⟨l4,rfl,⟨_,SqL.of g4⟩,wj (K:=K) (a:=l4) (xs:=(nms rows ++ bars).map V.str) (fun i σ H'=>∃ (S:Str->Bool) (n:Nat) (v3:Option V),σ = [some (.ref a),some (.ref b),some (.ref se),v3]/\H' se = some (wG P w se S n)/\(∀ z,S z = decide (z ∈ (nms rows ++ bars).take i))/\n<=i/\(∀ b' u,H4 b' = some u->b' ≠ se->H' b' = some u))
  ⟨_,0,_,rfl,gse,fun z=>by simp,Nat.le_refl _,fun b' u e _=>e⟩ (fun i σ H' _ ⟨_,_,_,_,_,_,_,k⟩=>SqL.of (k _ _ g4 nse)) ?_ ?_⟩
 ·rintro i x σ H' hx ⟨S,n,v3,rfl,hS,hSz,hn,k⟩
  obtain ⟨z,hz,rfl⟩:=strs_at hx
  have hi:i < (nms rows ++ bars).length:=(List.getElem?_eq_some_iff.mp hz).1
  have ez:(nms rows ++ bars)[i] = z:=by rw [List.getElem?_eq_getElem hi] at hz; exact Option.some.inj hz
  have nz:S z = false:=by
   rw [hSz,decide_eq_false_iff_not]
   intro hm
   obtain ⟨j,hj,ej⟩:=List.mem_take_iff_getElem.mp hm
   have:=List.pairwise_iff_getElem.mp nd j i (by omega) hi (by omega)
   exact this (ej.trans ez.symm)
  refine ⟨_,rfl,_,rfl,se,S,n,z,rfl,rfl,hS,_,rfl,?_⟩
  rw [nz]
  refine yk ?_
  refine ⟨_,rfl,se,S,n,rfl,hS,_,rfl,S,n,z,rfl,hS,?_,?_⟩
  ·rw [List.length_append] at hi
   show n + 1 < 4096
   omega
  ·refine ⟨_,_,_,rfl,za,fun y=>?_,?_,fun b' u e ne=>?_⟩
   ·rw [hSz y,List.take_succ_eq_append_getElem hi,ez]
    simp [List.mem_append]
   ·rw [nz]
    show n + 1<=i + 1
    omega
   ·rw [zi ne]
    exact k b' u e ne
 ·rintro σ H' ⟨S,n,v3,rfl,hS,hSz,hn,k⟩
  refine q _ fun b' u e=>k b' u (sA _ _ (s1 _ _ e)) fun z=>?_
  rw [z,hse] at e
  cases e
end
def SX (f:Addr) (H H':Hp):Prop:=∀ b u,H b = some u->b ≠ f->H' b = some u
theorem SX.same {f:Addr} {H H1 H2:Hp} (x:SX f H H1) (s:zm H1 H2):SX f H H2:=fun b u e n=>s b u (x b u e n)
theorem SX.upd {f:Addr} {H H1:Hp} {o:HO} (x:SX f H H1):SX f H (upd H1 f o):=fun b u e n=>by rw [zi n]; exact x b u e n
theorem SX.refl {f:Addr} {H:Hp}:SX f H H:=fun _ _ e _=>e
theorem wt (f:Str) (v:V):∀ fs:List (Str × V),(zT f v fs).length<=fs.length + 1
 | []=>Nat.le_refl _
 | (g,x) :: r=>by
  show (if g = f then (g,v) :: r else (g,x) :: zT f v r).length<=_
  split
  ·simp
  ·have:=wt f v r
   simp only [List.length_cons]
   omega
def Pre (fs:List (Str × V)):Prop:=fs.length<=50/\∀ m,m ∉ zgb->fs.lookup m = none
structure FC (K:Frag) (CF:Addr):Prop where
 cl:Cls K CF
 n1:xh K CF "row"
 n2:xh K CF "bar_names"
 n3:xh K CF "place_count"
 n4:xh K CF "tail_number"
 n5:xh K CF "bag_number"
 n6:xh K CF "doors"
def zcg (c:C5) (CF:Addr):Sp:=fun vs H Q _=>∃ (f a b dx:Addr) (fs:List (Str × V)) (ps:List Addr) (rows:List Rw) (bars:List Str),vs = [.ref f,.ref a,.ref b]/\H f = some (.ins CF dx fs)/\Pre fs/\H a = some (.lst (ps.map V.ref))/\Paired (PAt c H) ps rows/\(∀ r ∈ rows,r.ok)/\rows.length<=500/\H b = some (.lst (bars.map V.str))/\
 ∀ H',SX f H H'->qg c CF H H' f rows bars->(∃ dx' fs',H' f = some (.ins CF dx' fs')/\fs'.length<=fs.length + 6)->Q .non H'
theorem zgC {rows:List Rw} {i:Nat} {r:Rw} (h:rows[i]? = some r):plN (rows.take (i + 1)) = plN (rows.take i) + (if yL r.k = true then 1 else 0):=by
 have hi:i < rows.length:=(List.getElem?_eq_some_iff.mp h).1
 have e:rows[i] = r:=by rw [List.getElem?_eq_getElem hi] at h; exact Option.some.inj h
 unfold plN
 rw [List.take_succ_eq_append_getElem hi,List.filter_append,List.length_append,e]
 cases hb:yL r.k <;> simp [hb]
theorem zag:∀ (rows:List Rw) (i:Nat) (acc:List (Key × V)),(yu i acc rows).length<=acc.length + rows.length
 | [],_,_=>Nat.le_refl _
 | r :: rs,i,acc=>by
  have h:=zag rs (i + 1) (if z5 r.k = true then yf acc (.inr r.z) (.int i) else acc)
  have h2:(if z5 r.k = true then yf acc (.inr r.z) (.int i) else acc).length<=acc.length + 1:=by
   split
   ·exact xk acc _ _
   ·omega
  show (yu (i + 1) _ rs).length<=acc.length + (rs.length + 1)
  omega
theorem je {r:Rw}:∀ (rows:List Rw) (j i:Nat) (acc:List (Key × V)),rows[i]? = some r->yu j acc (rows.take (i + 1)) = (if z5 r.k = true then yf (yu j acc (rows.take i)) (.inr r.z) (.int (j + i:Nat)) else yu j acc (rows.take i))
 | [],_,_,_,h=>by simp at h
 | r0 :: rs,j,0,acc,h=>by
  have e:r0 = r:=by simpa using h
  subst e
  show (if z5 r0.k = true then yf acc (.inr r0.z) (.int j) else acc) = _
  rfl
 | r0 :: rs,j,i + 1,acc,h=>by
  have:=je rs (j + 1) i (if z5 r0.k = true then yf acc (.inr r0.z) (.int j) else acc) (by simpa using h)
  show yu (j + 1) _ (rs.take (i + 1)) = _
  rw [this,show j + 1 + i = j + (i + 1) by omega]
  rfl
section
variable {P:Program} {w:World} {K:Frag} {mg:Str->Option Value} {base:Heap} {f G sg CF:Addr} {fd:FuncData} {c:C5} {m:MA}
theorem PAt.ne {H:Hp} {p f CF dx:Addr} {r:Rw} {fs:List (Str × V)} (h:PAt c H p r) (e:H f = some (.ins CF dx fs)) (n:fs.lookup ("word" : Str) = none):p ≠ f:=fun z=>by
 obtain ⟨d,h⟩:=h
 rw [z,e] at h
 injection h with h
 injection h with h1 h2 h3
 rw [h3,vU] at n
 cases n
theorem vW {H H':Hp} {f CF dx:Addr} {fs:List (Str × V)} (e:H f = some (.ins CF dx fs)) (n:fs.lookup ("word" : Str) = none) (x:SX f H H') {ps:List Addr} {rows:List Rw} (h:Paired (PAt c H) ps rows):Paired (PAt c H') ps rows:=
 Paired.imp' (fun _ _ z=>by
  have ne:=z.ne e n
  obtain ⟨d,q⟩:=z
  exact ⟨d,x _ _ q ne⟩) h
theorem zjt:([Str.ofString "at",Str.ofString "parameter"]:List Str).Nodup:=by decide +kernel
theorem zh0:zu ["self","parameters","bars"] ["self","parameters","bars"] (ze qF):=⟨rfl,rfl,rfl,by decide +kernel,rfl,by decide +kernel,by decide +kernel⟩
theorem zgU {g:Addr} {gd gp gb:FuncData} (F:Fun K "keep" "Form.keep" qF f fd) (T:zb3 w K mg G sg) (PP:Pcs K m c) (FK:FC K CF) (cW:zp P w K mg base 1 "number_of_word" g gd ["parameters","word"] (zhV c))
  (GP:zE P w K mg base CX0 1 m.fP gp ["self"] (zaC K m bpL)) (bP:zS K gp ["self"] []) (GB:zE P w K mg base CX0 1 m.fB gb ["self"] (zaC K m bnL)) (bB:zS K gb ["self"] []):zE P w K mg base CX0 2 f fd ["self","parameters","bars"] (zcg c CF):=by
 refine F.ok zh0 (fun vs H Q E h=>?_) (fun cdv A outer s H vs Q E hr h=>?_)
 ·obtain ⟨f,a,b,dx,fs,ps,rows,bars,rfl,_⟩:=h
  rfl
 obtain ⟨f,a,b,dx,fs,ps,rows,bars,rfl,hf,⟨pl,pn⟩,ha,hp,hok,l5,hb,q⟩:=h
 have hP:∀ C,Cs5 c C->Cls K C/\y6 K C "by_place" m.fP:=fun C ⟨k,hk,e⟩=>by rw [e]; exact ⟨(PP k hk).cl,(PP k hk).mP⟩
 have hB:∀ C,Cs5 c C->Cls K C/\y6 K C "by_name" m.fB:=fun C ⟨k,hk,e⟩=>by rw [e]; exact ⟨(PP k hk).cl,(PP k hk).mB⟩
 have nw:fs.lookup ("word" : Str) = none:=pn _ (by decide +kernel)
 refine ⟨_,zd (wu (pv 0) (cTy yF T.lst PyProof.Rows.boot_list (ac (pv 1) zc)) rfl)
  (zd (wu (pv 0) (cTy yF T.lst PyProof.Rows.boot_list (ac (pv 2) zc)) rfl)
  (zd (wu (pv 0) (cB zB T.len PySem.boot_len (ac (xp [] ["parameter"] [none] rfl ⟨rfl,rfl,rfl,rfl⟩ (z6 (yO (pv 0) rfl)) (zW 0) rfl rfl rfl
    (fun pins fp s H C=>⟨zn (i:=0) zjl rfl (Or.inl rfl) (.inr rfl),yq (yr (vV (pv 0) hP GP hr bP y7)),pv 0⟩)) zc)) rfl)
  (zd (wu (pv 0) (cF cW hr (ac (yO (pv 0) rfl) (ac zl zc))) rfl)
  (zd (wu (pv 0) (cF cW hr (ac (yO (pv 0) rfl) (ac zl zc))) rfl)
  (zh (wu (pv 0) (zjf [] ["at","parameter"] [none,none] rfl ⟨rfl,rfl,rfl,rfl⟩ (xc rfl T.en (ac (yO (pv 0) rfl) zc)) (y4 (K:=K) (n:=2) 0 1) rfl rfl rfl
    (fun pins fp s H C=>⟨yp rfl (zv (zn (i:=0) zjt rfl (Or.inl rfl) (.inr rfl)) (zv (zn (i:=1) zjt rfl (Or.inl rfl) (.inr rfl)) z7)),yq (yr (vV (pv 1) hB GB hr bB y7)),zdn (K:=K) rfl (pv 1) rfl,pv 0⟩)) rfl)))))),?_⟩
 refine ⟨_,rfl,a,_,rfl,.inl (SqL.of ha),fun l1 hl1=>?_⟩
 have s1:=zb hl1 (.lst (ps.map V.ref))
 refine ⟨_,rfl,f,CF,dx,fs,rfl,s1 _ _ hf,FK.cl,FK.n1,(by omega),?_⟩
 have x1:SX f H (upd (upd H l1 (.lst (ps.map V.ref))) f (.ins CF dx (zT "row" (.ref l1) fs))):=(SX.refl.same s1).upd
 have f1:upd (upd H l1 (.lst (ps.map V.ref))) f (.ins CF dx (zT "row" (.ref l1) fs)) f = some (.ins CF dx (zT "row" (.ref l1) fs)):=za
 have e1:upd (upd H l1 (.lst (ps.map V.ref))) f (.ins CF dx (zT "row" (.ref l1) fs)) l1 = some (.lst (ps.map V.ref)):=by
  rw [zi (fun z=>by rw [z,hf] at hl1; cases hl1),za]
 have p1:=wt "row" (.ref l1) fs
 have r1:(zT "row" (.ref l1) fs).lookup ("row" : Str) = some (.ref l1):=by rw [zj,if_pos rfl]
 show xS _ _ _ _ (upd (upd H l1 (.lst (ps.map V.ref))) f (.ins CF dx (zT "row" (.ref l1) fs)))
 generalize upd (upd H l1 (.lst (ps.map V.ref))) f (.ins CF dx (zT "row" (.ref l1) fs)) = H1 at x1 f1 e1 |-
 have nbf:b ≠ f:=xC hb hf (by intro z; cases z)
 refine ⟨_,rfl,b,_,rfl,.inl (SqL.of (x1 _ _ hb nbf)),fun l2 hl2=>?_⟩
 have s2:=zb hl2 (.lst (bars.map V.str))
 have hlb:H l2 = none:=by
  cases e:H l2 with
  | none=>rfl
  | some u=>exact absurd (x1 _ _ e (fun z=>by rw [z,f1] at hl2; cases hl2)) (by rw [hl2]; intro z; cases z)
 refine ⟨_,rfl,f,CF,dx,_,rfl,s2 _ _ f1,FK.cl,FK.n2,(by omega),?_⟩
 have x2:SX f H (upd (upd H1 l2 (.lst (bars.map V.str))) f (.ins CF dx (zT "bar_names" (.ref l2) (zT "row" (.ref l1) fs)))):=(x1.same s2).upd
 have f2:upd (upd H1 l2 (.lst (bars.map V.str))) f (.ins CF dx (zT "bar_names" (.ref l2) (zT "row" (.ref l1) fs))) f = some (.ins CF dx (zT "bar_names" (.ref l2) (zT "row" (.ref l1) fs))):=za
 have g2:upd (upd H1 l2 (.lst (bars.map V.str))) f (.ins CF dx (zT "bar_names" (.ref l2) (zT "row" (.ref l1) fs))) l2 = some (.lst (bars.map V.str)):=by
  rw [zi (fun z=>by rw [z,f1] at hl2; cases hl2),za]
 have e2:upd (upd H1 l2 (.lst (bars.map V.str))) f (.ins CF dx (zT "bar_names" (.ref l2) (zT "row" (.ref l1) fs))) l1 = some (.lst (ps.map V.ref)):=by
  rw [zi (xC e1 f1 (by intro z; cases z)),s2 _ _ e1]
 have p2:=wt "bar_names" (.ref l2) (zT "row" (.ref l1) fs)
 have r2:(zT "bar_names" (.ref l2) (zT "row" (.ref l1) fs)).lookup ("row" : Str) = some (.ref l1):=by rw [zj,if_neg (by decide +kernel)]; exact r1
 show xS _ _ _ _ (upd (upd H1 l2 (.lst (bars.map V.str))) f (.ins CF dx (zT "bar_names" (.ref l2) (zT "row" (.ref l1) fs))))
 generalize hfs2:zT "bar_names" (.ref l2) (zT "row" (.ref l1) fs) = fs2 at f2 e2 g2 p2 r2 x2 |-
 generalize upd (upd H1 l2 (.lst (bars.map V.str))) f (.ins CF dx fs2) = H2 at x2 f2 e2 g2 |-
 have hp2:=vW hf nw x2 hp
 refine ⟨_,rfl,f,CF,dx,_,_,rfl,f2,FK.cl,FK.n1,r2,l1,rfl,⟨_,SqL.of e2⟩,fun D hD=>?_⟩
 refine ub (K:=K) (xs:=ps.map V.ref) (fun i ys H'=>zm H2 H'/\H' D = some (.lst ys)/\ys.length = plN (rows.take i)) ⟨zb hD _,za,rfl⟩ (fun i ys H' h=>SqL.of (h.1 _ _ e2)) ?_ ?_
 ·rintro i x ys H' hlt hx ⟨sH,hDy,ey⟩
  obtain ⟨pa,hpa,rfl⟩:=xm hx
  obtain ⟨r,hr',dx',hdx⟩:=yj hp2 hpa
  have rok:=hok r (List.mem_of_getElem? hr')
  have C:=PP r.k rok.1
  have nl:ys.length<=i:=by
   rw [ey]
   unfold plN
   refine Nat.le_trans (List.length_filter_le _ _) ?_
   rw [List.length_take]
   omega
  have hd2:=sH _ _ hdx
  refine ⟨_,rfl,pa,_,dx',_,rfl,⟨r.k,rok.1,rfl⟩,hd2,qQ (by decide +kernel) (by decide +kernel) (by decide +kernel),pa,dx',_,_,_,_,rfl,C,hd2,_,rfl,?_⟩
  rw [zfW r.k rok.1]
  have tk:=zgC hr'
  refine ⟨fun e=>?_,fun e=>?_⟩
  ·rw [e,if_pos rfl] at tk
   refine ⟨_,rfl,lcN.mk hlt (ye (by rw [List.length_map,hp.length]; omega)) hDy nl ⟨fun b u e=>?_,za,?_⟩⟩
   ·rw [zi (zf e hD)]
    exact sH b u e
   ·rw [List.length_append,ey,tk]
    rfl
  ·rw [e,if_neg Bool.false_ne_true] at tk
   exact lcS.mk hlt ⟨sH,hDy,by rw [ey,tk]; rfl⟩
 rintro ys H3 ⟨s3,hDy,ey⟩
 rw [List.length_map,hp.length,List.take_length] at ey
 refine ⟨D,_,rfl,.inl (SqL.of hDy),?_⟩
 rw [ey]
 have x3:=x2.same s3
 refine ⟨_,rfl,f,CF,dx,_,rfl,s3 _ _ f2,FK.cl,FK.n3,(by omega),?_⟩
 have f3:upd H3 f (.ins CF dx (zT "place_count" (.int (plN rows:Nat)) fs2)) f = some (.ins CF dx (zT "place_count" (.int (plN rows:Nat)) fs2)):=za
 have x4:SX f H (upd H3 f (.ins CF dx (zT "place_count" (.int (plN rows:Nat)) fs2))):=x3.upd
 have e4:upd H3 f (.ins CF dx (zT "place_count" (.int (plN rows:Nat)) fs2)) l1 = some (.lst (ps.map V.ref)):=by rw [zi (xC e2 f2 (by intro z; cases z))]; exact s3 _ _ e2
 have g4:upd H3 f (.ins CF dx (zT "place_count" (.int (plN rows:Nat)) fs2)) l2 = some (.lst (bars.map V.str)):=by rw [zi (xC g2 f2 (by intro z; cases z))]; exact s3 _ _ g2
 have p3:=wt "place_count" (.int (plN rows:Nat)) fs2
 have r3:(zT "place_count" (.int (plN rows:Nat)) fs2).lookup ("row" : Str) = some (.ref l1):=by rw [zj,if_neg (by decide +kernel)]; exact r2
 show xS _ _ _ _ (upd H3 f (.ins CF dx (zT "place_count" (.int (plN rows:Nat)) fs2)))
 generalize hfs3:zT "place_count" (.int (plN rows:Nat)) fs2 = fs3 at f3 x4 e4 g4 p3 r3 |-
 generalize upd H3 f (.ins CF dx fs3) = H4 at x4 f3 e4 g4 |-
 refine ⟨_,rfl,f,CF,dx,_,_,rfl,f3,FK.cl,FK.n1,r3,l1,ps,rows,2,rfl,by decide,e4,vW hf nw x4 hp,hok,fun H5 s5=>?_⟩
 refine ⟨_,rfl,f,CF,dx,_,rfl,s5 _ _ f3,FK.cl,FK.n4,(by omega),?_⟩
 have f5:upd H5 f (.ins CF dx (zT "tail_number" (xT (zD 2 0 rows)) fs3)) f = some (.ins CF dx (zT "tail_number" (xT (zD 2 0 rows)) fs3)):=za
 have x5:SX f H (upd H5 f (.ins CF dx (zT "tail_number" (xT (zD 2 0 rows)) fs3))):=(x4.same s5).upd
 have e5:upd H5 f (.ins CF dx (zT "tail_number" (xT (zD 2 0 rows)) fs3)) l1 = some (.lst (ps.map V.ref)):=by rw [zi (xC e4 f3 (by intro z; cases z))]; exact s5 _ _ e4
 have g5:upd H5 f (.ins CF dx (zT "tail_number" (xT (zD 2 0 rows)) fs3)) l2 = some (.lst (bars.map V.str)):=by rw [zi (xC g4 f3 (by intro z; cases z))]; exact s5 _ _ g4
 have p4:=wt "tail_number" (xT (zD 2 0 rows)) fs3
 have r4:(zT "tail_number" (xT (zD 2 0 rows)) fs3).lookup ("row" : Str) = some (.ref l1):=by rw [zj,if_neg (by decide +kernel)]; exact r3
 show xS _ _ _ _ (upd H5 f (.ins CF dx (zT "tail_number" (xT (zD 2 0 rows)) fs3)))
 generalize hfs4:zT "tail_number" (xT (zD 2 0 rows)) fs3 = fs4 at f5 x5 e5 g5 p4 r4 |-
 generalize upd H5 f (.ins CF dx fs4) = H6 at x5 f5 e5 g5 |-
 refine ⟨_,rfl,f,CF,dx,_,_,rfl,f5,FK.cl,FK.n1,r4,l1,ps,rows,4,rfl,by decide,e5,vW hf nw x5 hp,hok,fun H7 s7=>?_⟩
 refine ⟨_,rfl,f,CF,dx,_,rfl,s7 _ _ f5,FK.cl,FK.n5,(by omega),?_⟩
 have f7:upd H7 f (.ins CF dx (zT "bag_number" (xT (zD 4 0 rows)) fs4)) f = some (.ins CF dx (zT "bag_number" (xT (zD 4 0 rows)) fs4)):=za
 have x7:SX f H (upd H7 f (.ins CF dx (zT "bag_number" (xT (zD 4 0 rows)) fs4))):=(x5.same s7).upd
 have e7:upd H7 f (.ins CF dx (zT "bag_number" (xT (zD 4 0 rows)) fs4)) l1 = some (.lst (ps.map V.ref)):=by rw [zi (xC e5 f5 (by intro z; cases z))]; exact s7 _ _ e5
 have g7:upd H7 f (.ins CF dx (zT "bag_number" (xT (zD 4 0 rows)) fs4)) l2 = some (.lst (bars.map V.str)):=by rw [zi (xC g5 f5 (by intro z; cases z))]; exact s7 _ _ g5
 have p5:=wt "bag_number" (xT (zD 4 0 rows)) fs4
 have r5:(zT "bag_number" (xT (zD 4 0 rows)) fs4).lookup ("row" : Str) = some (.ref l1):=by rw [zj,if_neg (by decide +kernel)]; exact r4
 generalize hfs5:zT "bag_number" (xT (zD 4 0 rows)) fs4 = fs5 at f7 x7 e7 g7 p5 r5 |-
 generalize upd H7 f (.ins CF dx fs5) = H8 at x7 f7 e7 g7 |-
 have hp8:=vW hf nw x7 hp
 refine ⟨_,rfl,f,CF,dx,_,_,rfl,f7,FK.cl,FK.n1,r5,l1,rfl,⟨_,SqL.of e7⟩,fun D2 hD2=>?_⟩
 refine zhf (K:=K) (xs:=ps.map V.ref) (fun i ys H'=>zm H8 H'/\H' D2 = some (.dK ys)/\ys = yu 0 [] (rows.take i)) ⟨zb hD2 _,za,rfl⟩ (fun i ys H' h=>SqL.of (h.1 _ _ e7)) ?_ ?_
 ·rintro i x p ys H' hlt hx ⟨sH,hDy,ey⟩ hpn
  obtain ⟨pa,hpa,rfl⟩:=xm hx
  obtain ⟨r,hr',dx',hdx⟩:=yj hp8 hpa
  have rok:=hok r (List.mem_of_getElem? hr')
  have C:=PP r.k rok.1
  have sp:=zb hpn (.tup [.int (i:Nat),.ref pa])
  have hd2:=sp _ _ (sH _ _ hdx)
  have hDp:upd H' p (.tup [.int (i:Nat),.ref pa]) D2 = some (.dK ys):=by rw [zi (zf hDy hpn)]; exact hDy
  have nl:ys.length<=i:=by
   rw [ey]
   refine Nat.le_trans (zag _ _ _) ?_
   rw [List.length_take]
   show 0 + _<=i
   omega
  refine ⟨p,_,rfl,SqT.of za,rfl,_,_,rfl,_,_,rfl,rfl,?_⟩
  refine ⟨_,rfl,pa,_,dx',_,rfl,⟨r.k,rok.1,rfl⟩,hd2,qQ (by decide +kernel) (by decide +kernel) (by decide +kernel),pa,dx',_,_,_,_,rfl,C,hd2,_,rfl,?_⟩
  rw [ug r.k rok.1]
  have tk:=je rows 0 i [] hr'
  refine ⟨fun e=>?_,fun e=>?_⟩
  ·rw [e,if_pos rfl] at tk
   refine ⟨_,rfl,pa,_,dx',_,_,rfl,hd2,C.cl,C.nN,jp,_,rfl,dcN.mk (.inr r.z) hlt rfl (ye (by rw [List.length_map,hp.length]; omega)) hDp nl ⟨fun b u e=>?_,za,?_⟩⟩
   ·rw [zi (zf e hD2)]
    exact sp _ _ (sH b u e)
   ·rw [tk,<- ey,Nat.zero_add]
  ·rw [e,if_neg Bool.false_ne_true] at tk
   exact dcS.mk hlt ⟨sH.trans sp,hDp,by rw [ey,tk]⟩
 rintro ys H9 ⟨s9,hDy,ey⟩
 rw [List.length_map,hp.length,List.take_length] at ey
 refine ⟨_,rfl,f,CF,dx,_,rfl,s9 _ _ f7,FK.cl,FK.n6,(by omega),?_⟩
 have nf:∀ {x:Addr} {o:HO},H9 x = some o->(∀ C d g,o ≠ .ins C d g)->upd H9 f (.ins CF dx (zT "doors" (.ref D2) fs5)) x = some o:=fun {x o} e n=>by
  rw [zi (xC e (s9 _ _ f7) (by intro z; exact n _ _ _ z))]
  exact e
 refine q _ (x7.same s9).upd ⟨dx,_,l1,l2,D2,ps,za,?_,nf (s9 _ _ e7) (by intro _ _ _ z; cases z),vW hf nw (x7.same s9).upd hp,nf (s9 _ _ g7) (by intro _ _ _ z; cases z),nf (by rw [hDy,ey]) (by intro _ _ _ z; cases z),hl1,hlb⟩ ⟨dx,_,za,Nat.le_trans (wt _ _ _) (by omega)⟩
 rw [<- hfs5,<- hfs4,<- hfs3,<- hfs2]
 refine ⟨?_,?_,?_,?_,?_,?_,fun mm hm=>?_⟩
 ·rw [zj,if_neg (by decide +kernel),zj,if_neg (by decide +kernel),zj,if_neg (by decide +kernel),zj,if_neg (by decide +kernel),zj,if_neg (by decide +kernel),zj,if_pos rfl]
 ·rw [zj,if_neg (by decide +kernel),zj,if_neg (by decide +kernel),zj,if_neg (by decide +kernel),zj,if_neg (by decide +kernel),zj,if_pos rfl]
 ·rw [zj,if_neg (by decide +kernel),zj,if_neg (by decide +kernel),zj,if_neg (by decide +kernel),zj,if_pos rfl]
 ·rw [zj,if_neg (by decide +kernel),zj,if_neg (by decide +kernel),zj,if_pos rfl]
 ·rw [zj,if_neg (by decide +kernel),zj,if_pos rfl]
 ·rw [zj,if_pos rfl]
 ·have h':∀ a ∈ zgb,¬ mm = a:=fun a ha e=>hm (e ▸ ha)
  rw [zj,if_neg (h' _ (by decide +kernel)),zj,if_neg (h' _ (by decide +kernel)),zj,if_neg (h' _ (by decide +kernel)),zj,if_neg (h' _ (by decide +kernel)),zj,if_neg (h' _ (by decide +kernel)),zj,if_neg (h' _ (by decide +kernel))]
  exact pn mm hm
end
def zeX (c:C5) (CF:Addr):Sp:=fun vs H Q _=>∃ (f a dx:Addr) (bv:V) (ps:List Addr) (rows:List Rw) (bars:List Str),vs = [.ref f,.ref a,bv]/\H f = some (.ins CF dx [])/\H a = some (.lst (ps.map V.ref))/\Paired (PAt c H) ps rows/\((bv = .non/\bars = [])\/∃ b,bv = .ref b/\H b = some (.lst (bars.map V.str)))/\yR rows bars/\
 ∀ H',SX f H H'->qg c CF H H' f rows bars->(∃ dx' fs',H' f = some (.ins CF dx' fs')/\fs'.length<=6)->Q .non H'
def jz (c:C5) (CF:Addr):Sp:=fun vs H Q _=>∃ (f:Addr) (rows:List Rw) (bars:List Str),vs = [.ref f]/\xi c CF H f rows bars/\∀ (l:Addr) (ps:List Addr) (H':Hp),zm H H'->H l = none->H' l = some (.lst (ps.map V.ref))->Paired (PAt c H') ps rows->Q (.ref l) H'
def zck (c:C5) (CF:Addr):Sp:=fun vs H Q _=>∃ (f:Addr) (rows:List Rw) (bars:List Str),vs = [.ref f]/\xi c CF H f rows bars/\∀ (l:Addr) (H':Hp),zm H H'->H l = none->H' l = some (.lst (bars.map V.str))->Q (.ref l) H'
def wM (c:C5) (CF:Addr):Sp:=fun vs H Q _=>∃ (f:Addr) (rows:List Rw) (bars:List Str),vs = [.ref f]/\xi c CF H f rows bars/\Q (.int (plN rows:Nat)) H
def wL (c:C5) (CF:Addr) (kk:Nat):Sp:=fun vs H Q _=>∃ (f:Addr) (rows:List Rw) (bars:List Str),vs = [.ref f]/\xi c CF H f rows bars/\Q (xT (zD kk 0 rows)) H
def zc8 (c:C5) (CF:Addr):Sp:=fun vs H Q _=>∃ (f:Addr) (z:Str) (rows:List Rw) (bars:List Str),vs = [.ref f,.str z]/\xi c CF H f rows bars/\Q ((zL (yu 0 [] rows) (.inr z)).getD .non) H
def TAt (H:Hp) (u:Addr) (r:Rw):Prop:=H u = some (.tup (rv r))
theorem zK {H H':Hp} {us:List Addr} {rows:List Rw} (s:zm H H') (h:Paired (TAt H) us rows):Paired (TAt H') us rows:=Paired.imp' (fun _ _ z=>s _ _ z) h
section
variable {P:Program} {w:World} {K:Frag} {mg:Str->Option Value} {base:Heap} {f G sg CF:Addr} {fd:FuncData} {c:C5} {m:MA}
theorem zde:zu ["self","parameters","bars","names"] ["self","parameters","bars"] (ze uL):=⟨rfl,rfl,rfl,by decide +kernel,rfl,by decide +kernel,by decide +kernel⟩
theorem zfE {ds:List Value} {g1 g2 g3 g4 g5:Addr} {e1 e2 e3 e4 e5:FuncData} (F:qe K "__init__" "Form.__init__" uL f fd ds) (FK:FC K CF) (mK:y6 K CF "keep" g5)
  (cM:zp P w K mg base 1 "refuse_too_many" g1 e1 ["parameters","bars"] (zcd K)) (cO:zp P w K mg base 1 "refuse_bad_order" g2 e2 ["parameters"] (zeW c)) (cB':zp P w K mg base 2 "refuse_bars_without_name" g3 e3 ["bars"] zhT) (cT:zp P w K mg base 2 "refuse_twice" g4 e4 ["parameters","bars"] (zhS c))
  (GK:zE P w K mg base CX0 2 g5 e5 ["self","parameters","bars"] (zcg c CF)) (bK:zS K e5 ["self","parameters","bars"] []):zE P w K mg base CX0 3 f fd ["self","parameters","bars"] (zeX c CF):=by
 refine F.ok zde (fun vs H Q E h=>?_) (fun cdv A outer s H vs Q E hr h=>?_)
 ·obtain ⟨f,a,dx,bv,ps,rows,bars,rfl,_⟩:=h
  rfl
 obtain ⟨f,a,dx,bv,ps,rows,bars,rfl,hf,ha,hp,hb,V',q⟩:=h
 have hr1:z8 1 _:=hr.mono (by decide)
 refine ⟨_,zd (zw (i:=3) zde.nd rfl (Or.inl rfl) (zbp (vA (zaN (pv 2))) (zM zc) (pv 2)))
  (zd (zJ (cF cM hr1 (ac (pv 1) (ac (pv 3) zc))))
  (zd (zJ (cF cO hr1 (ac (pv 1) zc)))
  (zd (zJ (cF cB' hr (ac (pv 3) zc)))
  (zd (zJ (cF cT hr (ac (pv 1) (ac (pv 3) zc))))
  (zh (zJ (zaM (pv 0) FK.cl mK GK hr bK .nil y7 (ac (pv 1) (ac (pv 3) zc))))))))),?_⟩
 try dsimp only
 refine yP (fun σ' H'=>∃ b,σ' = [some (.ref f),some (.ref a),some bv,some (.ref b)]/\zm H H'/\H' b = some (.lst (bars.map V.str))) ?_ (fun key=>?_)
 rotate_left
 ·rcases hb with ⟨rfl,rfl⟩ | ⟨b,rfl,hb⟩
  ·refine ⟨_,rfl,_,rfl,?_⟩
   refine dT rfl ?_
   refine ⟨zz0,fun l hl=>?_⟩
   exact key _ _ ⟨l,rfl,zb hl _,za⟩
  ·refine ⟨_,rfl,_,rfl,?_⟩
   refine dF (by intro z; cases z) ?_
   exact ⟨_,rfl,key _ _ ⟨b,rfl,zm.refl _,hb⟩⟩
 rintro σ1 H1 ⟨b,rfl,s1,hb1⟩
 have ha1:=s1 _ _ ha
 refine ⟨_,rfl,_,rfl,a,b,_,_,rfl,SqL.of ha1,SqL.of hb1,(by rw [List.length_map,hp.length]; exact V'.l24),(by rw [List.length_map]; exact V'.l60),?_⟩
 refine ⟨_,rfl,a,ps,rows,rfl,ha1,xu s1 hp,V'.ok,V'.ord,fun H2 s2=>?_⟩
 refine ⟨_,rfl,b,bars,rfl,s2 _ _ hb1,V'.bn,fun H3 s3=>?_⟩
 have s13:=s1.trans (s2.trans s3)
 refine ⟨_,rfl,_,rfl,a,b,ps,rows,bars,rfl,s13 _ _ ha,xu s13 hp,V'.ok,Nat.le_trans V'.l24 (by decide),s3 _ _ (s2 _ _ hb1),Nat.le_trans V'.l60 (by decide),V'.nd,fun H4 s4=>?_⟩
 have s14:=s13.trans s4
 refine ⟨_,rfl,f,dx,_,rfl,s14 _ _ hf,rfl,_,rfl,_,rfl,f,a,b,dx,[],ps,rows,bars,rfl,s14 _ _ hf,⟨by decide,fun _ _=>rfl⟩,s14 _ _ ha,xu s14 hp,V'.ok,Nat.le_trans V'.l24 (by decide),s4 _ _ (s3 _ _ (s2 _ _ hb1)),fun H5 x5 F5 L5=>?_⟩
 exact q _ (fun b' u e n=>x5 b' u (s14 _ _ e) n) (F5.of s14) L5
theorem zgv:zu ["self"] ["self"] (ze uK):=⟨rfl,rfl,rfl,by decide +kernel,rfl,by decide +kernel,by decide +kernel⟩
theorem zfD (F:Fun K "parameters" "Form.parameters" uK f fd) (T:zb3 w K mg G sg) (FK:FC K CF):zE P w K mg base CX0 1 f fd ["self"] (jz c CF):=by
 refine F.ok zgv (fun vs H Q E h=>?_) (fun cdv A outer s H vs Q E hr h=>?_)
 ·obtain ⟨f,rows,bars,rfl,_⟩:=h
  rfl
 obtain ⟨f,rows,bars,rfl,⟨dx,fs,lr,lb,ld,ps,h1,h2,h3,h4,h5,h6⟩,q⟩:=h
 refine ⟨_,zh (zA (cTy yF T.lst PyProof.Rows.boot_list (ac (yO (pv 0) rfl) zc))),?_⟩
 refine ⟨_,rfl,f,CF,dx,_,_,rfl,h1,FK.cl,FK.n1,h2.row,lr,_,rfl,.inl (SqL.of h3),fun l hl=>?_⟩
 have s1:=zb hl (.lst (ps.map V.ref))
 exact q l ps _ s1 hl za (xu s1 h4)
theorem zgw:zu ["self"] ["self"] (ze uM):=⟨rfl,rfl,rfl,by decide +kernel,rfl,by decide +kernel,by decide +kernel⟩
theorem zfF (F:Fun K "bars" "Form.bars" uM f fd) (T:zb3 w K mg G sg) (FK:FC K CF):zE P w K mg base CX0 1 f fd ["self"] (zck c CF):=by
 refine F.ok zgw (fun vs H Q E h=>?_) (fun cdv A outer s H vs Q E hr h=>?_)
 ·obtain ⟨f,rows,bars,rfl,_⟩:=h
  rfl
 obtain ⟨f,rows,bars,rfl,⟨dx,fs,lr,lb,ld,ps,h1,h2,h3,h4,h5,h6⟩,q⟩:=h
 refine ⟨_,zh (zA (cTy yF T.lst PyProof.Rows.boot_list (ac (yO (pv 0) rfl) zc))),?_⟩
 refine ⟨_,rfl,f,CF,dx,_,_,rfl,h1,FK.cl,FK.n2,h2.bn,lb,_,rfl,.inl (SqL.of h5),fun l hl=>?_⟩
 exact q l _ (zb hl _) hl za
theorem zdS:zu ["self"] ["self"] (ze wf):=⟨rfl,rfl,rfl,by decide +kernel,rfl,by decide +kernel,by decide +kernel⟩
theorem zcu (F:Fun K "places" "Form.places" wf f fd) (FK:FC K CF):zE P w K mg base CX0 1 f fd ["self"] (wM c CF):=by
 refine F.ok zdS (fun vs H Q E h=>?_) (fun cdv A outer s H vs Q E hr h=>?_)
 ·obtain ⟨f,rows,bars,rfl,_⟩:=h
  rfl
 obtain ⟨f,rows,bars,rfl,⟨dx,fs,lr,lb,ld,ps,h1,h2,h3,h4,h5,h6⟩,q⟩:=h
 exact ⟨_,zh (zA (yO (pv 0) rfl)),_,rfl,f,CF,dx,_,_,rfl,h1,FK.cl,FK.n3,h2.pc,q⟩
theorem zgu:zu ["self"] ["self"] (ze uJ):=⟨rfl,rfl,rfl,by decide +kernel,rfl,by decide +kernel,by decide +kernel⟩
theorem zfC (F:Fun K "tail" "Form.tail" uJ f fd) (FK:FC K CF):zE P w K mg base CX0 1 f fd ["self"] (wL c CF 2):=by
 refine F.ok zgu (fun vs H Q E h=>?_) (fun cdv A outer s H vs Q E hr h=>?_)
 ·obtain ⟨f,rows,bars,rfl,_⟩:=h
  rfl
 obtain ⟨f,rows,bars,rfl,⟨dx,fs,lr,lb,ld,ps,h1,h2,h3,h4,h5,h6⟩,q⟩:=h
 exact ⟨_,zh (zA (yO (pv 0) rfl)),_,rfl,f,CF,dx,_,_,rfl,h1,FK.cl,FK.n4,h2.tn,q⟩
theorem zh4:zu ["self"] ["self"] (ze qK):=⟨rfl,rfl,rfl,by decide +kernel,rfl,by decide +kernel,by decide +kernel⟩
theorem zgZ (F:Fun K "bag" "Form.bag" qK f fd) (FK:FC K CF):zE P w K mg base CX0 1 f fd ["self"] (wL c CF 4):=by
 refine F.ok zh4 (fun vs H Q E h=>?_) (fun cdv A outer s H vs Q E hr h=>?_)
 ·obtain ⟨f,rows,bars,rfl,_⟩:=h
  rfl
 obtain ⟨f,rows,bars,rfl,⟨dx,fs,lr,lb,ld,ps,h1,h2,h3,h4,h5,h6⟩,q⟩:=h
 exact ⟨_,zh (zA (yO (pv 0) rfl)),_,rfl,f,CF,dx,_,_,rfl,h1,FK.cl,FK.n5,h2.bg,q⟩
theorem zh3:zu ["self","name"] ["self","name"] (ze qJ):=⟨rfl,rfl,rfl,by decide +kernel,rfl,by decide +kernel,by decide +kernel⟩
theorem zgX (F:Fun K "number_of" "Form.number_of" qJ f fd) (FK:FC K CF):zE P w K mg base CX0 1 f fd ["self","name"] (zc8 c CF):=by
 refine F.ok zh3 (fun vs H Q E h=>?_) (fun cdv A outer s H vs Q E hr h=>?_)
 ·obtain ⟨f,z,rows,bars,rfl,_⟩:=h
  rfl
 obtain ⟨f,z,rows,bars,rfl,⟨dx,fs,lr,lb,ld,ps,h1,h2,h3,h4,h5,h6⟩,q⟩:=h
 refine ⟨_,zh (zA (zfh (qZ hr) (yO (pv 0) rfl) (pv 1) ⟨rfl,rfl,rfl,rfl⟩)),?_⟩
 refine ⟨_,rfl,f,CF,dx,_,_,rfl,h1,FK.cl,FK.n6,h2.dr,ld,rfl,?_,_,rfl,_,.inl ⟨_,.inr z,.inl h6,rfl,rfl⟩,q⟩
 exact .inl ⟨_,.inl h6⟩
end
end K22
namespace L2
open PySem PySem.Spec PyProof.Rows
section
variable {X:Cx} {pins:List (Addr × Obj)} {σ : St} {H:Hp} {s:Shared}
theorem Inv.freeze (I:Inv X pins σ H s) {l:Addr} {kvs:List (Key × V)} (hl:H l = some (.dK kvs)):∃ o,s.heap.get? l = some o/\Inv X pins σ (upd H l (.frz o (.dK kvs))) s:=by
 obtain ⟨hz,hy,vs,r,o,es,ep,ho,c⟩:=id (I.hok l _ hl)
 refine ⟨o,ho,⟨I.ok,I.os,I.bare,⟨I.base.keep,I.base.slot,fun b u e n x=>?_,I.base.there,fun b xs e=>?_,fun b u v e=>?_,fun b ps e=>?_⟩,I.loc,I.cell,?_,fun x c e=>?_,fun p hp'=>?_,fun b u e=>?_,I.len⟩⟩
 ·have e1:=I.base.free b u e n x
  rw [zi (zf hl e1).symm]; exact e1
 ·have e1:=I.base.tups b xs e
  rw [zi (xC e1 hl (by intro z; cases z))]; exact e1
 ·have e1:=I.base.frzs b u v e
  rw [zi (xC e1 hl (by intro z; cases z))]; exact e1
 ·obtain ⟨more,e1⟩:=I.base.tbls b ps e
  exact ⟨more,by rw [zi (xC e1 hl (by intro z; cases z))]; exact e1⟩
 ·rw [zi (zf hl I.free).symm]; exact I.free
 ·rw [zi (zf hl (I.freeC x c e)).symm]; exact I.freeC x c e
 ·obtain ⟨q1,q2,q3⟩:=I.pin p hp'
  exact ⟨q1,by rw [zi (zf hl q2).symm]; exact q2,q3⟩
 ·have ho':∀ c,∀ b,H b = some (.own c)->upd H l (.frz o (.dK kvs)) b = some (.own c):=fun c b q=>by rw [zi (xC q hl (by intro z; cases z))]; exact q
  have ht':∀ b xs,H b = some (.tup xs)->upd H l (.frz o (.dK kvs)) b = some (.tup xs):=fun b xs q=>by rw [zi (xC q hl (by intro z; cases z))]; exact q
  by_cases hb:b = l
  ·subst hb; rw [za] at e; cases e
   exact ⟨ho,(I.hok b _ hl).stay (fun _ _ _ q=>q) (ho' b) ht'⟩
  ·rw [zi hb] at e
   exact (I.hok b u e).stay (fun _ _ _ q=>q) (ho' b) ht'
def zjR (te:TE):TE:=fun σ H Q=>te σ H fun x H1=>∃ l kvs,x = .ref l/\H1 l = some (.dK kvs)/\∀ o,Q x (upd H1 l (.frz o (.dK kvs)))
theorem zif {e:Expr} {te:TE} (h:PE X e te):PE X e (zjR te):=by
 refine ⟨?_⟩
 intro pins s σ H Q I hw
 refine thn (h pins s σ H _ I hw) fun v s1 ⟨x,H1,I1,r1,l,kvs,ex,hl,q⟩=>?_
 obtain ⟨o,_,I2⟩:=I1.freeze hl
 exact ⟨x,_,I2,r1,q o⟩
end
theorem zgy {k:Key} {u:Value} (h:jZ k u = true):zN (kV k) u:=by
 rcases yh h with ⟨i,t,rfl,rfl⟩ | ⟨x,t,rfl,rfl⟩
 ·exact ⟨t,rfl⟩
 ·exact ⟨t,rfl⟩
def Itd (d:Addr) (o:Obj) (kvs:List (Key × V)):It:=
 ⟨fun i H=>H d = some (.frz o (.dK kvs))/\i < kvs.length,fun i H x H'=>∃ (p:Addr) (k:Key) (v:V),x = .ref p/\H p = none/\kvs[i]? = some (k,v)/\H' = upd H p (.tup [kV k,v]),fun i H=>H d = some (.frz o (.dK kvs))/\kvs.length<=i⟩
theorem zf0 {X:Cx} {pins:List (Addr × Obj)} {σ : St} {H:Hp} {s:Shared} {d:Addr} {o:Obj} {kvs:List (Key × V)} {es:Array DictEntry} {ep:Nat} (I:Inv X pins σ H s) (hd:H d = some (.frz o (.dK kvs))) (ho:o.data = .dict es ep) :
  (d == sysModules) = false/\∃ vs,KV kvs vs/\s.heap.DictAt (zY X.prog X.w) d vs ep:=by
 obtain ⟨e,hz,hy,vs,r,o',es',ep',ho',c1,c2,c3⟩:=id (I.hok d _ hd)
 rw [e] at ho'
 cases ho'
 rw [ho] at c2
 cases c2
 exact ⟨hy,vs,r,o,es,e,c1,ho,c3⟩
theorem vm:entryFor table "dict_itemiterator.__iter__" = some Builtin.«dict_keyiterator.__iter__»:=entryFor_alias (id':="dict_keyiterator.__iter__") (by kernel_rfl) (by first | rfl | decide +kernel | (unfold String.splitOn; simp +decide [String.splitOnAux])) (by decide +kernel) (by kernel_rfl)
theorem wF {P:Program} {w:World} {A:Around} {E:Value->Shared->Prop} {s:Shared} {it d:Addr} {i n ep:Nat} {ok ov:Value} {Q:Value->Shared->Prop} (he:IsItemIter s.heap it d i n ep ok ov) (h:Q (.ref it) s):wpAny (model P w) A (pyIter (.ref it)) Q E s:=by
 have hT:s.TypeIs (.ref it) "dict_itemiterator":=⟨_,he,rfl⟩
 refine wpAny_pyIter_slot hT F.slot_dict_itemiterator_iter (wpAny_call_entry F.slot_dict_itemiterator_iter hT vm ?_ (F.args_dict_itemiterator_iter_1 _))
 show wpAny _ _ (ret (.ref it)) _ _ s
 exact wpAny_pure ⟨_,rfl,"dict_itemiterator",_,hT,F.slot_dict_itemiterator_next.lookup,h⟩
theorem zb8 {P:Program} {w:World} {K:Frag} {elts:List Expr} {x1:Nat} {tpos:Pos} (d it:Addr) (o:Obj) (kvs:List (Key × V)) (es:Array DictEntry) (ep:Nat) (ho:o.data = .dict es ep) :
  za6 P w K (.Tuple elts x1 tpos) (Itd d o kvs) [it] it (fun i h=>∃ ok ov,IsItemIter h it d i kvs.length ep ok ov) where
 mem:=by simp
 obj:=fun i h st b hb=>by
  have e':b = it:=by simpa using hb
  subst e'
  obtain ⟨ok,ov,hi⟩:=st
  exact ⟨_,hi,fun v q=>by cases q⟩
 keep:=fun i h h' st k=>by
  obtain ⟨ok,ov,hi⟩:=st
  exact ⟨ok,ov,k it (by simp) _ hi⟩
 item:=by
  intro X hP hw hK hc i pins s σ H E I hf st hg
  subst hP hw hK
  obtain ⟨f0,f1,f2,f3,f4,f5⟩:=hf it (by simp)
  obtain ⟨ok,ov,hit⟩:=st
  obtain ⟨hd,hlt⟩:=hg
  obtain ⟨hy,vs,r,hm⟩:=zf0 I hd ho
  have hl:kvs.length = vs.length:=r.length
  obtain ⟨⟨k2,u⟩,hu,ek,ru⟩:=Paired.get r (List.getElem?_eq_getElem hlt)
  rw [hl] at hit
  obtain ⟨k,v,hkv⟩:∃ k v,kvs[i] = (k,v):=⟨_,_,rfl⟩
  have ek:k = k2:=by rw [hkv] at ek; exact ek
  have ru2:zN v u:=by rw [hkv] at ru; exact ru
  subst ek
  refine wpAny_pyNext_items_item hit hm hu fun key h' hk2 he' htup hsz hkp=>?_
  have rk:zN (kV k) key:=zgy hk2
  have I0:Inv X pins σ H { s with heap:=h' }:=I.turned (t':=s.toks) (it:=it) hkp f0 f1 f3 f4 f5
  have hfr:H s.heap.objs.size = none:=I.hok.fresh (Nat.le_refl _)
  have I1:Inv X pins σ (upd H s.heap.objs.size (.tup [kV k,v])) { s with heap:=h' }:=by
   have hok:HOk X.prog X.w (upd H s.heap.objs.size (.tup [kV k,v])) h':=fun b o q=>by
    by_cases hb:b = s.heap.objs.size
    ·subst hb
     rw [za] at q; cases q
     exact ⟨by show 2<=sizeLine; decide,[key,u],.cons rk (.cons ru2 .nil),⟨_,htup,rfl,_,rfl⟩⟩
    ·rw [zi hb] at q
     exact (I0.hok b o q).stay (fun _ _ _ z=>z) (fun c z=>by rw [zi (zf z hfr)]; exact z) fun c xs' z=>by rw [zi (zf z hfr)]; exact z
   refine I0.step (s:={ s with heap:=h' }) (g':=s.gens) (d':=s.drawn) (h':=h') (t':=s.toks) (ch:=[s.heap.objs.size]) (fun b hb=>?_) (fun b o _ _ _ e1 _=>e1) (fun b o _ _ _ e1 _=>⟨o.slots,e1⟩) (fun b o hb e1 n=>by rw [zi (fun z=>hb (by simp [z]))]; exact n)
    (fun b o _ e1=>⟨o,e1⟩) (fun b xs' e1=>by rw [zi (zf e1 hfr)]; exact e1) (fun b o' u' e1=>by rw [zi (zf e1 hfr)]; exact e1) (fun b ps e1=>⟨#[],by rw [zi (zf e1 hfr),e1]; simp⟩) (fun m hm=>hm) hok I0.bare
   have e':b = s.heap.objs.size:=by simpa using hb
   subst e'
   refine ⟨.inr I.sz,fun z=>?_,fun y c h z=>?_,fun p hp' z=>?_⟩
   ·have:=I.lt; rw [<- z] at this; exact absurd this (Nat.lt_irrefl _)
   ·obtain ⟨v',hv⟩:=I.cell y c h
    have:=hv.lt; rw [z] at this; exact absurd this (Nat.lt_irrefl _)
   ·have:=I.pin_lt hp'; rw [z] at this; exact absurd this (Nat.lt_irrefl _)
  refine ⟨_,rfl,wpAny_letOwnedTupleGo_items he' fun h2 he2 hs2=>?_⟩
  have nis:s.heap.objs.size ≠ it:=fun z=>by
   have:=Heap.lt_size (show s.heap.get? it = some _ from hit)
   rw [<- z] at this; exact absurd this (Nat.lt_irrefl _)
  have I2:Inv X pins σ (upd H s.heap.objs.size (.tup [kV k,v])) { s with heap:=h2 }:=
   I1.turned (s:={ s with heap:=h' }) (t':=s.toks) (it:=it) (fun b o hb q=>(hs2.2 b hb).trans q) (by rw [zi nis.symm]; exact f0) f1 f3 f4 f5
  refine ⟨.ref s.heap.objs.size,_,I2,rfl,⟨_,k,v,rfl,hfr,by rw [List.getElem?_eq_getElem hlt,hkv],rfl⟩,⟨_,_,by rw [hl]; exact he2⟩,fun b hb=>?_⟩
  have e':b = it:=by simpa using hb
  subst e'
  rw [zi nis.symm]; exact f0
 done:=by
  intro X hP hw hK hc i pins s σ H E I hf st hg
  subst hP hw hK
  obtain ⟨ok,ov,hit⟩:=st
  obtain ⟨f0,f1,f2,f3,f4,f5⟩:=hf it (by simp)
  obtain ⟨hd,hle⟩:=hg
  obtain ⟨hy,vs,r,hm⟩:=zf0 I hd ho
  have hl:kvs.length = vs.length:=r.length
  rw [hl] at hit
  exact wpAny_pyNext_items_end (I.ok.hd hc) hit hm (List.getElem?_eq_none (by omega)) fun h' eb=>⟨rfl,I.turned (t':=s.toks) (fun b o hb e1=>eb b o hb e1) f0 f1 f3 f4 f5⟩
 self:=fun A i s Q E st h=>by
  obtain ⟨ok,ov,hit⟩:=st
  exact wF hit h
section
variable {X:Cx} {elts:List Expr} {x1:Nat} {tpos:Pos}
def ziA (te:TE):TI:=fun σ H R=>te σ H fun x H1=>∃ d o kvs,x = .ref d/\H1 d = some (.frz o (.dK kvs))/\R (Itd d o kvs) H1
theorem zbo {l:Expr} {te:TE} {apos cpos:Pos} (hl:PE X l te) (hbase:attributeBase l "items" X.env (eval l X.env) = eval l X.env:=by rfl) (hline:(apos.endLine == cpos.line) = true:=by rfl) :
  PI X (.Tuple elts x1 tpos) (.Call (.Attribute l "items" apos) [] [] cpos) (ziA te):=by
 refine ⟨?_⟩
 intro pins s σ H R I h
 refine wpAny_Call_method0_late hbase hline (thn (hl pins s σ H _ I h) fun v s1 ⟨x,H1,I1,r1,d,o,kvs,ex,hd,q⟩=>?_)
 subst ex
 cases r1
 obtain ⟨e,hz,hy,vs,r,o',es,ep,ho',c1,c2,c3⟩:=id (I1.hok d _ hd)
 rw [e] at ho'
 cases ho'
 have hm:s1.heap.DictAt (zY X.prog X.w) d vs ep:=⟨o,es,e,c1,c2,c3⟩
 refine ⟨"dict","dict.items",F.plainAttrs_dict,F.slot_dict_items,F.type_dict_items,⟨o,e,c1.1⟩,fun a ea=>by cases ea; exact ⟨o,e,c1.2.1⟩,Calls.callWith_builtin rfl (PySem.evalArgs_none ?_)⟩
 refine call_meetsIn F.slot_dict_items ⟨o,e,c1.1⟩ F.entry_dict_items (F.args_dict_items_1 _) (meets_dict_items (zY X.prog X.w) d hy) ⟨⟨vs,hm.dictOf⟩,?_⟩
 show wpAny _ _ (pyIter (.ref s1.heap.objs.size)) _ _ _
 have hl:kvs.length = vs.length:=r.length
 refine wpAny_pyIter_items (knd:=zY X.prog X.w) (d:=d) (kvs:=vs) (ep:=ep) ⟨_,Heap.get?_push_size _ rfl,rfl,rfl⟩ (hm.push _) ?_
 have hk:∀ b ob,s1.heap.get? b = some ob->((s1.heap.push { cls:=.type "dict_items",data:=.fields #[.ref d] }).push { cls:=.type "dict_itemiterator",data:=.fields #[.none,.bool false,.ref d,.int 0 0,.int vs.length 0,.int ep 0,.none,.none] }).get? b = some ob:=fun b ob q=>Heap.get?_push_of_some _ (Heap.get?_push_of_some _ q)
 have I2:=I1.kept (t':=s1.toks) hk
 have hsz:(s1.heap.push { cls:=.type "dict_items",data:=.fields #[.ref d] }).objs.size = s1.heap.objs.size + 1:=Heap.size_push ..
 refine ⟨(s1.heap.push { cls:=.type "dict_items",data:=.fields #[.ref d] }).objs.size,[(s1.heap.push { cls:=.type "dict_items",data:=.fields #[.ref d] }).objs.size],_,Itd d o kvs,H1,rfl,I2,zb8 d _ o kvs es ep c2,⟨.none,.none,?_⟩,fun b hb=>?_,q⟩
 ·rw [hl]
  exact Heap.get?_push_size (s1.heap.push { cls:=.type "dict_items",data:=.fields #[.ref d] }) (o:={ cls:=.type "dict_itemiterator",data:=.fields #[.none,.bool false,.ref d,.int 0 0,.int vs.length 0,.int ep 0,.none,.none] }) rfl
 ·have e':b = (s1.heap.push { cls:=.type "dict_items",data:=.fields #[.ref d] }).objs.size:=by simpa using hb
  subst e'
  rw [hsz]
  exact I1.fpOk (Nat.le_succ _) (I1.hok.fresh (Nat.le_succ _))
theorem zev {d:Addr} {o:Obj} {kvs:List (Key × V)} {g:TG} {tb:TS} {D:u7} {σ : St} {H:Hp} (Pv:Nat->St->Hp->Prop) (h0:Pv 0 σ H) (hl:∀ i σ H,i<=kvs.length->Pv i σ H->H d = some (.frz o (.dK kvs)))
  (hs:∀ i k v p σ H,kvs[i]? = some (k,v)->Pv i σ H->H p = none->g (.ref p) σ (upd H p (.tup [kV k,v])) fun σ2 H2=>tb { D with nx:=Pv (i + 1),ct:=Pv (i + 1),bk:=D.nx } σ2 H2) (hd:∀ σ H,Pv kvs.length σ H->D.nx σ H) :
  ∃ W:Nat->Nat->St->Hp->Prop,(∃ m,W 0 m σ H)/\∀ i m σ H,W i m σ H->
   ((Itd d o kvs).stop i H/\D.nx σ H)\/((Itd d o kvs).go i H/\∃ N:St->Hp->Prop,(∀ σ' H',N σ' H'->∃ m',m' < m/\W (i + 1) m' σ' H')/\∀ x H',(Itd d o kvs).yld i H x H'->g x σ H' fun σ2 H2=>tb { D with nx:=N,ct:=N,bk:=D.nx } σ2 H2):=by
 refine ⟨fun i m σ H=>m = kvs.length - i/\i<=kvs.length/\Pv i σ H,⟨kvs.length,by simp,Nat.zero_le _,h0⟩,?_⟩
 rintro i m σ H ⟨rfl,hi,p⟩
 have q:=hl i σ H hi p
 by_cases hlt:i < kvs.length
 ·refine .inr ⟨⟨q,hlt⟩,Pv (i + 1),fun σ' H' p'=>⟨kvs.length - (i + 1),by omega,rfl,hlt,p'⟩,fun x H' y=>?_⟩
  obtain ⟨pp,k,v,rfl,hp,y2,rfl⟩:=y
  exact hs i k v pp σ H y2 p hp
 ·have e:i = kvs.length:=by omega
  subst e
  exact .inl ⟨⟨q,Nat.le_refl _⟩,hd σ H p⟩
end
theorem zjX {X:Cx} {pins:List (Addr × Obj)} {σ : St} {H:Hp} {s:Shared} {A:Around} {a b:Addr} {xs ys:List V} (I:Inv X pins σ H s) (ha:SqT X.K H a xs) (hb:SqT X.K H b ys) (fx:xs.all xE = true) (fy:ys.all xE = true) (hu:A.units + 8 < cLine) :
  SeqAt.RcAt A s (.ref a) (.ref b) (eqT xs ys):=by
 obtain ⟨ia,va,pa,_⟩:=I.tuple ha
 obtain ⟨ib,vb,pb,_⟩:=I.tuple hb
 have la:ia.toArray.size = xs.length:=by rw [List.size_toArray]; exact va.length.symm
 have lb:ib.toArray.size = ys.length:=by rw [List.size_toArray]; exact vb.length.symm
 have:=SeqAt.RcAt.tuples (A:=A) (s:=s) (e:=fun j=>eqV (xs[j]?.getD .non) (ys[j]?.getD .non)) (show s.heap.IsTuple a ia.toArray from pa) (show s.heap.IsTuple b ib.toArray from pb) (by omega) (fun j h1 h2=>by
  have j1:j < ia.length:=by simpa using h1
  have j2:j < ib.length:=by simpa using h2
  have hxl:j < xs.length:=by rw [va.length]; exact j1
  have hyl:j < ys.length:=by rw [vb.length]; exact j2
  obtain ⟨u',e1,e2⟩:=va.get (i:=j) (List.getElem?_eq_getElem hxl)
  obtain ⟨v',e3,e4⟩:=vb.get (i:=j) (List.getElem?_eq_getElem hyl)
  rw [List.getElem?_eq_getElem j1] at e1
  rw [List.getElem?_eq_getElem j2] at e3
  cases e1; cases e3
  have q:=zf4 (A:=A.in1) (s:=s) e2 e4 (List.all_eq_true.mp fx _ (List.getElem_mem hxl)) (List.all_eq_true.mp fy _ (List.getElem_mem hyl))
  simpa [hxl,hyl] using q)
 rw [la,lb] at this
 exact this
def zia (K:Frag):R2:=fun x y H Q=>∃ (a c:Addr) (xs ys:List V),x = .ref a/\y = .ref c/\SqT K H a xs/\SqT K H c ys/\xs.all xE = true/\ys.all xE = true/\Q (.bl (eqT xs ys)) H
theorem zby {X:Cx} (hu:X.A.units + 64 < cLine):OpR X (compareOp .Eq) (zia X.K):=by
 intro pins s σ H x y v u Q I rx ry h
 obtain ⟨a,c,xs,ys,rfl,rfl,ha,hc,fx,fy,q⟩:=h
 cases rx; cases ry
 exact zjX (A:=X.A) I ha hc fx fy (by omega) X.prog X.w X.xe _ ⟨.bl _,H,I,rfl,q⟩
end L2
namespace K22
open PySem L2 PyProof.Rows
inductive yv where
 | one (t:Int) | row (ts:List Int) | named (n:Str) (t:Int) | book (ps:List (Str × Int))
def xb (p:Str × Int):Dt:=.tup [.str p.1,.int p.2]
def yC:yv->Dt
 | .one t=>.tup [.str "one",.int t]
 | .row ts=>.tup [.str "row",.lst (ts.map .int)]
 | .named n t=>.tup [.str "named",.str n,.int t]
 | .book ps=>.tup [.str "book",.lst (ps.map xb)]
def itT:yv->List Int
 | .one t=>[t]
 | .row ts=>ts
 | _=>[]
def itP:yv->List (Str × Int)
 | .named n t=>[(n,t)]
 | .book ps=>ps
 | _=>[]
def ym (c:List yv):List Int:=(c.map itT).flatten
def yJ (c:List yv):List (Str × Int):=(c.map itP).flatten
abbrev T':Addr->Prop:=fun _=>True
def Two (K:Frag) (H H':Hp) (p:Addr) (ts:List Int) (ps:List (Str × Int)):Prop:=
 ∃ l1 l2 xs,H l1 = none/\H l2 = none/\l1 ≠ l2/\H p = none/\H' p = some (.tup [.ref l1,.ref l2])/\H' l1 = some (.lst (ts.map V.int))/\H' l2 = some (.lst xs)/\Paired (zH K T' H' 1) xs (ps.map xb)
def zce (K:Frag):Sp:=fun vs H Q _=>∃ (a:Addr) (c:List yv) (xs:List V),vs = [.ref a]/\SqL K H a xs/\Paired (zH K T' H 3) xs (c.map yC)/\(ym c).length<=900/\(yJ c).length<=900/\
 ∀ (p:Addr) (H':Hp),zm H H'->Two K H H' p (ym c) (yJ c)->Q (.ref p) H'
section
variable {P:Program} {w:World} {K:Frag} {mg:Str->Option Value} {base:Heap} {f:Addr} {fd:FuncData}
theorem zga (ns:List Int) (lo hi:Option Int):∃ ms:List Int,xV (ns.map V.int) lo hi = ms.map V.int/\ms.length<=ns.length/\∀ m ∈ ms,m ∈ ns:=by
 refine ⟨(ns.drop (HT.sIx ns.length 0 lo)).take (HT.sIx ns.length ns.length hi - HT.sIx ns.length 0 lo),?_,?_,fun m hm=>List.mem_of_mem_drop (List.mem_of_mem_take hm)⟩
 ·unfold xV
  rw [List.length_map,List.map_take,List.map_drop]
 ·rw [List.length_take,List.length_drop]
  omega
end
section
variable {K:Frag} {ok:Addr->Prop} {H H':Hp} {n:Nat} {x:V}
theorem wN {i:Int} (h:zH K ok H n x (.int i)):x = .int i:=by
 have fl:jf x (.int i)->x = .int i:=fun h=>by
  cases x <;> first | exact h.elim | (have e:=(show _ = _ from h); rw [e])
 cases n with
 | zero=>exact fl h
 | succ n=>
  rcases h with h | ⟨_,_,_,_,e,_⟩ | ⟨_,_,_,_,e,_⟩
  ·exact fl h
  ·cases e
  ·cases e
theorem yz {z:Str} (h:zH K ok H n x (.str z)):x = .str z:=by
 have fl:jf x (.str z)->x = .str z:=fun h=>by
  cases x <;> first | exact h.elim | (have e:=(show _ = _ from h); rw [e])
 cases n with
 | zero=>exact fl h
 | succ n=>
  rcases h with h | ⟨_,_,_,_,e,_⟩ | ⟨_,_,_,_,e,_⟩
  ·exact fl h
  ·cases e
  ·cases e
theorem yy {ds:List Dt} (h:zH K ok H (n + 1) x (.tup ds)):∃ a xs,x = .ref a/\SqT K H a xs/\Paired (zH K ok H n) xs ds:=by
 rcases h with h | ⟨a,xs,ds',e1,e2,e3,r⟩ | ⟨_,_,_,_,e,_⟩
 ·cases x <;> exact h.elim
 ·cases e2; exact ⟨a,xs,e1,e3,r⟩
 ·cases e
theorem vS {ds:List Dt} (h:zH K ok H (n + 1) x (.lst ds)):∃ a xs,x = .ref a/\ok a/\H a = some (.lst xs)/\Paired (zH K ok H n) xs ds:=by
 rcases h with h | ⟨_,_,_,_,e,_⟩ | ⟨a,xs,ds',e1,e2,o,e3,r⟩
 ·cases x <;> exact h.elim
 ·cases e
 ·cases e2; exact ⟨a,xs,e1,o,e3,r⟩
theorem wU:∀ {ts:List Int} {xs:List V},Paired (zH K ok H n) xs (ts.map .int)->xs = ts.map V.int
 | [],_,r=>by cases r; rfl
 | t :: ts,_,r=>by
  cases r with
  | cons h r=>rw [wN h,wU r]; rfl
theorem yB:∀ (ts:List Int),Paired (zH K ok H n) (ts.map V.int) (ts.map .int)
 | []=>.nil
 | t :: ts=>.cons .int (yB ts)
theorem yE {α β : Type} {F : α->β->Prop}:∀ {a c:List α} {b d:List β},Paired F a b->Paired F c d->Paired F (a ++ c) (b ++ d)
 | _,_,_,_,.nil,s=>s
 | _,_,_,_,.cons r t,s=>.cons r (yE t s)
theorem zfU {t:Int} (h:zH K ok H 3 x (yC (.one t))):∃ a,x = .ref a/\SqT K H a [.str "one",.int t]:=by
 obtain ⟨a,xs,rfl,hS,r⟩:=yy h
 cases r with
 | cons h1 r=>cases r with
  | cons h2 r=>cases r; rw [yz h1,wN h2] at hS; exact ⟨a,rfl,hS⟩
theorem zfT {ts:List Int} (h:zH K ok H 3 x (yC (.row ts))):∃ a b,x = .ref a/\SqT K H a [.str "row",.ref b]/\ok b/\H b = some (.lst (ts.map V.int)):=by
 obtain ⟨a,xs,rfl,hS,r⟩:=yy h
 cases r with
 | cons h1 r=>cases r with
  | cons h2 r=>
   cases r
   obtain ⟨b,ys,rfl,o,hb,q⟩:=vS h2
   rw [yz h1] at hS
   rw [wU q] at hb
   exact ⟨a,b,rfl,hS,o,hb⟩
theorem zcL {z:Str} {t:Int} (h:zH K ok H 3 x (yC (.named z t))):∃ a,x = .ref a/\SqT K H a [.str "named",.str z,.int t]:=by
 obtain ⟨a,xs,rfl,hS,r⟩:=yy h
 cases r with
 | cons h1 r=>cases r with
  | cons h2 r=>cases r with
   | cons h3 r=>cases r; rw [yz h1,yz h2,wN h3] at hS; exact ⟨a,rfl,hS⟩
theorem zep {ps:List (Str × Int)} (h:zH K ok H 3 x (yC (.book ps))):∃ a b ys,x = .ref a/\SqT K H a [.str "book",.ref b]/\ok b/\H b = some (.lst ys)/\Paired (zH K ok H 1) ys (ps.map xb):=by
 obtain ⟨a,xs,rfl,hS,r⟩:=yy h
 cases r with
 | cons h1 r=>cases r with
  | cons h2 r=>
   cases r
   obtain ⟨b,ys,rfl,o,hb,q⟩:=vS h2
   rw [yz h1] at hS
   exact ⟨a,b,ys,rfl,hS,o,hb,q⟩
end
theorem zcE (c:List yv) (i:Nat) (it:yv) (h:c[i]? = some it):ym (c.take (i + 1)) = ym (c.take i) ++ itT it:=by
 unfold ym
 rw [List.take_add_one,h,List.map_append,List.flatten_append]
 simp
theorem zcF (c:List yv) (i:Nat) (it:yv) (h:c[i]? = some it):yJ (c.take (i + 1)) = yJ (c.take i) ++ itP it:=by
 unfold yJ
 rw [List.take_add_one,h,List.map_append,List.flatten_append]
 simp
theorem zbF (c:List yv) (i:Nat):(ym (c.take i)).length<=(ym c).length:=by
 unfold ym
 conv=>rhs; rw [<- List.take_append_drop i c]
 rw [List.map_append,List.flatten_append,List.length_append]
 omega
theorem zbG (c:List yv) (i:Nat):(yJ (c.take i)).length<=(yJ c).length:=by
 unfold yJ
 conv=>rhs; rw [<- List.take_append_drop i c]
 rw [List.map_append,List.flatten_append,List.length_append]
 omega
theorem ne1:¬ (V.str "row" = V.str "one"):=by decide +kernel
theorem ne2:¬ (V.str "named" = V.str "one"):=by decide +kernel
theorem ne3:¬ (V.str "book" = V.str "one"):=by decide +kernel
theorem ne4:¬ (V.str "named" = V.str "row"):=by decide +kernel
theorem ne5:¬ (V.str "book" = V.str "row"):=by decide +kernel
theorem ne6:¬ (V.str "book" = V.str "named"):=by decide +kernel
section
variable {P:Program} {w:World} {K:Frag} {mg:Str->Option Value} {base:Heap} {f:Addr} {fd:FuncData}
theorem jG:zu ["call","things","pairs","item","word"] ["call"] (ze qC):=⟨rfl,rfl,rfl,by decide +kernel,rfl,by decide +kernel,by decide +kernel⟩
theorem x9 {H H2:Hp} {l:Addr} (s:zm H H2) (h:H l = none) (o:HO):zm H (upd H2 l o):=fun b u q=>by rw [zi (zf q h)]; exact s b u q
theorem zgT (F:Fun K "laid" "laid" qC f fd):zE P w K mg base CX0 1 f fd ["call"] (zce K):=by
 refine F.ok jG (fun vs H Q E h=>?_) (fun cdv A outer s H vs Q E hr h=>?_)
 ·obtain ⟨a,c,xs,rfl,_⟩:=h
  rfl
 obtain ⟨a,c,xs,rfl,hS,hc,hT,hP,q⟩:=h
 refine ⟨_,zd (zw (i:=1) jG.nd rfl (Or.inl rfl) (zM zc)) (zd (zw (i:=2) jG.nd rfl (Or.inl rfl) (zM zc))
  (zd (y9 PassesOwn.never rfl (z6 (pv 0)) (zn (i:=3) jG.nd rfl (Or.inl rfl))
   (zd (zw (i:=4) jG.nd rfl (Or.inl rfl) (zy zr (pv 3) zg (fun _ _=>rfl)))
   (zh (zI (zk zZ (pv 4) zl (zt _)) (zh (zJ (yV PySem.F.plainAttrs_list PySem.F.slot_list_append PySem.F.type_list_append zQ (pv 1) (ac (zy zr (pv 3) zg (fun _ _=>rfl)) zc))))
    (zh (zI (zk zZ (pv 4) zl (zt _)) (zh (zJ (yV PySem.F.plainAttrs_list PySem.F.slot_list_extend PySem.F.type_list_extend qU (pv 1) (ac (zy zr (pv 3) zg (fun _ _=>rfl)) zc))))
     (zh (zI (zk zZ (pv 4) zl (zt _)) (zh (zJ (yV PySem.F.plainAttrs_list PySem.F.slot_list_append PySem.F.type_list_append zQ (pv 2) (ac (zR (ac (zy zr (pv 3) zg (fun _ _=>rfl)) (ac (zy zr (pv 3) zg (fun _ _=>rfl)) zc))) zc))))
      (zh (zJ (yV PySem.F.plainAttrs_list PySem.F.slot_list_extend PySem.F.type_list_extend qU (pv 2) (ac (zy zr (pv 3) zg (fun _ _=>rfl)) zc))))))))))))
  (zh (zA (zR (ac (pv 1) (ac (pv 2) zc))))))),?_⟩
 refine ⟨zz0,fun l1 h1=>?_⟩
 refine ⟨zz0,fun l2 h2=>?_⟩
 have n12:l1 ≠ l2:=zf za h2
 have f2:H l2 = none:=(zb h1 _).free h2
 have s0:zm H (upd (upd H l1 (.lst [])) l2 (.lst [])):=(zb h1 _).trans (zb h2 _)
 refine ⟨_,rfl,a,rfl,⟨_,s0.seq hS⟩,wj (K:=K) (a:=a) (xs:=xs) (fun i σ H2=>∃ v3 v4 ys,σ = [some (.ref a),some (.ref l1),some (.ref l2),v3,v4]/\zm H H2/\H2 l1 = some (.lst ((ym (c.take i)).map V.int))/\H2 l2 = some (.lst ys)/\Paired (zH K T' H2 1) ys ((yJ (c.take i)).map xb))
  ⟨_,_,[],rfl,s0,by rw [zi n12,za]; rfl,za,.nil⟩ (fun i σ H2 _ ⟨_,_,_,_,s2,_⟩=>s2.seq hS) ?_ ?_⟩
 ·rintro i y σ H2 hi ⟨v3,v4,ys,rfl,s2,g1,g2,gp⟩
  obtain ⟨d,hd,hy⟩:=Paired.get hc hi
  obtain ⟨it,hit,rfl⟩:∃ it,c[i]? = some it/\yC it = d:=by
   rw [List.getElem?_map] at hd
   cases e:c[i]? with
   | none=>rw [e] at hd; cases hd
   | some it=>rw [e] at hd; exact ⟨it,rfl,Option.some.inj hd⟩
  have hy2:=hy.same s2
  have eT:=zcE c i it hit
  have eP:=zcF c i it hit
  have lT:=zbF c i
  have lP:=zbG c i
  have lT1:=zbF c (i + 1)
  have lP1:=zbG c (i + 1)
  have lys:ys.length = (yJ (c.take i)).length:=by rw [gp.length,List.length_map]
  have sT:∀ {H3:Hp} {o:HO} {l:Addr},H3 l = none\/(∃ zs,H3 l = some (.lst zs))->∀ {b zs},SqT K H3 b zs->SqT K (upd H3 l o) b zs:=fun {H3 o l} hl {b zs} hz=>by
   rcases hz with (z | ⟨u,z⟩) | z
   ·refine .inl (.inl ?_)
    have:b ≠ l:=fun e=>by
     subst e
     rcases hl with e | ⟨_,e⟩
     ·rw [e] at z; cases z
     ·rw [e] at z; cases z
    rw [zi this]; exact z
   ·refine .inl (.inr ⟨u,?_⟩)
    have:b ≠ l:=fun e=>by
     subst e
     rcases hl with e | ⟨_,e⟩
     ·rw [e] at z; cases z
     ·rw [e] at z; cases z
    rw [zi this]; exact z
   ·exact .inr z
  have keepP:∀ {H3:Hp} {o:HO} {l:Addr} {zs:List V} {ps:List (Str × Int)},H3 l = none\/(∃ zs,H3 l = some (.lst zs))->Paired (zH K T' H3 1) zs (ps.map xb)->Paired (zH K T' (upd H3 l o) 1) zs (ps.map xb):=by
   intro H3 o l zs ps hl r
   induction ps generalizing zs with
   | nil=>cases r; exact .nil
   | cons p ps ih=>
    cases r with
    | cons h r=>
     refine .cons ?_ (ih r)
     obtain ⟨b,ws,rfl,hS',r'⟩:=yy h
     exact .tup (sT hl hS') (Paired.imp' (fun _ _ z=>z) r')
  cases it with
  | one t=>
   obtain ⟨b,rfl,hb⟩:=zfU hy2
   refine ⟨_,rfl,b,_,_,.str "one",rfl,rfl,hb,rfl,?_⟩
   refine ⟨_,rfl,rfl,_,rfl,?_⟩
   refine dT rfl ?_
   refine ⟨_,rfl,.inl ⟨rfl,_,SqL.of g1⟩,_,rfl,b,_,_,.int t,rfl,rfl,hb,rfl,l1,_,_,rfl,rfl,g1,?_,?_⟩
   ·rw [List.length_map]; exact zF (by omega)
   ·refine ⟨_,_,ys,rfl,x9 s2 h1 _,?_,?_,?_⟩
    ·rw [za,eT,List.map_append]; rfl
    ·rw [zi n12.symm]; exact g2
    ·rw [eP]; show Paired _ _ ((yJ (c.take i) ++ []).map xb); rw [List.append_nil]; exact keepP (.inr ⟨_,g1⟩) gp
  | row ts=>
   obtain ⟨b,bl,rfl,hb,_,hbl⟩:=zfT hy2
   refine ⟨_,rfl,b,_,_,.str "row",rfl,rfl,hb,rfl,?_⟩
   refine ⟨_,rfl,rfl,_,rfl,?_⟩
   refine dF ne1 ?_
   refine ⟨_,rfl,rfl,_,rfl,?_⟩
   refine dT rfl ?_
   refine ⟨_,rfl,.inl ⟨rfl,_,SqL.of g1⟩,_,rfl,b,_,_,.ref bl,rfl,rfl,hb,rfl,l1,bl,_,_,rfl,rfl,g1,hbl,?_,?_⟩
   ·have e1:(ym (c.take (i + 1))).length = (ym (c.take i)).length + ts.length:=by rw [eT,List.length_append]; rfl
    rw [List.length_map,List.length_map]; exact ye (by omega)
   ·refine ⟨_,_,ys,rfl,x9 s2 h1 _,?_,?_,?_⟩
    ·rw [za,eT,List.map_append]; rfl
    ·rw [zi n12.symm]; exact g2
    ·rw [eP]; show Paired _ _ ((yJ (c.take i) ++ []).map xb); rw [List.append_nil]; exact keepP (.inr ⟨_,g1⟩) gp
  | named z t=>
   obtain ⟨b,rfl,hb⟩:=zcL hy2
   refine ⟨_,rfl,b,_,_,.str "named",rfl,rfl,hb,rfl,?_⟩
   refine ⟨_,rfl,rfl,_,rfl,?_⟩
   refine dF ne2 ?_
   refine ⟨_,rfl,rfl,_,rfl,?_⟩
   refine dF ne4 ?_
   refine ⟨_,rfl,rfl,_,rfl,?_⟩
   refine dT rfl ?_
   refine ⟨_,rfl,.inl ⟨rfl,_,SqL.of g2⟩,_,rfl,b,_,_,.str z,rfl,rfl,hb,rfl,_,rfl,b,_,_,.int t,rfl,rfl,hb,rfl,zz2,fun p hp=>?_⟩
   have np2:l2 ≠ p:=zf g2 hp
   have np1:l1 ≠ p:=zf g1 hp
   have fp:H p = none:=s2.free hp
   refine ⟨l2,_,_,rfl,rfl,(by rw [zi np2]; exact g2),?_,?_⟩
   ·rw [lys]; exact zF (by omega)
   ·refine ⟨_,_,ys ++ [.ref p],rfl,x9 (x9 s2 fp _) f2 _,?_,za,?_⟩
    ·rw [zi n12,zi np1,g1,eT]; show _ = some (HO.lst ((ym (c.take i) ++ []).map V.int)); rw [List.append_nil]
    ·rw [eP,List.map_append]
     refine yE (keepP (.inr ⟨_,by rw [zi np2]; exact g2⟩) (keepP (.inl hp) gp)) (.cons (.tup (xs:=[.str z,.int t]) (SqT.of ?_) (.cons .str (.cons .int .nil))) .nil)
     rw [zi np2.symm,za]
  | book ps=>
   obtain ⟨b,bl,zs,rfl,hb,_,hbl,hz⟩:=zep hy2
   refine ⟨_,rfl,b,_,_,.str "book",rfl,rfl,hb,rfl,?_⟩
   refine ⟨_,rfl,rfl,_,rfl,?_⟩
   refine dF ne3 ?_
   refine ⟨_,rfl,rfl,_,rfl,?_⟩
   refine dF ne5 ?_
   refine ⟨_,rfl,rfl,_,rfl,?_⟩
   refine dF ne6 ?_
   have lz:zs.length = ps.length:=by rw [hz.length,List.length_map]
   refine ⟨_,rfl,.inl ⟨rfl,_,SqL.of g2⟩,_,rfl,b,_,_,.ref bl,rfl,rfl,hb,rfl,l2,bl,_,_,rfl,rfl,g2,hbl,?_,?_⟩
   ·have e1:(yJ (c.take (i + 1))).length = (yJ (c.take i)).length + ps.length:=by rw [eP,List.length_append]; rfl
    rw [lys,lz]; exact ye (by omega)
   ·refine ⟨_,_,ys ++ zs,rfl,x9 s2 f2 _,?_,za,?_⟩
    ·rw [zi n12,g1,eT]; show _ = some (HO.lst ((ym (c.take i) ++ []).map V.int)); rw [List.append_nil]
    ·rw [eP,List.map_append]
     exact yE (keepP (.inr ⟨_,g2⟩) gp) (keepP (.inr ⟨_,g2⟩) hz)
 ·rintro σ H2 ⟨v3,v4,ys,rfl,s2,g1,g2,gp⟩
  refine ⟨_,rfl,_,rfl,zz2,fun p hp=>?_⟩
  have hl:xs.length = c.length:=by rw [hc.length,List.length_map]
  rw [hl,List.take_length] at g1 gp
  refine q p _ (s2.trans (zb hp _)) ⟨l1,l2,ys,h1,f2,n12,s2.free hp,za,?_,?_,Paired.imp' (fun _ _ z=>z.same (zb hp _)) gp⟩
  ·rw [zi (zf g1 hp)]; exact g1
  ·rw [zi (zf g2 hp)]; exact g2
end
theorem xv {K:Frag} {ok:Addr->Prop} {H H':Hp} {zs:List V} {ps:List (Str × Int)} (s:zm H H') (r:Paired (zH K ok H 1) zs (ps.map xb)):Paired (zH K ok H' 1) zs (ps.map xb):=Paired.imp' (fun _ _ z=>z.same s) r
def plain (ts:List Int) (ps:List (Str × Int)):List yv:=ts.map .one ++ ps.map fun p=>.named p.1 p.2
theorem zfV {c:List yv} {i:Nat} {d:Dt} (h:(c.map yC)[i]? = some d):∃ it,c[i]? = some it/\yC it = d:=by
 rw [List.getElem?_map] at h
 cases e:c[i]? with
 | none=>rw [e] at h; cases h
 | some it=>rw [e] at h; exact ⟨it,rfl,Option.some.inj h⟩
theorem zbr {ps:List (Str × Int)} {i:Nat} {d:Dt} (h:(ps.map xb)[i]? = some d):∃ p,ps[i]? = some p/\xb p = d:=by
 rw [List.getElem?_map] at h
 cases e:ps[i]? with
 | none=>rw [e] at h; cases h
 | some it=>rw [e] at h; exact ⟨it,rfl,Option.some.inj h⟩
theorem vf {K:Frag} {ok:Addr->Prop} {H:Hp} {n:Nat} {x:V} {p:Str × Int} (h:zH K ok H (n + 1) x (xb p)):∃ b,x = .ref b/\SqT K H b [.str p.1,.int p.2]:=by
 obtain ⟨a,xs,rfl,hS,r⟩:=yy h
 cases r with
 | cons h1 r=>cases r with
  | cons h2 r=>cases r; rw [yz h1,wN h2] at hS; exact ⟨a,rfl,hS⟩
theorem zcJ {K:Frag} {ok:Addr->Prop} {n:Nat} {H H':Hp} {zs:List V} {c:List yv} (s:zm H H') (r:Paired (zH K ok H n) zs (c.map yC)):Paired (zH K ok H' n) zs (c.map yC):=Paired.imp' (fun _ _ z=>z.same s) r
theorem zdO {α : Type} {l:List α} {i:Nat} {x : α} (h:l[i]? = some x):l.take (i + 1) = l.take i ++ [x]:=by
 rw [List.take_add_one,h]; rfl
section
variable {P:Program} {w:World} {K:Frag} {mg:Str->Option Value} {base:Heap} {f:Addr} {fd:FuncData}
end
theorem zek (c:List yv) (it:yv):ym (c ++ [it]) = ym c ++ itT it:=by unfold ym; simp
theorem zel (c:List yv) (it:yv):yJ (c ++ [it]) = yJ c ++ itP it:=by unfold yJ; simp
theorem wp {K:Frag} {ok ok':Addr->Prop} {H:Hp} (hk:∀ b,ok b->H b ≠ none->ok' b) {n:Nat} {x:V} {d:Dt} (h:zH K ok H n x d):zH K ok' H n x d:=
 h.frame (fun a xs z=>z) fun a xs oa z=>⟨hk a oa (by rw [z]; intro q; cases q),z⟩
theorem vF {A B:Prop} {b:Bool} (h:b = true) (a:A):if b = true then A else B:=by rw [h]; exact xI a
theorem ud {A B:Prop} {b:Bool} (h:b = false) (a:B):if b = true then A else B:=by rw [h]; exact yk a
section
variable {P:Program} {w:World} {K:Frag} {mg:Str->Option Value} {base:Heap} {f:Addr} {fd:FuncData}
section
variable {H H':Hp} {p l1 l2 l:Addr} {ys:List V} {ts:List Int} {ps:List (Str × Int)} {o:HO}
end
end
def zV (c:List yv):List Str:=(yJ c).map (·.1)
def jl (K:Frag):Sp:=fun vs H Q _=>∃ (a:Addr) (c:List yv) (xs:List V),vs = [.ref a]/\SqL K H a xs/\Paired (zH K T' H 3) xs (c.map yC)/\(ym c).length<=900/\(yJ c).length<=900/\
 ∀ (p l:Addr) (H':Hp),zm H H'->H l = none->H' p = some (.tup [.int ((ym c).length:Nat),.ref l])->H' l = some (.lst ((zV c).map V.str))->Q (.ref p) H'
def vk:Nat->List (Key × V)->List Str->List (Key × V)
 | _,acc,[]=>acc
 | i,acc,z :: zs=>vk (i + 1) (if (zL acc (.inr z)).isSome = true then acc else yf acc (.inr z) (.int i)) zs
theorem zaa {z:Str}:∀ (zs:List Str) (j i:Nat) (acc:List (Key × V)),zs[i]? = some z->vk j acc (zs.take (i + 1)) = (if (zL (vk j acc (zs.take i)) (.inr z)).isSome = true then vk j acc (zs.take i) else yf (vk j acc (zs.take i)) (.inr z) (.int (j + i:Nat)))
 | [],_,_,_,h=>by simp at h
 | y :: ys,j,0,acc,h=>by
  have e:y = z:=by simpa using h
  subst e
  rfl
 | y :: ys,j,i + 1,acc,h=>by
  have:=zaa ys (j + 1) i (if (zL acc (.inr y)).isSome = true then acc else yf acc (.inr y) (.int j)) (by simpa using h)
  show vk (j + 1) _ (ys.take (i + 1)) = _
  rw [this,show j + 1 + i = j + (i + 1) by omega]
  rfl
theorem zbN:∀ (zs:List Str) (i:Nat) (acc:List (Key × V)),(vk i acc zs).length<=acc.length + zs.length
 | [],_,_=>Nat.le_refl _
 | z :: zs,i,acc=>by
  have h:=zbN zs (i + 1) (if (zL acc (.inr z)).isSome = true then acc else yf acc (.inr z) (.int i))
  have h2:(if (zL acc (.inr z)).isSome = true then acc else yf acc (.inr z) (.int i)).length<=acc.length + 1:=by
   split
   ·omega
   ·exact xk acc _ _
  show (vk (i + 1) _ zs).length<=acc.length + (zs.length + 1)
  omega
def vP:Sp:=fun vs H Q _=>∃ (a:Addr) (zs:List Str),vs = [.ref a]/\H a = some (.lst (zs.map V.str))/\zs.length<=900/\∀ (l:Addr) (o:Obj) (H':Hp),zm H H'->H l = none->H' l = some (.frz o (.dK (vk 0 [] zs)))->Q (.ref l) H'
section
variable {P:Program} {w:World} {K:Frag} {mg:Str->Option Value} {base:Heap} {f CF:Addr} {fd:FuncData} {c:C5} {m:MA}
theorem zjo:([Str.ofString "name",Str.ofString "thing"]:List Str).Nodup:=by decide +kernel
theorem zaI:zu ["call","things","pairs"] ["call"] (ze uz):=⟨rfl,rfl,rfl,by decide +kernel,rfl,by decide +kernel,by decide +kernel⟩
theorem zfs {g:Addr} {gd:FuncData} (F:Fun K "shape" "shape" uz f fd) (hlen:mg "len" = none) (cL:zp P w K mg base 1 "laid" g gd ["call"] (zce K)):zE P w K mg base CX0 2 f fd ["call"] (jl K):=by
 refine F.ok zaI (fun vs H Q E h=>?_) (fun cdv A outer s H vs Q E hr h=>?_)
 ·obtain ⟨a,c,xs,rfl,_⟩:=h
  rfl
 obtain ⟨a,c,xs,rfl,hS,hc,lT,lP,q⟩:=h
 refine ⟨_,zd (uQ (cF cL hr (ac (pv 0) zc)) (yp rfl (zv (zn (i:=1) zaI.nd rfl (Or.inl rfl)) (zv (zn (i:=2) zaI.nd rfl (Or.inl rfl)) z7))))
  (zh (zA (zR (ac (cB zB hlen PySem.boot_len (ac (pv 1) zc)) (ac (xp [] ["name","thing"] [none,none] rfl ⟨rfl,rfl,rfl,rfl⟩ (z6 (pv 2)) (y4 (K:=K) (n:=2) 0 1) rfl rfl rfl
   (fun pins fp s H C=>⟨yp rfl (zv (zn (i:=0) zjo rfl (Or.inl rfl) (.inr rfl)) (zv (zn (i:=1) zjo rfl (Or.inl rfl) (.inr rfl)) z7)),xz,pv 0⟩)) zc))))),?_⟩
 refine ⟨_,rfl,a,c,xs,rfl,hS,hc,lT,lP,fun p H1 s1 two=>?_⟩
 obtain ⟨l1,l2,ys,n1,n2,n12,np,ep,e1,e2,gp⟩:=two
 refine ⟨p,_,rfl,SqT.of ep,rfl,_,_,rfl,_,_,rfl,rfl,?_⟩
 refine ⟨_,rfl,l1,_,rfl,.inl (SqL.of e1),_,rfl,l2,rfl,⟨_,SqL.of e2⟩,fun D hD=>?_⟩
 have lys:ys.length = (yJ c).length:=by rw [gp.length,List.length_map]
 refine ub (K:=K) (xs:=ys) (fun i zs H'=>zm H1 H'/\H' D = some (.lst zs)/\zs = ((zV c).take i).map V.str) ⟨zb hD _,za,rfl⟩ (fun i zs H' h=>SqL.of (h.1 _ _ e2)) ?_ ?_
 ·rintro i x zs H' hlt hx ⟨sH,hDy,ez⟩
  obtain ⟨d,hd,hy⟩:=Paired.get gp hx
  obtain ⟨pr',hpr,rfl⟩:=zbr hd
  obtain ⟨b,rfl,hb⟩:=vf (hy.same sH)
  refine ⟨b,_,rfl,hb,rfl,_,_,rfl,_,_,rfl,rfl,fun _=>⟨_,rfl,?_⟩,fun e=>Bool.noConfusion e⟩
  have hi:i < (zV c).length:=by unfold zV; rw [List.length_map]; omega
  have en:(zV c)[i] = pr'.1:=by
   have:(zV c)[i]? = some pr'.1:=by unfold zV; rw [List.getElem?_map,hpr]; rfl
   rw [List.getElem?_eq_getElem hi] at this
   exact Option.some.inj this
  refine lcN.mk hlt (ye (by omega)) hDy (by rw [ez,List.length_map,List.length_take]; omega) ⟨fun b' u e=>?_,za,?_⟩
  ·rw [zi (zf e hD)]
   exact sH b' u e
  ·rw [ez,List.take_succ_eq_append_getElem hi,en,List.map_append]
   rfl
 rintro zs H2 ⟨s2,hDy,ez⟩
 have hz:zs = (zV c).map V.str:=by
  rw [ez,List.take_of_length_le (by unfold zV; rw [List.length_map]; omega)]
 subst hz
 refine ⟨zz2,fun t ht=>?_⟩
 have s3:=zb ht (.tup [.int ((ym c).map V.int).length,.ref D])
 refine q t D _ (s1.trans (s2.trans s3)) (s1.free hD) (by rw [za,List.length_map]) (s3 _ _ hDy)
theorem vR:zu ["names","firsts","number","name"] ["names"] (ze wY):=⟨rfl,rfl,rfl,by decide +kernel,rfl,by decide +kernel,by decide +kernel⟩
theorem zed (F:Fun K "first_numbers" "first_numbers" wY f fd) (hen:mg "enumerate" = none):zE P w K mg base CX0 1 f fd ["names"] vP:=by
 refine F.ok vR (fun vs H Q E h=>?_) (fun cdv A outer s H vs Q E hr h=>?_)
 ·obtain ⟨a,zs,rfl,_⟩:=h
  rfl
 obtain ⟨a,zs,rfl,ha,lz,q⟩:=h
 have hu1:=qZ hr
 refine ⟨_,zd (zw (i:=1) vR.nd rfl (Or.inl rfl) zff)
  (zd (y9 PassesOwn.never rfl (xc rfl hen (ac (pv 0) zc)) (yp rfl (zv (zn (i:=2) vR.nd rfl (Or.inl rfl)) (zv (zn (i:=3) vR.nd rfl (Or.inl rfl)) z7)))
   (zh (zI (vA (zd6 hu1 (pv 3) (pv 1))) (zh (zdk hu1 (pv 1) (pv 3) (pv 2) rfl)) zC)))
  (zh (zA (zif (pv 1))))),?_⟩
 intro sd hsd
 have s1:=zb hsd (.dK [])
 have e1:upd H sd (.dK []) sd = some (.dK []):=za
 show xS _ _ _ _ (upd H sd (.dK []))
 generalize upd H sd (.dK []) = H1 at s1 e1 |-
 refine ⟨_,rfl,a,rfl,⟨_,SqL.of (s1 _ _ ha)⟩,wk (K:=K) (a:=a) (xs:=zs.map V.str) (fun i σ H'=>∃ (v2 v3:Option V),σ = [some (.ref a),some (.ref sd),v2,v3]/\zm H H'/\H' sd = some (.dK (vk 0 [] (zs.take i))))
  ⟨_,_,rfl,s1,e1⟩ (fun i σ H' _ ⟨_,_,_,sH,_⟩=>SqL.of (sH _ _ ha)) ?_ ?_⟩
 ·rintro i x p σ H' hx ⟨v2,v3,rfl,sH,hd⟩ hpn
  obtain ⟨z,hz,rfl⟩:=strs_at hx
  have sp:=zb hpn (.tup [.int (i:Nat),.str z])
  have hd2:=sp _ _ hd
  have tk:=zaa zs 0 i [] hz
  rw [Nat.zero_add] at tk
  have hi:i < zs.length:=(List.getElem?_eq_some_iff.mp hz).1
  refine ⟨p,_,rfl,SqT.of za,rfl,_,_,rfl,_,_,rfl,rfl,?_⟩
  refine ⟨_,rfl,_,rfl,sd,_,rfl,.inl ⟨_,.inr z,.inl hd2,rfl,rfl⟩,_,rfl,?_⟩
  refine qk (fun ne=>?_) (fun ne=>?_)
  ·have ns:¬ (zL (vk 0 [] (zs.take i)) (.inr z)).isSome = true:=by
    intro e
    rw [e] at ne
    cases ne
   rw [if_neg ns] at tk
   have ln:=zbN (zs.take i) 0 []
   refine ⟨_,rfl,_,rfl,_,rfl,sd,_,rfl,.inl ⟨_,.inr z,hd2,rfl,zF (by rw [List.length_take] at ln; simp at ln; omega),rfl⟩,?_⟩
   refine ⟨_,_,rfl,fun b' u e=>?_,by rw [za,tk]⟩
   rw [zi (zf e hsd)]
   exact sp _ _ (sH _ _ e)
  ·have ns:(zL (vk 0 [] (zs.take i)) (.inr z)).isSome = true:=by
    cases e:(zL (vk 0 [] (zs.take i)) (.inr z)).isSome with
    | true=>rfl
    | false=>exact absurd (by rw [e]; rfl) ne
   rw [if_pos ns] at tk
   exact ⟨_,_,rfl,sH.trans sp,by rw [tk]; exact hd2⟩
 ·rintro σ H' ⟨v2,v3,rfl,sH,hd⟩
  rw [List.length_map,List.take_length] at hd
  refine ⟨_,rfl,sd,_,rfl,hd,fun o=>?_⟩
  refine q sd o _ (fun b' u e=>?_) hsd za
  rw [zi (zf e hsd)]
  exact sH _ _ e
end
def MA1 (H:Hp) (u:Addr) (m:Str × Nat):Prop:=H u = some (.tup [.str m.1,.int (m.2:Nat)])
def wm (H:Hp) (us:List Addr) (ms:List (Str × Nat)):Prop:=Paired (MA1 H) us ms
theorem wm.same {H H':Hp} {us:List Addr} {ms:List (Str × Nat)} (h:wm H us ms) (s:zm H H'):wm H' us ms:=Paired.imp' (fun _ _ z=>s _ _ z) h
theorem wm.upd {H:Hp} {us:List Addr} {ms:List (Str × Nat)} {D:Addr} {ys:List V} {o:HO} (h:wm H us ms) (hD:H D = some (.lst ys)):wm (upd H D o) us ms:=Paired.imp' (fun u m z=>by
 show L2.upd H D o u = _
 rw [zi (fun e=>by rw [e] at z; rw [MA1,hD] at z; cases z)]
 exact z) h
theorem wm.snoc {H:Hp} {us:List Addr} {ms:List (Str × Nat)} {u:Addr} {m:Str × Nat} (h:wm H us ms) (hu:MA1 H u m):wm H (us ++ [u]) (ms ++ [m]):=Paired.snoc h hu
def zb4 (H H':Hp) (l:Addr) (ms:List (Str × Nat)):Prop:=∃ us:List Addr,H l = none/\H' l = some (.lst (us.map V.ref))/\wm H' us ms
def vw (rows:List Rw) (many:Nat):List (Str × Nat):=if (zD 2 0 rows).isSome = true then [] else (List.range (many - plN rows)).map fun i=>((("over" : Str),plN rows + i):Str × Nat)
def zaw (c:C5) (CF:Addr):Sp:=fun vs H Q _=>∃ (f:Addr) (many:Nat) (rows:List Rw) (bars:List Str),vs = [.ref f,.int (many:Nat)]/\many<=900/\rows.length<=500/\xi c CF H f rows bars/\∀ (l:Addr) (H':Hp),zm H H'->zb4 H H' l (vw rows many)->Q (.ref l) H'
def vB (r:Rw) (i many:Nat) (fk:List (Key × V)):List V:=
 if yL r.k = true/\i < many then [.str "place",.int (i:Nat)] else if z5 r.k = true/\(zL fk (.inr r.z)).isSome = true then [.str "name",(zL fk (.inr r.z)).getD .non] else [.str "free"]
def zc0 (fk:List (Key × V)):Prop:=∀ k v,zL fk k = some v->xE v = true
def zax (c:C5):Sp:=fun vs H Q _=>∃ (p d:Addr) (i many:Nat) (r:Rw) (fk:List (Key × V)),vs = [.ref p,.int (i:Nat),.int (many:Nat),.ref d]/\PAt c H p r/\r.ok/\Rd H d (.dK fk)/\∀ (u:Addr) (H':Hp),zm H H'->H' u = some (.tup (vB r i many fk))->Q (.ref u) H'
def xx (r:Rw) (i many:Nat) (fk:List (Key × V)):Bool:=!fr r.k r.b && L2.eqT (vB r i many fk) [.str "free"]
def wE (many:Nat) (fk:List (Key × V)):Nat->List Rw->List (Str × Nat)
 | _,[]=>[]
 | i,r :: rs=>(if xx r i many fk = true then [(("lacking" : Str),i)] else []) ++ wE many fk (i + 1) rs
theorem jY {many:Nat} {fk:List (Key × V)} {r:Rw}:∀ (rows:List Rw) (j i:Nat),rows[i]? = some r->wE many fk j (rows.take (i + 1)) = wE many fk j (rows.take i) ++ (if xx r (j + i) many fk = true then [(("lacking" : Str),j + i)] else [])
 | [],_,_,h=>by simp at h
 | y :: ys,j,0,h=>by
  have e:y = r:=by simpa using h
  subst e
  show (_ ++ []) = [] ++ _
  rw [List.append_nil,List.nil_append]
  rfl
 | y :: ys,j,i + 1,h=>by
  have:=jY (many:=many) (fk:=fk) ys (j + 1) i (by simpa using h)
  show _ ++ wE many fk (j + 1) (ys.take (i + 1)) = _
  rw [this,show j + 1 + i = j + (i + 1) by omega,<- List.append_assoc]
  rfl
theorem uY (many:Nat) (fk:List (Key × V)):∀ (rows:List Rw) (i:Nat),(wE many fk i rows).length<=rows.length
 | [],_=>Nat.le_refl _
 | r :: rs,i=>by
  have:=uY many fk rs (i + 1)
  show (_ ++ wE many fk (i + 1) rs).length<=rs.length + 1
  rw [List.length_append]
  split
  ·rw [List.length_singleton]; omega
  ·rw [List.length_nil]; omega
theorem zea {r:Rw} {i many:Nat} {fk:List (Key × V)} (h:zc0 fk):(vB r i many fk).all xE = true:=by
 unfold vB
 split
 ·rfl
 ·split
  next h2=>
   obtain ⟨v,hv⟩:=Option.isSome_iff_exists.mp h2.2
   rw [hv]
   show (true && (xE v && true)) = true
   rw [h _ _ hv]
   rfl
  ·rfl
def zaz (c:C5) (CF:Addr):Sp:=fun vs H Q _=>∃ (f d:Addr) (many:Nat) (rows:List Rw) (bars:List Str) (fk:List (Key × V)),vs = [.ref f,.int (many:Nat),.ref d]/\rows.length<=500/\(∀ r ∈ rows,r.ok)/\xi c CF H f rows bars/\Rd H d (.dK fk)/\zc0 fk/\∀ (l:Addr) (H':Hp),zm H H'->zb4 H H' l (wE many fk 0 rows)->Q (.ref l) H'
theorem zm.rd {H H':Hp} {a:Addr} {u:HO} (s:zm H H') (h:Rd H a u):Rd H' a u:=h.elim (fun e=>.inl (s _ _ e)) fun ⟨o,e⟩=>.inr ⟨o,s _ _ e⟩
section
variable {P:Program} {w:World} {K:Frag} {mg:Str->Option Value} {base:Heap} {f CF:Addr} {fd:FuncData} {c:C5} {m:MA}
theorem zjn:([Str.ofString "number"]:List Str).Nodup:=by decide +kernel
theorem zgs:zu ["form","many"] ["form","many"] (ze uF):=⟨rfl,rfl,rfl,by decide +kernel,rfl,by decide +kernel,by decide +kernel⟩
theorem zfw {gT gP:Addr} {eT eP:FuncData} (F:Fun K "overs" "overs" uF f fd) (hran:mg "range" = none) (FK:FC K CF) (mT:y6 K CF "tail" gT) (GT:zE P w K mg base CX0 1 gT eT ["self"] (wL c CF 2)) (bT:zS K eT ["self"] []) (mP:y6 K CF "places" gP) (GP:zE P w K mg base CX0 1 gP eP ["self"] (wM c CF)) (bP:zS K eP ["self"] []) :
  zE P w K mg base CX0 2 f fd ["form","many"] (zaw c CF):=by
 refine F.ok zgs (fun vs H Q E h=>?_) (fun cdv A outer s H vs Q E hr h=>?_)
 ·obtain ⟨f,many,rows,bars,rfl,_⟩:=h
  rfl
 obtain ⟨f,many,rows,bars,rfl,lm,l5,hF,q⟩:=h
 refine ⟨_,zd (zI (vA (zgH (yA (pv 0) FK.cl mT GT hr bT .nil y7))) (zh (zA (zM zc))) zC)
  (zh (zA (xp [] ["number"] [none] rfl ⟨rfl,rfl,rfl,rfl⟩ (zd4 rfl hran (ac (yA (pv 0) FK.cl mP GP hr bP .nil y7) (ac (pv 1) zc))) (zW 0) rfl rfl rfl
   (fun pins fp s H C=>⟨zn (i:=0) zjn rfl (Or.inl rfl) (.inr rfl),xz,zR (ac zl (ac (pv 0) zc))⟩)))),?_⟩
 obtain ⟨dx,fs,lr,lb,ld,ps,h1,h2,h3,h4,h5,h6⟩:=id hF
 have nmT:fs.lookup ("tail" : Str) = none:=h2.no _ (by decide +kernel)
 have nmP:fs.lookup ("places" : Str) = none:=h2.no _ (by decide +kernel)
 refine ⟨_,rfl,f,dx,fs,rfl,h1,nmT,f,rows,bars,rfl,hF,?_⟩
 refine ⟨_,rfl,?_⟩
 cases e:zD 2 0 rows with
 | some i=>
  have ef:vw rows many = []:=by unfold vw; rw [e]; rfl
  have ne:(!decide (xT (some i) = V.non)) = true:=rfl
  rw [if_pos ne]
  refine ⟨zz0,fun l hl=>?_⟩
  exact q l _ (zb hl _) ⟨[],hl,za,by rw [ef]; exact .nil⟩
 | none=>
  have ef:vw rows many = (List.range (many - plN rows)).map fun i=>((("over" : Str),plN rows + i):Str × Nat):=by unfold vw; rw [e]; rfl
  refine yk ?_
  have lp:plN rows<=500:=Nat.le_trans (List.length_filter_le _ _) l5
  refine ⟨_,rfl,f,dx,fs,rfl,h1,nmP,f,rows,bars,rfl,hF,_,rfl,(plN rows:Nat),(many:Nat),rfl,⟨by omega,by omega,by omega,by omega⟩,fun D hD=>?_⟩
  have en:((many:Int) - (plN rows:Int)).toNat = many - plN rows:=by omega
  refine jX (n:=((many:Int) - (plN rows:Int)).toNat) (fun i ys H'=>∃ us,ys = us.map V.ref/\zm H H'/\H' D = some (.lst ys)/\wm H' us ((List.range i).map fun i=>((("over" : Str),plN rows + i):Str × Nat))) ⟨[],rfl,zb hD _,za,.nil⟩ ?_ ?_
  ·rintro i ys H' hi ⟨us,rfl,sH,hDy,hm⟩
   have lu:us.length = i:=by rw [hm.length,List.length_map,List.length_range]
   refine ⟨fun _=>?_,fun e=>Bool.noConfusion e⟩
   refine ⟨_,rfl,zz2,fun t ht=>?_⟩
   have s2:=zb ht (.tup [.str "over",.int ((plN rows:Int) + (i:Int))])
   have hDy2:=s2 _ _ hDy
   refine lcN.mk hi (ye (by omega)) hDy2 (by rw [List.length_map,lu]; exact Nat.le_refl _) ⟨us ++ [t],by rw [List.map_append]; rfl,fun b' u' e'=>?_,za,?_⟩
   ·rw [zi (zf e' hD)]
    exact s2 _ _ (sH _ _ e')
   ·rw [List.range_succ,List.map_append]
    have hu:MA1 (upd H' t (.tup [.str "over",.int ((plN rows:Int) + (i:Int))])) t ("over",plN rows + i):=by
     show upd H' t _ t = _
     rw [za]
     rfl
    exact ((hm.same s2).snoc hu).upd hDy2
  ·rintro ys H' ⟨us,rfl,sH,hDy,hm⟩
   rw [en,<- ef] at hm
   exact q D H' sH ⟨us,hD,hDy,hm⟩
theorem zhZ:zu ["parameter","number","many","firsts"] ["parameter","number","many","firsts"] (ze qA):=⟨rfl,rfl,rfl,by decide +kernel,rfl,by decide +kernel,by decide +kernel⟩
theorem zgP {gp gb:FuncData} (F:Fun K "one_entry" "one_entry" qA f fd) (PP:Pcs K m c) (GP:zE P w K mg base CX0 1 m.fP gp ["self"] (zaC K m bpL)) (bP:zS K gp ["self"] []) (GB:zE P w K mg base CX0 1 m.fB gb ["self"] (zaC K m bnL)) (bB:zS K gb ["self"] []) :
  zE P w K mg base CX0 2 f fd ["parameter","number","many","firsts"] (zax c):=by
 refine F.ok zhZ (fun vs H Q E h=>?_) (fun cdv A outer s H vs Q E hr h=>?_)
 ·obtain ⟨p,d,i,many,r,fk,rfl,_⟩:=h
  rfl
 obtain ⟨p,d,i,many,r,fk,rfl,⟨dx,hp⟩,rok,hd,q⟩:=h
 have hu1:=qZ hr
 have C:=PP r.k rok.1
 refine ⟨_,zd (zI (PW.pt (xn (yr (yA (pv 0) C.cl C.mP GP hr bP .nil y7)) (yQ (zk ja (pv 1) (pv 2) (zt _))))) (zh (zA (zR (ac zl (ac (pv 1) zc))))) zC)
  (zd (zI (PW.pt (xn (yr (yA (pv 0) C.cl C.mB GB hr bB .nil y7)) (yQ (vA (zig hu1 (yO (pv 0) rfl) (pv 3)))))) (zh (zA (zR (ac zl (ac (jq hu1 (pv 3) (yO (pv 0) rfl) (fun _ _=>rfl)) zc))))) zC)
  (zh (zA (zR (ac zl zc))))),?_⟩
 have nP:(pr r).lookup ("by_place" : Str) = none:=qQ (by decide +kernel) (by decide +kernel) (by decide +kernel)
 have nB:(pr r).lookup ("by_name" : Str) = none:=qQ (by decide +kernel) (by decide +kernel) (by decide +kernel)
 try dsimp only
 refine yP (fun σ' H'=>σ' = [some (.ref p),some (.int (i:Nat)),some (.int (many:Nat)),some (.ref d)]/\H' = H/\¬ (yL r.k = true/\i < many)) ?_ (fun key=>?_)
 rotate_left
 ·refine ⟨_,rfl,p,dx,_,rfl,hp,nP,p,dx,_,_,_,_,rfl,C,hp,_,rfl,?_⟩
  rw [zfW r.k rok.1]
  cases eb:yL r.k with
  | false=>
   refine yk ?_
   refine yk ?_
   exact key _ _ ⟨rfl,rfl,by rw [eb]; exact fun z=>Bool.noConfusion z.1⟩
  | true=>
   refine xI ?_
   refine ⟨_,rfl,_,rfl,_,_,rfl,rfl,_,rfl,?_⟩
   refine qk (fun c1=>?_) (fun c1=>?_)
   ·have hlt:i < many:=by
     have:=of_decide_eq_true c1
     omega
    refine ⟨_,rfl,zz2,fun t ht=>?_⟩
    exact q t _ (zb ht _) (by rw [za]; unfold vB; rw [if_pos ⟨eb,hlt⟩])
   ·have hlt:¬ i < many:=fun h=>c1 (decide_eq_true (by show (i:Int) < (many:Int); omega))
    exact key _ _ ⟨rfl,rfl,fun z=>hlt z.2⟩
 rintro σ1 H1 ⟨rfl,rfl,nn⟩
 have e1:vB r i many fk = (if z5 r.k = true/\(zL fk (.inr r.z)).isSome = true then [.str "name",(zL fk (.inr r.z)).getD .non] else [.str "free"]):=by unfold vB; rw [if_neg nn]
 try dsimp only
 refine yP (fun σ' H'=>σ' = [some (.ref p),some (.int (i:Nat)),some (.int (many:Nat)),some (.ref d)]/\H' = H1/\¬ (z5 r.k = true/\(zL fk (.inr r.z)).isSome = true)) ?_ (fun key=>?_)
 rotate_left
 ·refine ⟨_,rfl,p,dx,_,rfl,hp,nB,p,dx,_,_,_,_,rfl,C,hp,_,rfl,?_⟩
  rw [ug r.k rok.1]
  cases eb:z5 r.k with
  | false=>
   refine yk ?_
   refine yk ?_
   exact key _ _ ⟨rfl,rfl,by rw [eb]; exact fun z=>Bool.noConfusion z.1⟩
  | true=>
   refine xI ?_
   refine ⟨_,rfl,p,_,dx,_,_,rfl,hp,C.cl,C.nN,jp,_,rfl,d,_,rfl,.inl ⟨fk,.inr r.z,hd,rfl,rfl⟩,_,rfl,?_⟩
   refine qk (fun c1=>?_) (fun c1=>?_)
   ·obtain ⟨v,hv⟩:=Option.isSome_iff_exists.mp c1
    refine ⟨_,rfl,_,rfl,p,_,dx,_,_,rfl,hp,C.cl,C.nN,jp,d,v,rfl,.inl ⟨fk,.inr r.z,hd,rfl,hv.symm⟩,zz2,fun t ht=>?_⟩
    exact q t _ (zb ht _) (by rw [za,e1,if_pos ⟨eb,c1⟩,hv]; rfl)
   ·exact key _ _ ⟨rfl,rfl,fun z=>c1 z.2⟩
 rintro σ2 H2 ⟨rfl,rfl,nn2⟩
 refine ⟨zz1,fun t ht=>?_⟩
 exact q t _ (zb ht _) (by rw [za,e1,if_neg nn2])
theorem jn:zu ["form","many","firsts","found","number","parameter"] ["form","many","firsts"] (ze qD):=⟨rfl,rfl,rfl,by decide +kernel,rfl,by decide +kernel,by decide +kernel⟩
theorem zfz {g gP:Addr} {gd gf eP:FuncData} (F:Fun K "lackings" "lackings" qD f fd) (hen:mg "enumerate" = none) (PP:Pcs K m c) (FK:FC K CF) (mP:y6 K CF "parameters" gP) (GP:zE P w K mg base CX0 1 gP eP ["self"] (jz c CF)) (bP:zS K eP ["self"] [])
  (GF:zE P w K mg base CX0 1 m.fF gf ["self"] (zch K m)) (bF:zS K gf ["self"] []) (cE1:zp P w K mg base 2 "one_entry" g gd ["parameter","number","many","firsts"] (zax c)):zE P w K mg base CX0 3 f fd ["form","many","firsts"] (zaz c CF):=by
 refine F.ok jn (fun vs H Q E h=>?_) (fun cdv A outer s H vs Q E hr h=>?_)
 ·obtain ⟨f,d,many,rows,bars,fk,rfl,_⟩:=h
  rfl
 obtain ⟨f,d,many,rows,bars,fk,rfl,l5,hok,hF,hd,hfl,q⟩:=h
 have hr1:z8 1 _:=hr.mono (by decide)
 have hU:=hr.units
 have hO:∀ C,Cs5 c C->Cls K C/\y6 K C "free" m.fF:=fun C ⟨k,hk,e⟩=>by rw [e]; exact ⟨(PP k hk).cl,(PP k hk).mF⟩
 refine ⟨_,zd (zw (i:=3) jn.nd rfl (Or.inl rfl) (zM zc))
  (zd (y9 PassesOwn.never rfl (xc rfl hen (ac (yA (pv 0) FK.cl mP GP hr1 bP .nil y7) zc)) (yp rfl (zv (zn (i:=4) jn.nd rfl (Or.inl rfl)) (zv (zn (i:=5) jn.nd rfl (Or.inl rfl)) z7)))
   (zh (zI (PW.pt (xn (xg (yr (vV (pv 5) hO GF hr1 bF y7))) (yQ (zk (zby hU) (cF cE1 hr (ac (pv 5) (ac (pv 4) (ac (pv 1) (ac (pv 2) zc))))) (zR (ac zl zc)) (zt _)))))
    (zh (zJ (yV PySem.F.plainAttrs_list PySem.F.slot_list_append PySem.F.type_list_append zQ (pv 3) (ac (zR (ac zl (ac (pv 4) zc))) zc)))) zC)))
  (zh (zA (pv 3)))),?_⟩
 refine ⟨zz0,fun l hl=>?_⟩
 have s1:=zb hl (.lst [])
 have e1:upd H l (.lst []) l = some (.lst []):=za
 show xS _ _ _ _ (upd H l (.lst []))
 generalize upd H l (.lst []) = H1 at s1 e1 |-
 obtain ⟨dx,fs,lr,lb,ld,ps0,h1,h2,h3,h4,h5,h6⟩:=id hF
 have nmP:fs.lookup ("parameters" : Str) = none:=h2.no _ (by decide +kernel)
 refine ⟨_,rfl,f,dx,fs,rfl,s1 _ _ h1,nmP,f,rows,bars,rfl,hF.same s1,fun lp ps H2 s2 np ep hps=>?_⟩
 have e2:=s2 _ _ e1
 have nlp:lp ≠ l:=Ne.symm (zf e1 np)
 have nd:∀ {b:Addr} {u:HO},H b = some u->b ≠ l:=fun e=>zf e hl
 have s12:=s1.trans s2
 have sHl:∀ {H':Hp},(∀ b u,H2 b = some u->b ≠ l->H' b = some u)->zm H H':=fun k b u e=>k b u (s12 _ _ e) (nd e)
 refine ⟨lp,rfl,⟨_,SqL.of ep⟩,wk (K:=K) (a:=lp) (xs:=ps.map V.ref) (fun i σ H'=>∃ (us:List Addr) (v4 v5:Option V),σ = [some (.ref f),some (.int (many:Nat)),some (.ref d),some (.ref l),v4,v5]/\(∀ b u,H2 b = some u->b ≠ l->H' b = some u)/\H' l = some (.lst (us.map V.ref))/\wm H' us (wE many fk 0 (rows.take i)))
  ⟨[],_,_,rfl,fun _ _ e _=>e,e2,.nil⟩ (fun i σ H' _ ⟨_,_,_,_,sH,_⟩=>SqL.of (sH _ _ ep nlp)) ?_ ?_⟩
 ·rintro i x p σ H' hx ⟨us,v4,v5,rfl,sH,hl',hm⟩ hpn
  obtain ⟨pa,hpa,rfl⟩:=xm hx
  obtain ⟨r,hr',dx',hdx⟩:=yj hps hpa
  have rok:=hok r (List.mem_of_getElem? hr')
  have C:=PP r.k rok.1
  have hi:i < rows.length:=(List.getElem?_eq_some_iff.mp hr').1
  have npa:pa ≠ l:=xC hdx e2 (by intro z; cases z)
  have tk:=jY (many:=many) (fk:=fk) rows 0 i hr'
  rw [Nat.zero_add] at tk
  have sp:=zb hpn (.tup [.int (i:Nat),.ref pa])
  have lu:us.length<=i:=by
   rw [hm.length]
   refine Nat.le_trans (uY _ _ _ _) ?_
   rw [List.length_take]
   omega
  have sH1:∀ b u,H2 b = some u->b ≠ l->upd H' p (.tup [.int (i:Nat),.ref pa]) b = some u:=fun b u e n=>sp _ _ (sH b u e n)
  have hl1:=sp _ _ hl'
  have hm1:=hm.same sp
  refine ⟨p,_,rfl,SqT.of za,rfl,_,_,rfl,_,_,rfl,rfl,?_⟩
  generalize upd H' p (.tup [.int (i:Nat),.ref pa]) = H3 at sH1 hl1 hm1 |-
  have hd3:=sH1 _ _ hdx npa
  refine ⟨_,rfl,pa,_,dx',_,rfl,⟨r.k,rok.1,rfl⟩,hd3,qQ (by decide +kernel) (by decide +kernel) (by decide +kernel),pa,dx',_,_,_,_,rfl,C,hd3,_,rfl,?_⟩
  cases ef:fr r.k r.b with
  | true=>
   have il:xx r i many fk = false:=by unfold xx; rw [ef]; rfl
   rw [il,if_neg Bool.false_ne_true,List.append_nil] at tk
   refine yk ?_
   refine yk ?_
   exact ⟨us,_,_,rfl,sH1,hl1,by rw [tk]; exact hm1⟩
  | false=>
   refine xI ?_
   refine ⟨_,rfl,_,rfl,_,rfl,_,rfl,pa,d,i,many,r,fk,rfl,⟨dx',hd3⟩,rok,zm.rd (sHl sH1) hd,fun u H4 s4 e4=>?_⟩
   refine ⟨zz1,fun t ht=>?_⟩
   have s5:=zb ht (.tup [.str "free"])
   refine ⟨u,t,_,_,rfl,rfl,SqT.of (s5 _ _ e4),SqT.of za,zea hfl,rfl,_,rfl,?_⟩
   have s45:=s4.trans s5
   have il:xx r i many fk = L2.eqT (vB r i many fk) [.str "free"]:=by unfold xx; rw [ef]; rfl
   rw [<- il]
   generalize upd H4 t (.tup [.str "free"]) = H5 at s5 s45 |-
   have hl5:=s45 _ _ hl1
   have sH5:∀ b u,H2 b = some u->b ≠ l->H5 b = some u:=fun b u e n=>s45 _ _ (sH1 b u e n)
   refine qk (fun c1=>?_) (fun c1=>?_)
   ·rw [c1,if_pos rfl] at tk
    refine ⟨_,rfl,.inl ⟨rfl,_,SqL.of hl5⟩,_,rfl,zz2,fun t2 ht2=>?_⟩
    have s6:=zb ht2 (.tup [.str "lacking",.int (i:Nat)])
    have hl6:=s6 _ _ hl5
    have hu2:MA1 (upd H5 t2 (.tup [.str "lacking",.int (i:Nat)])) t2 ("lacking",i):=by
     show upd H5 t2 _ t2 = _
     rw [za]
    refine ⟨l,_,.ref t2,rfl,rfl,hl6,zF (by rw [List.length_map]; omega),?_⟩
    refine ⟨us ++ [t2],_,_,rfl,fun b u e n=>?_,by rw [za,List.map_append]; rfl,?_⟩
    ·rw [zi n]
     exact s6 _ _ (sH5 b u e n)
    ·rw [tk]
     exact (((hm1.same s45).same s6).snoc hu2).upd hl6
   ·have c2:xx r i many fk = false:=by
     cases e:xx r i many fk with
     | false=>rfl
     | true=>exact absurd e c1
    rw [c2,if_neg Bool.false_ne_true,List.append_nil] at tk
    exact ⟨us,_,_,rfl,sH5,hl5,by rw [tk]; exact hm1.same s45⟩
 ·rintro σ H' ⟨us,v4,v5,rfl,sH,hl',hm⟩
  rw [List.length_map,hps.length,List.take_length] at hm
  exact ⟨_,rfl,q l H' (sHl sH) ⟨us,hl,hl',hm⟩⟩
end
def fpF:Nat->List (Str × Nat)->List Str->List (Str × Nat)
 | _,acc,[]=>acc
 | i,acc,z :: zs=>fpF (i + 1) (if (acc.any fun p=>decide (p.1 = z)) = true then acc else acc ++ [(z,i)]) zs
def kvP (fp:List (Str × Nat)):List (Key × V):=fp.map fun p=>(.inr p.1,.int (p.2:Nat))
theorem xZ (fp:List (Str × Nat)) (z:Str):(zL (kvP fp) (.inr z)).isSome = fp.any fun p=>decide (p.1 = z):=by
 rw [<- xL]
 unfold kvP
 rw [List.any_map]
 congr 1
 funext p
 show decide ((Sum.inr p.1:Key) = Sum.inr z) = decide (p.1 = z)
 exact zfS _ _
theorem zcO:∀ (zs:List Str) (i:Nat) (acc:List (Str × Nat)),vk i (kvP acc) zs = kvP (fpF i acc zs)
 | [],_,_=>rfl
 | z :: zs,i,acc=>by
  show vk (i + 1) (if (zL (kvP acc) (.inr z)).isSome = true then kvP acc else yf (kvP acc) (.inr z) (.int i)) zs = kvP (fpF (i + 1) (if (acc.any fun p=>decide (p.1 = z)) = true then acc else acc ++ [(z,i)]) zs)
  rw [xZ]
  cases e:acc.any fun p=>decide (p.1 = z) with
  | true=>exact zcO zs (i + 1) acc
  | false=>
   have e2:yf (kvP acc) (.inr z) (.int (i:Nat)) = kvP (acc ++ [(z,i)]):=by
    unfold yf
    rw [xL,xZ,e,if_neg Bool.false_ne_true]
    unfold kvP
    rw [List.map_append]
    rfl
   rw [if_neg Bool.false_ne_true,if_neg Bool.false_ne_true,e2]
   exact zcO zs (i + 1) _
theorem jr {fp:List (Str × Nat)} {k:Key} {v:V} (h:zL (kvP fp) k = some v):∃ (z:Str) (j:Nat),k = .inr z/\v = .int (j:Nat)/\(z,j) ∈ fp:=by
 unfold zL at h
 cases e:(kvP fp).find? fun kv=>decide (kv.1 = k) with
 | none=>rw [e] at h; cases h
 | some kv=>
  rw [e] at h
  have hm:=List.mem_of_find?_eq_some e
  have hk:=List.find?_some e
  unfold kvP at hm
  obtain ⟨p,hp,rfl⟩:=List.mem_map.mp hm
  exact ⟨p.1,p.2,(of_decide_eq_true hk).symm,(Option.some.inj h).symm,hp⟩
theorem zha (fp:List (Str × Nat)):zc0 (kvP fp):=fun k v h=>by
 obtain ⟨z,j,_,rfl,_⟩:=jr h
 rfl
theorem zdz {z:Str}:∀ (zs:List Str) (i:Nat) (acc:List (Str × Nat)),(acc.any fun p=>decide (p.1 = z)) = true->((fpF i acc zs).any fun p=>decide (p.1 = z)) = true
 | [],_,_,h=>h
 | y :: ys,i,acc,h=>by
  show ((fpF (i + 1) _ ys).any _) = true
  refine zdz ys (i + 1) _ ?_
  split
  ·exact h
  ·rw [List.any_append,h]; rfl
theorem zcP {z:Str}:∀ (zs:List Str) (i:Nat) (acc:List (Str × Nat)),z ∈ zs->((fpF i acc zs).any fun p=>decide (p.1 = z)) = true
 | [],_,_,h=>by cases h
 | y :: ys,i,acc,h=>by
  show ((fpF (i + 1) _ ys).any _) = true
  rcases List.mem_cons.mp h with rfl | h
  ·refine zdz ys (i + 1) _ ?_
   split
   next e=>exact e
   ·rw [List.any_append]
    simp
  ·exact zcP ys (i + 1) _ h
def fpZ (zs:List Str):List (Str × Nat):=fpF 0 [] zs
theorem zhC (zs:List Str):vk 0 [] zs = kvP (fpZ zs):=zcO zs 0 []
def ji (fk:List (Key × V)):Nat->List Str->List (Str × Nat)
 | _,[]=>[]
 | i,z :: zs=>(if zL fk (.inr z) = some (.int (i:Nat)) then [] else [(("doubled" : Str),i)]) ++ ji fk (i + 1) zs
theorem zah {fk:List (Key × V)} {z:Str}:∀ (zs:List Str) (j i:Nat),zs[i]? = some z->ji fk j (zs.take (i + 1)) = ji fk j (zs.take i) ++ (if zL fk (.inr z) = some (.int (j + i:Nat)) then [] else [(("doubled" : Str),j + i)])
 | [],_,_,h=>by simp at h
 | y :: ys,j,0,h=>by
  have e:y = z:=by simpa using h
  subst e
  show (_ ++ []) = [] ++ _
  rw [List.append_nil,List.nil_append]
  rfl
 | y :: ys,j,i + 1,h=>by
  have:=zah (fk:=fk) ys (j + 1) i (by simpa using h)
  show _ ++ ji fk (j + 1) (ys.take (i + 1)) = _
  rw [this,show j + 1 + i = j + (i + 1) by omega,<- List.append_assoc]
  rfl
theorem j9 (fk:List (Key × V)):∀ (zs:List Str) (i:Nat),(ji fk i zs).length<=zs.length
 | [],_=>Nat.le_refl _
 | r :: rs,i=>by
  have:=j9 fk rs (i + 1)
  show (_ ++ ji fk (i + 1) rs).length<=rs.length + 1
  rw [List.length_append]
  split
  ·rw [List.length_nil]; omega
  ·rw [List.length_singleton]; omega
def yT (rows:List Rw) (bars:List Str) (many:Nat) (z:Str):Option Str:=
 if z ∈ bars then some "barred" else match lastD' z rows with
  | none=>if (zD 4 0 rows).isSome = true then none else some "strange"
  | some l=>if l < plN rows/\l < many then some "again" else none
where lastD' (z:Str) (rows:List Rw):Option Nat:=match zL (yu 0 [] rows) (.inr z) with
 | some (.int i)=>some i.toNat
 | _=>none
def jx (rows:List Rw) (bars:List Str) (many:Nat) (fp:List (Str × Nat)):List (Str × Nat):=fp.filterMap fun p=>(yT rows bars many p.1).map fun wd=>(wd,p.2)
def vy (rows:List Rw) (bars:List Str) (many:Nat) (zs:List Str):List (Str × Nat):=ji (kvP (fpZ zs)) 0 zs ++ vw rows many ++ jx rows bars many (fpZ zs) ++ wE many (kvP (fpZ zs)) 0 rows
def zeU (c:C5) (CF:Addr):Sp:=fun vs H Q _=>∃ (f d:Addr) (o:Obj) (many:Nat) (rows:List Rw) (bars:List Str) (fp:List (Str × Nat)),vs = [.ref f,.int (many:Nat),.ref d]/\rows.length<=500/\bars.length<=500/\fp.length<=900/\xi c CF H f rows bars/\H d = some (.frz o (.dK (kvP fp)))/\∀ (l:Addr) (H':Hp),zm H H'->zb4 H H' l (jx rows bars many fp)->Q (.ref l) H'
def zda (c:C5) (CF:Addr):Sp:=fun vs H Q _=>∃ (f a:Addr) (many:Nat) (rows:List Rw) (bars zs:List Str),vs = [.ref f,.int (many:Nat),.ref a]/\rows.length<=500/\bars.length<=500/\many<=900/\zs.length<=900/\(∀ r ∈ rows,r.ok)/\xi c CF H f rows bars/\H a = some (.lst (zs.map V.str))/\∀ (l:Addr) (H':Hp),zm H H'->zb4 H H' l (vy rows bars many zs)->Q (.ref l) H'
theorem zaX:∀ (zs:List Str) (i:Nat) (acc:List (Str × Nat)),(fpF i acc zs).length<=acc.length + zs.length
 | [],_,_=>Nat.le_refl _
 | z :: zs,i,acc=>by
  have h:=zaX zs (i + 1) (if (acc.any fun p=>decide (p.1 = z)) = true then acc else acc ++ [(z,i)])
  have h2:(if (acc.any fun p=>decide (p.1 = z)) = true then acc else acc ++ [(z,i)]).length<=acc.length + 1:=by
   split
   ·omega
   ·rw [List.length_append]; exact Nat.le_refl _
  show (fpF (i + 1) _ zs).length<=acc.length + (zs.length + 1)
  omega
theorem wm.app {H:Hp} {us vs:List Addr} {ms ns:List (Str × Nat)} (h:wm H us ms) (h':wm H vs ns):wm H (us ++ vs) (ms ++ ns):=yE h h'
section
variable {P:Program} {w:World} {K:Frag} {mg:Str->Option Value} {base:Heap} {f CF:Addr} {fd:FuncData} {c:C5} {m:MA}
theorem zjs:([Str.ofString "number",Str.ofString "name",Str.ofString "firsts"]:List Str).Nodup:=by decide +kernel
theorem ze0:zu ["form","many","names","firsts","doubled"] ["form","many","names"] (ze zdY):=⟨rfl,rfl,rfl,by decide +kernel,rfl,by decide +kernel,by decide +kernel⟩
theorem zil {g1 g2 g3 g4:Addr} {d1 d2 d3 d4:FuncData} (F:Fun K "misfits_of" "misfits_of" zdY f fd) (hen:mg "enumerate" = none) (c1:zp P w K mg base 1 "first_numbers" g1 d1 ["names"] vP) (c2:zp P w K mg base 2 "overs" g2 d2 ["form","many"] (zaw c CF)) (c3:zp P w K mg base 2 "unwelcomes" g3 d3 ["form","many","firsts"] (zeU c CF)) (c4:zp P w K mg base 3 "lackings" g4 d4 ["form","many","firsts"] (zaz c CF)) :
  zE P w K mg base CX0 4 f fd ["form","many","names"] (zda c CF):=by
 refine F.ok ze0 (fun vs H Q E h=>?_) (fun cdv A outer s H vs Q E hr h=>?_)
 ·obtain ⟨f,a,many,rows,bars,zs,rfl,_⟩:=h
  rfl
 obtain ⟨f,a,many,rows,bars,zs,rfl,l5,lb5,lm,lz,hok,hF,ha,q⟩:=h
 have hr1:z8 1 _:=hr.mono (by decide)
 have hr2:z8 2 _:=hr.mono (by decide)
 have hu1:=qZ hr
 refine ⟨_,zd (zw (i:=3) ze0.nd rfl (Or.inr rfl) (cF c1 hr1 (ac (pv 2) zc)))
  (zd (jM (i:=4) ["firsts"] ["number","name","firsts"] [none,none,some 3] ze0.nd rfl (Or.inl rfl) rfl ⟨rfl,rfl,rfl,rfl⟩ (xc rfl hen (ac (pv 2) zc)) (y4 (K:=K) (n:=2) 0 1) rfl rfl rfl
   (fun pins fp s H C=>⟨yp rfl (zv (zn (i:=0) zjs rfl (Or.inl rfl) (.inr rfl)) (zv (zn (i:=1) zjs rfl (Or.inl rfl) (.inr rfl)) z7)),yq (zk zbw (jq hu1 (pv 2) (pv 1) (fun _ _=>rfl)) (pv 0) (zt _)),zR (ac zl (ac (pv 0) zc))⟩))
  (zh (zA (zx yW (zx yW (zx yW (pv 4) (cF c2 hr2 (ac (pv 0) (ac (pv 1) zc)))) (cF c3 hr2 (ac (pv 0) (ac (pv 1) (ac (pv 3) zc))))) (cF c4 hr (ac (pv 0) (ac (pv 1) (ac (pv 3) zc)))))))),?_⟩
 refine ⟨_,rfl,a,zs,rfl,ha,lz,fun d o H1 s1 hd0 hd1=>?_⟩
 rw [zhC] at hd1
 have lfp:(fpZ zs).length<=900:=by
  have:=zaX zs 0 []
  show (fpF 0 [] zs).length<=900
  simp at this
  omega
 generalize hfp:fpZ zs = fp at hd1 lfp
 refine ⟨_,rfl,a,rfl,⟨_,SqL.of (s1 _ _ ha)⟩,fun D hD=>?_⟩
 refine zaR (K:=K) (xs:=zs.map V.str) (fun i ys H'=>∃ us,ys = us.map V.ref/\zm H1 H'/\H' D = some (.lst ys)/\wm H' us (ji (kvP fp) 0 (zs.take i))) ⟨[],rfl,zb hD _,za,.nil⟩ (fun i ys H' ⟨_,_,h,_⟩=>SqL.of (h _ _ (s1 _ _ ha))) ?_ ?_
 ·rintro i x p ys H' hlt hx ⟨us,rfl,sH,hDy,hm⟩ hpn
  obtain ⟨z,hz,rfl⟩:=strs_at hx
  have hi:i < zs.length:=(List.getElem?_eq_some_iff.mp hz).1
  have tk:=zah (fk:=kvP fp) zs 0 i hz
  rw [Nat.zero_add] at tk
  have sp:=zb hpn (.tup [.int (i:Nat),.str z])
  have lu:us.length<=i:=by
   rw [hm.length]
   refine Nat.le_trans (j9 _ _ _) ?_
   rw [List.length_take]
   omega
  have hsome:(zL (kvP fp) (.inr z)).isSome = true:=by
   rw [xZ,<- hfp]
   exact zcP zs 0 [] (List.mem_of_getElem? hz)
  obtain ⟨v,hv⟩:=Option.isSome_iff_exists.mp hsome
  obtain ⟨_,j,_,rfl,_⟩:=jr hv
  have hd2:=sp _ _ (sH _ _ hd1)
  have hDy2:=sp _ _ hDy
  have hm2:=hm.same sp
  refine ⟨p,_,rfl,SqT.of za,rfl,_,_,rfl,_,_,rfl,rfl,?_⟩
  have sA:=sH.trans sp
  generalize upd H' p (.tup [.int (i:Nat),.str z]) = H3 at sp hd2 hDy2 hm2 sA |-
  refine ⟨_,rfl,_,rfl,d,_,rfl,.inl ⟨_,.inr z,.inr ⟨o,hd2⟩,rfl,hv.symm⟩,_,rfl,rfl,_,rfl,?_⟩
  by_cases ej:j = i
  ·subst ej
   rw [if_pos hv,List.append_nil] at tk
   have ed:(!decide (V.int (j:Nat) = V.int (j:Nat))) = false:=by rw [decide_eq_true rfl]; rfl
   rw [ed]
   exact ⟨fun e=>Bool.noConfusion e,fun _=>lcS.mk hlt ⟨us,rfl,sA,hDy2,by rw [tk]; exact hm2⟩⟩
  ·have nv:¬ zL (kvP fp) (.inr z) = some (.int (i:Nat)):=fun e=>by
    rw [hv] at e
    have:=V.int.inj (Option.some.inj e)
    omega
   rw [if_neg nv] at tk
   have ed:(!decide (V.int (j:Nat) = V.int (i:Nat))) = true:=by
    rw [decide_eq_false (fun e=>by have:=V.int.inj e; omega)]
    rfl
   rw [ed]
   refine ⟨fun _=>?_,fun e=>Bool.noConfusion e⟩
   refine ⟨_,rfl,zz2,fun t ht=>?_⟩
   have s4:=zb ht (.tup [.str "doubled",.int (i:Nat)])
   have hDy4:=s4 _ _ hDy2
   have hu:MA1 (upd H3 t (.tup [.str "doubled",.int (i:Nat)])) t ("doubled",i):=by
    show upd H3 t _ t = _
    rw [za]
   refine lcN.mk hlt (ye (by rw [List.length_map]; omega)) hDy4 (by rw [List.length_map]; exact lu) ⟨us ++ [t],by rw [List.map_append]; rfl,fun b' u' e'=>?_,za,?_⟩
   ·rw [zi (zf e' hD)]
    exact s4 _ _ (sA _ _ e')
   ·rw [tk]
    exact ((hm2.same s4).snoc hu).upd hDy4
 rintro ys H2 ⟨us,rfl,s2,hDy,hm⟩
 rw [List.length_map,List.take_length] at hm
 have s12:=s1.trans s2
 have lov:(vw rows many).length<=900:=by
  unfold vw
  split
  ·exact Nat.zero_le _
  ·rw [List.length_map,List.length_range]; omega
 have lun:(jx rows bars many fp).length<=900:=by
  unfold jx
  exact Nat.le_trans (List.length_filterMap_le _ _) lfp
 have lla:=uY many (kvP fp) rows 0
 have ldb:=j9 (kvP fp) zs 0
 have big : 4000<=sizeLine:=by decide
 refine ⟨_,rfl,_,rfl,_,rfl,f,many,rows,bars,rfl,lm,l5,hF.same s12,fun l3 H3 s3 ⟨us3,n3,e3,m3⟩=>?_⟩
 have lu0:=hm.length
 have lu3:=m3.length
 refine ⟨D,l3,_,_,rfl,rfl,s3 _ _ hDy,e3,(by simp only [List.length_map]; omega),fun p4 hp4=>?_⟩
 rw [<- List.map_append]
 have u4:=zb hp4 (.lst ((us ++ us3).map V.ref))
 have e4:upd H3 p4 (.lst ((us ++ us3).map V.ref)) p4 = some (.lst ((us ++ us3).map V.ref)):=za
 have m4:wm (upd H3 p4 (.lst ((us ++ us3).map V.ref))) (us ++ us3) _:=((hm.same s3).app m3).same u4
 generalize upd H3 p4 (.lst ((us ++ us3).map V.ref)) = H4 at u4 e4 m4 |-
 have s24:=s2.trans (s3.trans u4)
 have s14:=s1.trans s24
 refine ⟨_,rfl,_,rfl,_,rfl,f,d,o,many,rows,bars,fp,rfl,l5,lb5,lfp,hF.same s14,s24 _ _ hd1,fun l5' H5 s5 ⟨us5,n5,e5,m5⟩=>?_⟩
 have lu5:=m5.length
 refine ⟨p4,l5',_,_,rfl,rfl,s5 _ _ e4,e5,(by simp only [List.length_map,List.length_append]; omega),fun p6 hp6=>?_⟩
 rw [<- List.map_append]
 have u6:=zb hp6 (.lst ((us ++ us3 ++ us5).map V.ref))
 have e6:upd H5 p6 (.lst ((us ++ us3 ++ us5).map V.ref)) p6 = some (.lst ((us ++ us3 ++ us5).map V.ref)):=za
 have m6:wm (upd H5 p6 (.lst ((us ++ us3 ++ us5).map V.ref))) (us ++ us3 ++ us5) _:=((m4.same s5).app m5).same u6
 generalize upd H5 p6 (.lst ((us ++ us3 ++ us5).map V.ref)) = H6 at u6 e6 m6 |-
 have s26:=s24.trans (s5.trans u6)
 have s16:=s1.trans s26
 refine ⟨_,rfl,_,rfl,_,rfl,f,d,many,rows,bars,kvP fp,rfl,l5,hok,hF.same s16,.inr ⟨o,s26 _ _ hd1⟩,zha fp,fun l7 H7 s7 ⟨us7,n7,e7,m7⟩=>?_⟩
 have lu7:=m7.length
 refine ⟨p6,l7,_,_,rfl,rfl,s7 _ _ e6,e7,(by simp only [List.length_map,List.length_append]; omega),fun p8 hp8=>?_⟩
 rw [<- List.map_append]
 have u8:=zb hp8 (.lst ((us ++ us3 ++ us5 ++ us7).map V.ref))
 refine q p8 _ (s16.trans (s7.trans u8)) ⟨us ++ us3 ++ us5 ++ us7,(s16.trans s7).free hp8,za,?_⟩
 unfold vy
 rw [hfp]
 exact ((m6.same s7).app m7).same u8
end
end K22
namespace L2
open PySem PySem.Spec PyProof.Rows
def seen (val:Nat->Str) (T:Str->Bool):Nat->Nat->Str->Bool
 | _,0,z=>T z
 | i,k + 1,z=>seen val (fun y=>T y || decide (y = val i)) (i + 1) k z
section
variable {P:Program} {w:World} {A:Around} {R:Result->Shared->Prop} {I:Addr} {fp wr:List Addr} {G:Array GenState->Array GenState->Prop} {n:Nat} {Pr:Nat->Value->Prop} {Sg:Nat->Shared->Prop}
theorem jy (W:WalksS P w A.in1 I fp wr G n Pr Sg) (a:Addr) (ha:a ∉ fp) (val:Nat->Str) (hv:∀ i v,Pr i v->∃ t,v = .str (val i) t) (hb:n + 1 < scanBound) :
  ∀ (k i:Nat) (s:Shared) (T:Str->Bool) (c:Nat),n - i = k->i<=n->Sg i s->c<=i->s.heap.SetOf (strKind P w) a T c->
   (∀ s' c',Moved (a :: wr) G s s'->c'<=n->s'.heap.SetOf (strKind P w) a (seen val T i k) c'->R (.ok (.ret .none)) s')->
   codeAny (model P w) A (.builtin "set.update.loop" ⟨[.ref a,.ref I],[]⟩) R s
 | 0,i,s,T,c,hk,hi,hg,hc,hT,hR=>by
  have hw:a ∉ wr:=fun z=>ha (W.sub _ z)
  have ei:i = n:=by omega
  subst ei
  refine codeAny_builtin PyProof.Rows.F.entry_set_update_loop ?_; rw [Around.under_plainId PyProof.Rows.F.plain_set_update_loop _]
  show wpAny _ A.in1 (pyNext (.ref I) >>= _) _ _ _; refine wpAny_bind (W.done s _ _ hg fun s' hm=>?_)
  show wpAny _ A.in1 (ret Value.none) _ _ _; refine wpAny_pure (hR s' c (hm.mono fun b z=>List.mem_cons_of_mem _ z) hc ?_)
  obtain ⟨ob,es,ep,t,h1,h2⟩:=hT
  exact ⟨ob,es,ep,t,hm.heap a _ hw h1,h2⟩
 | k + 1,i,s,T,c,hk,hi,hg,hc,hT,hR=>by
  have hw:a ∉ wr:=fun z=>ha (W.sub _ z)
  have hlt:i < n:=by omega
  refine codeAny_builtin PyProof.Rows.F.entry_set_update_loop ?_; rw [Around.under_plainId PyProof.Rows.F.plain_set_update_loop _]
  show wpAny _ A.in1 (pyNext (.ref I) >>= _) _ _ _; refine wpAny_bind (W.item i s _ _ hlt hg fun v s' hP hg' hm=>?_)
  obtain ⟨t,rfl⟩:=hv i v hP
  have hT':s'.heap.SetOf (strKind P w) a T c:=by
   obtain ⟨ob,es,ep,tb,h1,h2⟩:=hT
   exact ⟨ob,es,ep,tb,hm.heap a _ hw h1,h2⟩
  show wpAny _ A.in1 (holding [Value.str (val i) t] (setAdd a (.str (val i) t)) >>= _) _ _ s'
  refine wpAny_bind (wpAny_holding ?_); unfold setAdd; refine wpAny_holding ?_
  refine wpAny_bind ((strKind P w).pyHash (k:=val i) (strKind_is _ _ _ _) ?_)
  refine wpAny_setAddHashed_of (knd:=strKind P w) (s:={ s' with toks:=s'.toks + 1 }) (strKind_is _ _ _ _) rfl hT' (by omega) fun h' hsb h3=>?_
  refine wpAny_pure ⟨plainId_quiet PyProof.Rows.F.plain_set_update_loop _,jy W a ha val hv hb k (i + 1) _ _ _ (by omega) hlt (W.frame _ s' _ _ hg' (Nat.le_succ _) fun b hb' o e=>?_) (by split <;> omega) h3 fun s2 c2 hm2 hc2 h4=>?_⟩
  ·have:b ≠ a:=fun z=>ha (z ▸ hb')
   rw [hsb.2 b this]; exact e
  ·refine hR s2 c2 (Moved.trans W.gtrans ((hm.mono fun b z=>List.mem_cons_of_mem _ z).then_heap (Nat.le_succ _) fun b o hb' e=>?_) hm2) hc2 h4
   have:b ≠ a:=fun z=>hb' (z ▸ List.mem_cons_self)
   rw [hsb.2 b this]; exact e
end
abbrev jE (led:Bool):Obj:={ cls:=.type "set",dict:=none,data:=.set #[] 0 (.fresh 0 0 led) }
set_option maxHeartbeats 8000000 in
theorem zcW {P:Program} {w:World} {A:Around} {E:Value->Shared->Prop} {s:Shared} {l:Addr} {items:Array Value} {zs:List Str} {Q:Value->Shared->Prop}
  (hh:A.handled = none) (hl:s.heap.IsList l items) (hv:∀ (i:Nat) (v:Value),items[i]? = some v->∃ t,v = .str (zs.getD i "") t) (hb:items.size + 1 < scanBound)
  (h:∀ (h':Heap) (tk c:Nat),h'.SetOf (strKind P w) s.heap.objs.size (seen (fun i=>zs.getD i "") (fun _=>false) 0 items.size) c->(∀ b o,b < s.heap.objs.size->s.heap.get? b = some o->h'.get? b = some o)->Q (.ref s.heap.objs.size) { s with heap:=h',toks:=tk }) :
  wpAny (model P w) A (call (.type "set") [.ref l]) Q E s:=by
 obtain ⟨mc,mt,mro⟩:=PySem.F.called_set.mro
 have q1:=PySem.F.called_set.made; have q2:=PySem.F.called_set.sub; have q3:=PySem.F.called_set.notType; have q4:=PySem.F.called_set.canCreate; have q5:=PySem.F.typeCall_set_1 (.ref l)
 refine wpAny_call (codeAny_of_tree ?_); show wpAny _ _ (callAny (.type "set") _) _ _ _
 refine wpAny_pure ⟨Code.quiet_builtin _ (by decide +kernel),codeAny_builtin PySem.F.entry_type_call ?_⟩; rw [Around.under_plain (weight_type_call_type "set" [.ref l] []) rfl]
 repeat (any_goals first | assumption | wp_step)
 refine codeAny_mono (code_set_new_1 (.ref l) (E:=E) (Q₁:=fun obj s₁=>∃ led:Bool,obj = .ref s.heap.objs.size/\s₁ = { s with heap:=s.heap.push (jE led) }) fun led=>⟨led,rfl,rfl⟩) fun r s₁ hr=>?_
 rcases r with e | (_ | _ | _ | obj)
 ·exact hr
 ·exact hr.elim
 ·exact hr.elim
 ·exact hr.elim
 ·obtain ⟨led,rfl,rfl⟩:=hr
  have hS:(s.heap.push (jE led)).get? s.heap.objs.size = some (jE led):=Heap.get?_push_size _ rfl
  have hT:Shared.TypeIs { s with heap:=s.heap.push (jE led) } (.ref s.heap.objs.size) "set":=⟨_,hS,rfl⟩
  have q6:=PySem.F.called_set.init.lookup; have q7:=PySem.F.called_set.init.bind (.ref s.heap.objs.size)
  repeat (any_goals first | assumption | wp_step)
  refine codeAny_mono (codeAny_call_builtin (R:=wants (fun r s₂=>r = .none/\∃ h' tk c,s₂ = { s with heap:=h',toks:=tk }/\h'.SetOf (strKind P w) s.heap.objs.size (seen (fun i=>zs.getD i "") (fun _=>false) 0 items.size) c/\∀ b o,b < s.heap.objs.size->s.heap.get? b = some o->h'.get? b = some o) E) PySem.F.called_set.init.plain PySem.F.entry_set_init (check_set_init_1 hT ?_)) fun r₂ s₂ hr₂=>?_
  ·obtain ⟨ol,hol,hcl,nl,hdl⟩:=id hl
   obtain ⟨ocls,odict,odata,oslots⟩:=ol
   simp only at hcl hdl
   subst hcl hdl
   have hol':(s.heap.push (jE led)).get? l = _:=Heap.get?_push_of_some (jE led) hol
   have t1:=PySem.F.sub_list_set; have t2:=PySem.F.sub_list_frozenset
   have t3:(Value.type "list" == Value.type "dict") = false:=by decide
   have hl1:(s.heap.push (jE led)).IsList l items:=⟨_,hol',rfl,nl,rfl⟩
   have hlS:l < s.heap.objs.size:=Heap.lt_size hol
   unfold Builtin.«set.__init__» noKeywords Builtin.Frozenset.updateFrom
   generalize hq:pyIter = pit
   wp_walk
   subst hq
   refine wpAny_pyIter_list hl1 (wpAny_bind (wpAny_runValue ?_))
   have hz:(s.heap.push (jE led)).objs.size = s.heap.objs.size + 1:=Heap.size_push ..
   have n1:l ≠ (s.heap.push (jE led)).objs.size:=by rw [hz]; exact Nat.ne_of_lt (Nat.lt_succ_of_lt hlS)
   have n2:∀ b:Addr,b < s.heap.objs.size->b ∉ [s.heap.objs.size,(s.heap.push (jE led)).objs.size]:=fun b hb' z=>by
    rw [hz] at z
    rcases List.mem_cons.mp z with e | e
    ·exact Nat.ne_of_lt hb' e
    ·exact Nat.ne_of_lt (Nat.lt_succ_of_lt hb') (List.mem_singleton.mp e)
   have n3:s.heap.objs.size ∉ [(s.heap.push (jE led)).objs.size,l]:=fun z=>by
    rw [hz] at z
    rcases List.mem_cons.mp z with e | e
    ·exact Nat.ne_of_lt (Nat.lt_succ_self _) e
    ·exact Nat.ne_of_gt hlS (List.mem_singleton.mp e)
   refine jy ((Walks.list (by simp [hh]) _ l n1 items).toS) s.heap.objs.size n3 (fun i=>zs.getD i "") hv hb items.size 0 _ (fun _=>false) 0 (by omega) (Nat.zero_le _) ⟨⟨_,Heap.get?_push_size _ rfl,rfl,rfl⟩,hl1.push _⟩ (Nat.le_refl _) ?_ ?_
   ·exact (PyProof.Rows.setObjOf_fresh (knd:=strKind P w) led).setOf (Heap.get?_push_of_some _ hS) (by unfold scanBound; omega)
   ·rintro ⟨h',g',d',tk',os'⟩ c' hm hc' hS'
    have e1:g' = s.gens:=hm.gens
    have e2:d' = s.drawn:=hm.drawn
    have e3:os' = s.os:=hm.os
    subst e1 e2 e3
    show wpAny _ _ _ _ _ _
    refine wpAny_pure ?_; show wpAny _ _ (ret Value.none) _ _ _
    refine wpAny_pure ⟨rfl,h',tk',c',rfl,hS',fun b o hb' e=>hm.heap b o (n2 b hb') (Heap.get?_push_of_some _ (Heap.get?_push_of_some _ e))⟩
  ·rcases r₂ with e | (_ | _ | _ | ob2)
   ·exact hr₂
   ·exact hr₂.elim
   ·exact hr₂.elim
   ·exact hr₂.elim
   ·obtain ⟨rfl,h',tk,c',rfl,hS',hk'⟩:=hr₂
    repeat (any_goals first | assumption | wp_step)
    exact h _ _ _ hS' hk'
theorem zbg (val:Nat->Str) (z:Str):∀ (k i:Nat) (T:Str->Bool),seen val T i k z = true ↔ (T z = true\/∃ j,j < k/\z = val (i + j))
 | 0,i,T=>⟨fun h=>.inl h,fun h=>h.elim id fun ⟨j,hj,_⟩=>absurd hj (Nat.not_lt_zero _)⟩
 | k + 1,i,T=>by
  show seen val (fun y=>T y || decide (y = val i)) (i + 1) k z = true ↔ _
  rw [zbg val z k (i + 1)]
  simp only [Bool.or_eq_true,decide_eq_true_eq]
  constructor
  ·rintro ((h | h) | ⟨j,hj,e⟩)
   ·exact .inl h
   ·exact .inr ⟨0,by omega,h⟩
   ·exact .inr ⟨j + 1,by omega,by rw [show i + (j + 1) = i + 1 + j by omega]; exact e⟩
  ·rintro (h | ⟨j,hj,e⟩)
   ·exact .inl (.inl h)
   ·cases j with
    | zero=>exact .inl (.inr e)
    | succ j=>exact .inr ⟨j,by omega,by rw [show i + 1 + j = i + (j + 1) by omega]; exact e⟩
theorem zeY (zs:List Str) (z:Str):seen (fun i=>zs.getD i "") (fun _=>false) 0 zs.length z = decide (z ∈ zs):=by
 rw [Bool.eq_iff_iff,zbg,decide_eq_true_eq]
 constructor
 ·rintro (h | ⟨j,hj,e⟩)
  ·cases h
  ·rw [e,Nat.zero_add]
   show zs.getD j "" ∈ zs
   rw [List.getD_eq_getElem?_getD,List.getElem?_eq_getElem hj]
   exact List.getElem_mem hj
 ·intro h
  obtain ⟨j,hj,e⟩:=List.mem_iff_getElem.mp h
  refine .inr ⟨j,hj,?_⟩
  rw [Nat.zero_add]
  show z = zs.getD j ""
  rw [List.getD_eq_getElem?_getD,List.getElem?_eq_getElem hj]
  exact e.symm
theorem zP.strs_at:∀ {zs:List Str} {us:List Value},zP (zs.map V.str) us->∀ (i:Nat) (v:Value),us[i]? = some v->∃ t,v = .str (zs.getD i "") t
 | [],_,.nil,i,v,h=>by simp at h
 | z :: zs,_,.cons r t,0,v,h=>by
  obtain ⟨tk,e⟩:=r
  have:v = .str z tk:=by rw [<- e]; simpa using h.symm
  exact ⟨tk,this⟩
 | z :: zs,_,.cons r t,i + 1,v,h=>zP.strs_at t i v (by simpa using h)
theorem zeB {X:Cx} (hc:X.calm = true):y1 X (.type "set") (fun xs H Q=>∃ (p:Addr) (zs:List Str),xs = [.ref p]/\SqL X.K H p (zs.map V.str)/\zs.length<=900/\∀ (l:Addr) (n:Nat),H l = none->Q (.ref l) (upd H l (wG X.prog X.w l (fun z=>decide (z ∈ zs)) n))):=by
 intro pins s σ H xs us Q I r h
 obtain ⟨p,zs,rfl,hS,lz,q⟩:=h
 obtain ⟨u,rfl,ru⟩:=wB r
 cases ru
 obtain ⟨its,rv,hp,hz⟩:=I.list hS
 have hl:its.length = zs.length:=by rw [<- rv.length,List.length_map]
 have hb:its.toArray.size + 1 < scanBound:=by
  rw [List.size_toArray,hl]
  have : 1000 < scanBound:=by unfold scanBound; decide
  omega
 refine zcW (I.ok.hd hc) hp.isList (fun i v e=>rv.strs_at i v (by simpa using e)) hb fun h' tk c hS' hk=>?_
 have hsz:its.toArray.size = zs.length:=by rw [List.size_toArray,hl]
 rw [hsz] at hS'
 have eS:seen (fun i=>zs.getD i "") (fun _=>false) 0 zs.length = fun z=>decide (z ∈ zs):=funext (zeY zs)
 rw [eS] at hS'
 refine ⟨.ref s.heap.objs.size,_,I.laid (t':=tk) (fun b ob e=>hk b ob (Heap.lt_size e) e) (Nat.le_refl _) (zaH hS'),rfl,q _ c (I.hok.fresh (Nat.le_refl _))⟩
end L2
namespace K22
open PySem L2 PyProof.Rows
theorem zcT:∀ (rows:List Rw) (i:Nat) (acc:List (Key × V)) (k:Key) (v:V),(∀ k v,zL acc k = some v->∃ j:Nat,v = .int (j:Nat))->zL (yu i acc rows) k = some v->∃ j:Nat,v = .int (j:Nat)
 | [],_,acc,k,v,h,e=>h k v e
 | r :: rs,i,acc,k,v,h,e=>by
  refine zcT rs (i + 1) _ k v (fun k v e=>?_) e
  split at e
  ·rw [wJ] at e
   split at e
   ·exact ⟨i,(Option.some.inj e).symm⟩
   ·exact h k v e
  ·exact h k v e
theorem zdJ {rows:List Rw} {bars:List Str} {many:Nat} {fp:List (Str × Nat)} {i:Nat} {p:Str × Nat} (h:fp[i]? = some p):jx rows bars many (fp.take (i + 1)) = jx rows bars many (fp.take i) ++ (match yT rows bars many p.1 with | some wd=>[(wd,p.2)] | none=>[]):=by
 unfold jx
 rw [List.take_add_one,h,List.filterMap_append]
 congr 1
 show List.filterMap _ [p] = _
 rw [List.filterMap_cons,List.filterMap_nil]
 cases yT rows bars many p.1 <;> rfl
theorem zeN (rows:List Rw) (bars:List Str) (many:Nat) (fp:List (Str × Nat)):(jx rows bars many fp).length<=fp.length:=List.length_filterMap_le _ _
section
variable {P:Program} {w:World} {K:Frag} {mg:Str->Option Value} {base:Heap} {f CF:Addr} {fd:FuncData} {c:C5} {m:MA}
theorem qv:zu ["form","many","firsts","barred","found","name","number","leads_to"] ["form","many","firsts"] (ze zdU):=⟨rfl,rfl,rfl,by decide +kernel,rfl,by decide +kernel,by decide +kernel⟩
theorem zij {gB gN gG gP:Addr} {eB eN eG eP:FuncData} (F:Fun K "unwelcomes" "unwelcomes" zdU f fd) (hset:mg "set" = none) (FK:FC K CF) (mB:y6 K CF "bars" gB) (GB:zE P w K mg base CX0 1 gB eB ["self"] (zck c CF)) (bB:zS K eB ["self"] []) (mN:y6 K CF "number_of" gN) (GN:zE P w K mg base CX0 1 gN eN ["self","name"] (zc8 c CF)) (bN:zS K eN ["self","name"] [])
  (mG:y6 K CF "bag" gG) (GG:zE P w K mg base CX0 1 gG eG ["self"] (wL c CF 4)) (bG:zS K eG ["self"] []) (mP:y6 K CF "places" gP) (GP:zE P w K mg base CX0 1 gP eP ["self"] (wM c CF)) (bP:zS K eP ["self"] []) :
  zE P w K mg base CX0 2 f fd ["form","many","firsts"] (zeU c CF):=by
 refine F.ok qv (fun vs H Q E h=>?_) (fun cdv A outer s H vs Q E hr h=>?_)
 ·obtain ⟨f,d,o,many,rows,bars,fp,rfl,_⟩:=h
  rfl
 obtain ⟨f,d,o,many,rows,bars,fp,rfl,l5,lb5,lfp,hF,hd,q⟩:=h
 refine ⟨_,zd (zw (i:=3) qv.nd rfl (Or.inl rfl) (cTy (zeB rfl) hset PyProof.Rows.boot_set (ac (yA (pv 0) FK.cl mB GB hr bB .nil y7) zc)))
  (zd (zw (i:=4) qv.nd rfl (Or.inl rfl) (zM zc))
  (zd (y9 PassesOwn.never rfl (zbo (pv 2)) (yp rfl (zv (zn (i:=5) qv.nd rfl (Or.inl rfl)) (zv (zn (i:=6) qv.nd rfl (Or.inl rfl)) z7)))
   (zd (zw (i:=7) qv.nd rfl (Or.inl rfl) (zaM (pv 0) FK.cl mN GN hr bN .nil y7 (ac (pv 5) zc)))
   (zh (zI (zk jQ (pv 5) (pv 3) (by with_unfolding_all rfl)) (zh (zJ (yV PySem.F.plainAttrs_list PySem.F.slot_list_append PySem.F.type_list_append zQ (pv 4) (ac (zR (ac zl (ac (pv 6) zc))) zc))))
    (zh (zI (vA (zaN (pv 7))) (zh (zI (vA (zaN (yA (pv 0) FK.cl mG GG hr bG .nil y7))) (zh (zJ (yV PySem.F.plainAttrs_list PySem.F.slot_list_append PySem.F.type_list_append zQ (pv 4) (ac (zR (ac zl (ac (pv 6) zc))) zc)))) zC))
     (zh (zI (PW.pt (xn (zk ja (pv 7) (yA (pv 0) FK.cl mP GP hr bP .nil y7) (zt _)) (yQ (zk ja (pv 7) (pv 1) (zt _))))) (zh (zJ (yV PySem.F.plainAttrs_list PySem.F.slot_list_append PySem.F.type_list_append zQ (pv 4) (ac (zR (ac zl (ac (pv 6) zc))) zc)))) zC))))))))
  (zh (zA (pv 4))))),?_⟩
 obtain ⟨dx,fs,lr,lb,ld,ps0,h1,h2,h3,h4,h5,h6⟩:=id hF
 have nmB:fs.lookup ("bars" : Str) = none:=h2.no _ (by decide +kernel)
 have nmN:fs.lookup ("number_of" : Str) = none:=h2.no _ (by decide +kernel)
 have nmG:fs.lookup ("bag" : Str) = none:=h2.no _ (by decide +kernel)
 have nmP:fs.lookup ("places" : Str) = none:=h2.no _ (by decide +kernel)
 refine ⟨_,rfl,f,dx,fs,rfl,h1,nmB,f,rows,bars,rfl,hF,fun lb1 H1 s1 nb eb=>?_⟩
 refine ⟨lb1,bars,rfl,SqL.of eb,by omega,fun sS nS hS=>?_⟩
 have u2:=zb hS (wG P w sS (fun z=>decide (z ∈ bars)) nS)
 have e2:upd H1 sS (wG P w sS (fun z=>decide (z ∈ bars)) nS) sS = some (wG P w sS (fun z=>decide (z ∈ bars)) nS):=za
 show xS _ _ _ _ (upd H1 sS (wG P w sS (fun z=>decide (z ∈ bars)) nS))
 generalize upd H1 sS (wG P w sS (fun z=>decide (z ∈ bars)) nS) = H2 at u2 e2 |-
 refine ⟨zz0,fun l hl=>?_⟩
 have u3:=zb hl (.lst [])
 have e3:upd H2 l (.lst []) l = some (.lst []):=za
 show xS _ _ _ _ (upd H2 l (.lst []))
 generalize upd H2 l (.lst []) = H3 at u3 e3 |-
 have s2:=s1.trans u2
 have s3:=s2.trans u3
 have hlH:H l = none:=s2.free hl
 have nl:∀ {b:Addr} {u:HO},H2 b = some u->b ≠ l:=fun e=>zf e hl
 have sHl:∀ {H':Hp},(∀ b u,H2 b = some u->H' b = some u)->zm H H':=fun k b u e=>k b u (s2 _ _ e)
 refine ⟨_,rfl,d,o,kvP fp,rfl,s3 _ _ hd,zev (d:=d) (o:=o) (kvs:=kvP fp) (fun i σ H'=>∃ (us:List Addr) (v5 v6 v7:Option V),σ = [some (.ref f),some (.int (many:Nat)),some (.ref d),some (.ref sS),some (.ref l),v5,v6,v7]/\(∀ b u,H2 b = some u->H' b = some u)/\H' l = some (.lst (us.map V.ref))/\wm H' us (jx rows bars many (fp.take i)))
  ⟨[],_,_,_,rfl,fun _ _ e=>u3 _ _ e,e3,.nil⟩ (fun i σ H' _ ⟨_,_,_,_,_,sH,_⟩=>sH _ _ (s2 _ _ hd)) ?_ ?_⟩
 ·rintro i k v p σ H' hk ⟨us,v5,v6,v7,rfl,sH,hl',hm⟩ hpn
  obtain ⟨z,n,hz,rfl,rfl⟩:∃ (z:Str) (n:Nat),fp[i]? = some (z,n)/\k = .inr z/\v = .int (n:Nat):=by
   unfold kvP at hk
   rw [List.getElem?_map] at hk
   cases e:fp[i]? with
   | none=>rw [e] at hk; cases hk
   | some q=>rw [e] at hk; cases hk; exact ⟨q.1,q.2,rfl,rfl,rfl⟩
  have tk:=zdJ (rows:=rows) (bars:=bars) (many:=many) hz
  dsimp only at tk
  have sp:=zb hpn (.tup [kV (.inr z),.int (n:Nat)])
  have lu:us.length<=i:=by
   rw [hm.length]
   refine Nat.le_trans (zeN _ _ _ _) ?_
   rw [List.length_take]
   omega
  have hi:i < fp.length:=(List.getElem?_eq_some_iff.mp hz).1
  have sH1:∀ b u,H2 b = some u->upd H' p (.tup [kV (.inr z),.int (n:Nat)]) b = some u:=fun b u e=>sp _ _ (sH b u e)
  have hl1:=sp _ _ hl'
  have hm1:=hm.same sp
  refine ⟨p,_,rfl,SqT.of za,rfl,_,_,rfl,_,_,rfl,rfl,?_⟩
  generalize upd H' p (.tup [kV (.inr z),.int (n:Nat)]) = H4 at sH1 hl1 hm1 |-
  have s4:=sHl sH1
  refine ⟨_,rfl,f,dx,fs,rfl,s4 _ _ h1,nmN,_,rfl,f,z,rows,bars,rfl,hF.same s4,?_⟩
  refine ⟨_,rfl,_,rfl,sS,_,_,z,rfl,rfl,sH1 _ _ e2,_,rfl,?_⟩
  by_cases hz1:z ∈ bars
  ·refine dT hz1 ?_
   rw [show yT rows bars many z = some "barred" from if_pos hz1] at tk
   refine ⟨_,rfl,.inl ⟨rfl,_,SqL.of hl1⟩,_,rfl,zz2,fun t ht=>?_⟩
   have s6:=zb ht (.tup [.str "barred",.int (n:Nat)])
   have hl6:=s6 _ _ hl1
   have hu2:MA1 (upd H4 t (.tup [.str "barred",.int (n:Nat)])) t ("barred",n):=by
    show upd H4 t _ t = _
    rw [za]
   refine ⟨l,_,.ref t,rfl,rfl,hl6,zF (by rw [List.length_map]; omega),?_⟩
   refine ⟨us ++ [t],_,_,_,rfl,fun b u e=>?_,by rw [za,List.map_append]; rfl,?_⟩
   ·rw [zi (nl e)]
    exact s6 _ _ (sH1 b u e)
   ·rw [tk]
    exact ((hm1.same s6).snoc hu2).upd hl6
  ·refine dF hz1 ?_
   have e0:yT rows bars many z = (match yT.lastD' z rows with | none=>if (zD 4 0 rows).isSome = true then none else some "strange" | some l=>if l < plN rows/\l < many then some "again" else none):=if_neg hz1
   cases ev:zL (yu 0 [] rows) (.inr z) with
   | none=>
    have e1:yT.lastD' z rows = none:=by unfold yT.lastD'; rw [ev]
    rw [e1] at e0
    refine ⟨_,rfl,_,rfl,?_⟩
    refine dT rfl ?_
    refine ⟨_,rfl,f,dx,fs,rfl,s4 _ _ h1,nmG,f,rows,bars,rfl,hF.same s4,_,rfl,?_⟩
    cases eg:zD 4 0 rows with
    | none=>
     have e2':yT rows bars many z = some "strange":=by rw [e0,eg]; rfl
     refine dT rfl ?_
     rw [show yT rows bars many z = some "strange" from e2'] at tk
     refine ⟨_,rfl,.inl ⟨rfl,_,SqL.of hl1⟩,_,rfl,zz2,fun t ht=>?_⟩
     have s6:=zb ht (.tup [.str "strange",.int (n:Nat)])
     have hl6:=s6 _ _ hl1
     have hu2:MA1 (upd H4 t (.tup [.str "strange",.int (n:Nat)])) t ("strange",n):=by
      show upd H4 t _ t = _
      rw [za]
     refine ⟨l,_,.ref t,rfl,rfl,hl6,zF (by rw [List.length_map]; omega),?_⟩
     refine ⟨us ++ [t],_,_,_,rfl,fun b u e=>?_,by rw [za,List.map_append]; rfl,?_⟩
     ·rw [zi (nl e)]
      exact s6 _ _ (sH1 b u e)
     ·rw [tk]
      exact ((hm1.same s6).snoc hu2).upd hl6
    | some j=>
     have e2':yT rows bars many z = none:=by rw [e0,eg]; rfl
     refine dF (by intro z; cases z) ?_
     rw [show yT rows bars many z = none from e2',List.append_nil] at tk
     exact ⟨us,_,_,_,rfl,sH1,hl1,by rw [tk]; exact hm1⟩
   | some v=>
    obtain ⟨j,rfl⟩:=zcT rows 0 [] (.inr z) v (fun k v e=>by cases e) ev
    have e1:yT.lastD' z rows = some j:=by unfold yT.lastD'; rw [ev]; rfl
    rw [e1] at e0
    refine ⟨_,rfl,_,rfl,?_⟩
    refine dF (by intro z; cases z) ?_
    refine ⟨_,rfl,_,rfl,f,dx,fs,rfl,s4 _ _ h1,nmP,f,rows,bars,rfl,hF.same s4,_,_,rfl,rfl,_,rfl,?_⟩
    by_cases hj1:j < plN rows
    ·refine vF (decide_eq_true (by show (j:Int) < (plN rows:Int); omega)) ?_
     refine ⟨_,rfl,_,rfl,_,_,rfl,rfl,_,rfl,?_⟩
     by_cases hj2:j < many
     ·have e2':yT rows bars many z = some "again":=by rw [e0]; exact if_pos ⟨hj1,hj2⟩
      refine vF (decide_eq_true (by show (j:Int) < (many:Int); omega)) ?_
      rw [show yT rows bars many z = some "again" from e2'] at tk
      refine ⟨_,rfl,.inl ⟨rfl,_,SqL.of hl1⟩,_,rfl,zz2,fun t ht=>?_⟩
      have s6:=zb ht (.tup [.str "again",.int (n:Nat)])
      have hl6:=s6 _ _ hl1
      have hu2:MA1 (upd H4 t (.tup [.str "again",.int (n:Nat)])) t ("again",n):=by
       show upd H4 t _ t = _
       rw [za]
      refine ⟨l,_,.ref t,rfl,rfl,hl6,zF (by rw [List.length_map]; omega),?_⟩
      refine ⟨us ++ [t],_,_,_,rfl,fun b u e=>?_,by rw [za,List.map_append]; rfl,?_⟩
      ·rw [zi (nl e)]
       exact s6 _ _ (sH1 b u e)
      ·rw [tk]
       exact ((hm1.same s6).snoc hu2).upd hl6
     ·have e2':yT rows bars many z = none:=by rw [e0]; exact if_neg fun h=>hj2 h.2
      refine ud (decide_eq_false (by show ¬ (j:Int) < (many:Int); omega)) ?_
      rw [show yT rows bars many z = none from e2',List.append_nil] at tk
      exact ⟨us,_,_,_,rfl,sH1,hl1,by rw [tk]; exact hm1⟩
    ·have e2':yT rows bars many z = none:=by rw [e0]; exact if_neg fun h=>hj1 h.1
     refine ud (decide_eq_false (by show ¬ (j:Int) < (plN rows:Int); omega)) ?_
     refine yk ?_
     rw [show yT rows bars many z = none from e2',List.append_nil] at tk
     exact ⟨us,_,_,_,rfl,sH1,hl1,by rw [tk]; exact hm1⟩
 ·rintro σ H' ⟨us,v5,v6,v7,rfl,sH,hl',hm⟩
  have lk:(kvP fp).length = fp.length:=by unfold kvP; rw [List.length_map]
  rw [lk,List.take_length] at hm
  exact ⟨_,rfl,q l H' (sHl sH) ⟨us,hlH,hl',hm⟩⟩
end
def qV (rows:List Rw) (bars:List Str) (c:List yv):List (Str × Nat):=vy rows bars (ym c).length (zV c)
structure vK (K:Frag) (H:Hp) (a:Addr) (ct:List yv):Prop where
 at_:∃ xs,SqL K H a xs/\Paired (zH K T' H 3) xs (ct.map yC)
 lt:(ym ct).length<=900
 lp:(yJ ct).length<=900
structure vJ (c:C5) (CF:Addr) (H:Hp) (f:Addr) (rows:List Rw) (bars:List Str):Prop where
 at_:xi c CF H f rows bars
 lr:rows.length<=500
 lb:bars.length<=500
 ok:∀ r ∈ rows,r.ok
theorem vJ.same {c:C5} {CF:Addr} {H H':Hp} {f:Addr} {rows:List Rw} {bars:List Str} (h:vJ c CF H f rows bars) (s:zm H H'):vJ c CF H' f rows bars:=⟨h.at_.same s,h.lr,h.lb,h.ok⟩
theorem vK.same {K:Frag} {H H':Hp} {a:Addr} {ct:List yv} (h:vK K H a ct) (s:zm H H'):vK K H' a ct:=by
 obtain ⟨⟨xs,h1,h2⟩,l1,l2⟩:=h
 exact ⟨⟨xs,s.seq h1,Paired.imp' (fun _ _ z=>z.same s) h2⟩,l1,l2⟩
def zc9 (K:Frag) (c:C5) (CF:Addr):Sp:=fun vs H Q _=>∃ (f a:Addr) (rows:List Rw) (bars:List Str) (ct:List yv),vs = [.ref f,.ref a]/\vJ c CF H f rows bars/\vK K H a ct/\∀ (l:Addr) (H':Hp),zm H H'->zb4 H H' l (qV rows bars ct)->Q (.ref l) H'
def zcj (K:Frag) (c:C5) (CF:Addr):Sp:=fun vs H Q _=>∃ (f a:Addr) (rows:List Rw) (bars:List Str) (ct:List yv),vs = [.ref f,.ref a]/\vJ c CF H f rows bars/\vK K H a ct/\∀ (H':Hp),zm H H'->Q (.bl (qV rows bars ct).isEmpty) H'
section
variable {P:Program} {w:World} {K:Frag} {mg:Str->Option Value} {base:Heap} {f CF:Addr} {fd:FuncData} {c:C5} {m:MA}
theorem zeZ:zu ["form","call","many","names"] ["form","call"] (ze wb):=⟨rfl,rfl,rfl,by decide +kernel,rfl,by decide +kernel,by decide +kernel⟩
theorem zin {g1 g2:Addr} {d1 d2:FuncData} (F:Fun K "misfits" "misfits" wb f fd) (c1:zp P w K mg base 2 "shape" g1 d1 ["call"] (jl K)) (c2:zp P w K mg base 4 "misfits_of" g2 d2 ["form","many","names"] (zda c CF)):zE P w K mg base CX0 5 f fd ["form","call"] (zc9 K c CF):=by
 refine F.ok zeZ (fun vs H Q E h=>?_) (fun cdv A outer s H vs Q E hr h=>?_)
 ·obtain ⟨f,a,rows,bars,ct,rfl,_⟩:=h
  rfl
 obtain ⟨f,a,rows,bars,ct,rfl,hF,⟨⟨xs,hx,hc⟩,lt,lp⟩,q⟩:=h
 have hr2:z8 2 _:=hr.mono (by decide)
 refine ⟨_,zd (uQ (cF c1 hr2 (ac (pv 1) zc)) (yp rfl (zv (zn (i:=2) zeZ.nd rfl (Or.inl rfl)) (zv (zn (i:=3) zeZ.nd rfl (Or.inl rfl)) z7))))
  (zh (zA (cF c2 hr (ac (pv 0) (ac (pv 2) (ac (pv 3) zc)))))),?_⟩
 refine ⟨_,rfl,a,ct,xs,rfl,hx,hc,lt,lp,fun p l H1 s1 nl ep el=>?_⟩
 refine ⟨p,_,rfl,SqT.of ep,rfl,_,_,rfl,_,_,rfl,rfl,?_⟩
 have hF1:=hF.same s1
 have ln:(zV ct).length<=900:=by unfold zV; rw [List.length_map]; exact lp
 exact ⟨_,rfl,_,rfl,_,rfl,f,l,(ym ct).length,rows,bars,zV ct,rfl,hF.lr,hF.lb,lt,ln,hF.ok,hF1.at_,el,fun l2 H2 s2 ⟨us,n2,e2,m2⟩=>q l2 H2 (s1.trans s2) ⟨us,s1.free n2,e2,m2⟩⟩
theorem zh2:zu ["form","call"] ["form","call"] (ze qI):=⟨rfl,rfl,rfl,by decide +kernel,rfl,by decide +kernel,by decide +kernel⟩
theorem zgY {g1:Addr} {d1:FuncData} (F:Fun K "fits" "fits" qI f fd) (c1:zp P w K mg base 5 "misfits" g1 d1 ["form","call"] (zc9 K c CF)):zE P w K mg base CX0 6 f fd ["form","call"] (zcj K c CF):=by
 refine F.ok zh2 (fun vs H Q E h=>?_) (fun cdv A outer s H vs Q E hr h=>?_)
 ·obtain ⟨f,a,rows,bars,ct,rfl,_⟩:=h
  rfl
 obtain ⟨f,a,rows,bars,ct,rfl,hF,hC,q⟩:=h
 have hU:=hr.units
 have hU0:=hr.units0
 refine ⟨_,zh (zA (yb (OpR.or (zaP hU) (zbz hU0)) (cF c1 hr (ac (pv 0) (ac (pv 1) zc))) (zM zc) (zt _))),?_⟩
 refine ⟨_,rfl,_,rfl,f,a,rows,bars,ct,rfl,hF,hC,fun l H1 s1 ⟨us,nl,el,ml⟩=>?_⟩
 refine ⟨zz0,fun l2 hl2=>?_⟩
 have s2:=zb hl2 (.lst [])
 have lu:=ml.length
 cases e:qV rows bars ct with
 | nil=>
  rw [e] at ml
  cases ml
  refine .inl ⟨l,l2,0,.lst [],fun _=>True,fun _=>True,rfl,rfl,by decide,zH.lst True.intro (s2 _ _ el) .nil,zH.lst True.intro za .nil,?_⟩
  have:=q _ (s1.trans s2)
  rw [e] at this
  exact this
 | cons x xs=>
  refine .inr ⟨l,l2,_,_,rfl,rfl,s2 _ _ el,za,(by rw [List.length_map,lu,e]; exact Nat.succ_ne_zero _),?_⟩
  have:=q _ (s1.trans s2)
  rw [e] at this
  exact this
end
end K22
namespace L2
open PySem PySem.Spec PyProof.Rows
section
variable {X:Cx}
end
def wy (n:Nat):List Int:=(List.range n).map fun (i:Nat)=>(i:Int)
theorem zP.of_at {ts:List Int}:∀ {us:List Value},us.length = ts.length->(∀ (i:Nat) (v:Value),us[i]? = some v->∃ t,v = Value.int (ts.getD i 0) t)->zP (ts.map V.int) us:=by
 induction ts with
 | nil=>
  intro us hl _
  have:us = []:=List.length_eq_zero_iff.mp hl
  subst this
  exact .nil
 | cons t ts ih=>
  intro us hl h
  cases us with
  | nil=>cases hl
  | cons u us=>
   obtain ⟨k,e⟩:=h 0 u rfl
   exact .cons ⟨k,e⟩ (ih (by simpa using hl) fun i v e=>h (i + 1) v e)
section
variable {X:Cx}
theorem zb0:y1 X (.type "range") (fun xs H Q=>∃ n:Nat,xs = [.int (n:Nat)]/\∀ p,H p = none->Q (.ref p) (upd H p (.rng 0 (n:Nat)))):=by
 intro pins s σ H xs us Q I r h
 obtain ⟨n,rfl,q⟩:=h
 obtain ⟨u,rfl,ru⟩:=wB r
 obtain ⟨t,rfl⟩:=ru
 refine call_range_1 ?_
 refine ⟨.ref s.heap.objs.size,_,I.laid (o:=.rng 0 (n:Nat)) (fun b u e=>Heap.get?_push_of_some _ e) (Nat.le_refl _) ?_,rfl,q _ (I.hok.fresh (Nat.le_refl _))⟩
 exact ⟨_,_,_,Heap.get?_push_size _ rfl⟩
theorem qc (hc:X.calm = true):y1 X (.type "list") (fun xs H Q=>∃ (p:Addr) (n:Nat),xs = [.ref p]/\H p = some (.rng 0 (n:Nat))/\n<=900/\∀ l,H l = none->Q (.ref l) (upd H l (.lst ((wy n).map V.int)))):=by
 intro pins s σ H xs us Q I r h
 obtain ⟨p,n,rfl,hp,hn,q⟩:=h
 obtain ⟨u,rfl,ru⟩:=wB r
 cases ru
 obtain ⟨t,u',v',e⟩:=I.hok p _ hp
 refine call_list_range (n:=n) (I.ok.hd hc) e ?_ ?_ (by omega) fun h' tk acc c' hk he hacc=>?_
 ·exact small_one (by omega) (by omega) (by omega) (by omega)
 ·unfold Builtin.Range.rangeSize
  rw [if_pos (by decide)]
  split <;> omega
 ·have hl:acc.toList.length = (wy n).length:=by
   unfold wy
   rw [List.length_map,List.length_range]
   simpa using hacc.1
  have hv:zP ((wy n).map V.int) acc.toList:=zP.of_at hl fun i v e=>by
   obtain ⟨t,rfl⟩:=hacc.2 i v (by simpa using e)
   refine ⟨t,?_⟩
   have hi:i < n:=by
    have:=(List.getElem?_eq_some_iff.mp e).1
    rw [hl] at this
    unfold wy at this
    simpa using this
   have eg:(wy n).getD i 0 = (i:Int):=by
    unfold wy
    rw [List.getD_eq_getElem?_getD,List.getElem?_map,List.getElem?_range hi]
    rfl
   rw [eg]
   simp
  refine ⟨.ref s.heap.objs.size,_,I.laid (t':=tk) (o:=.lst ((wy n).map V.int)) hk (Nat.le_refl _) ⟨?_,acc.toList,c',hv,by simpa using he⟩,rfl,q _ (I.hok.fresh (Nat.le_refl _))⟩
  unfold wy
  rw [List.length_map,List.length_map,List.length_range]
  have : 1000<=sizeLine:=by decide
  omega
end
end L2
namespace L2
open PySem PySem.W PySem.Builtin PySem.Builtin.ObjectAttr PySem.Spec PyProof.Rows
section
variable {prog:Program} {w:World} {A:Around} {E:Value->Shared->Prop} {s:Shared} {K:Frag} {C f:Addr} {us:List Value}
end
section
variable {prog:Program} {w:World} {A:Around} {E:Value->Shared->Prop} {s:Shared} {K:Frag} {C x:Addr} {us:List Value}
end
end L2
namespace L2
open PySem PySem.W PySem.Builtin PySem.Builtin.ObjectAttr PySem.Builtin.Getset_descriptor PySem.Spec PyProof.Rows
section
variable {prog:Program} {w:World} {A:Around} {E:Value->Shared->Prop} {s:Shared} {K:Frag} {C D x dx:Addr} {us:List Value}
end
end L2
namespace L2
open PySem PySem.Spec PyProof.Rows
section
variable {X:Cx} {pins:List (Addr × Obj)} {σ : St} {H:Hp} {s:Shared} {x C t:Addr} {f:Str} {y:V} {u:Value} {A:Around} {E:Value->Shared->Prop}
end
section
variable {X:Cx} {o e value:Expr} {f:Str} {pos pos' tpos:Pos} {ta tv:TE}
end
section
variable {X:Cx} {CX:CXT} {k:Nat} {f C:Addr} {fd:FuncData} {ps:List Str} {sp:Sp} {E:XK} {x:Str} {p pos:Pos} {e:Expr} {es:List Expr} {t:TA}
end
section
variable {X:Cx} {pins:List (Addr × Obj)} {σ : St} {H:Hp} {s:Shared} {ea C t:Addr} {od:Option Addr} {M:Model} {E:Value->Shared->Prop}
end
section
variable {X:Cx} {E:XK} {pos:Pos} {e:Expr} {te:TE}
end
section
variable {P:Program} {w:World} {K:Frag} {mg:Str->Option Value} {base:Heap} {N:List Str} {qual:Str} {scope:Scope} {f:Addr} {cd:Value} {A:Around} {outer:List Env} {s:Shared} {H:Hp} {E E':XK}
end
section
variable {X:Cx} {x:Str} {C:Addr} {B Bn newId nid initId inN:String} {bm bmN:List Value} {np pos:Pos} {e:Expr} {es:List Expr} {t:TA}
end
section
variable {X:Cx} {pins:List (Addr × Obj)} {σ : St} {H:Hp} {s:Shared} {M:Model} {A:Around} {E:Value->Shared->Prop} {i:Nat} {n:Str} {pos:Pos}
end
section
variable {X:Cx} {pins:List (Addr × Obj)} {σ : St} {H:Hp} {s:Shared} {ea:Addr}
variable {st b₀:Stmt} {suite:List Stmt} {c n:Str} {np hpos pos:Pos} {C:Addr} {i:Nat} {tb:XK->TS} {ts:TS} {ok:Value->Prop}
end
section
variable {X:Cx} {pins:List (Addr × Obj)} {σ : St} {e:Expr} {es:List Expr} {t:TA} {E:XK} {x:Str} {p pos:Pos} {k:Nat} {f C:Addr} {fd:FuncData} {ps:List Str} {sp:Sp} {dvs:List V} {ds:List Value}
end
section
variable {M:Model} {A:Around} {E:Value->Shared->Prop} {s:Shared} {base:Heap} {env:Env} {outer:List Env} {L e C t:Addr} {od:Option Addr} {tb0 head:Value} {hn:Bool} {Q:Unit->Shared->Prop}
end
section
variable {X:Cx} {pins:List (Addr × Obj)} {σ : St} {H H':Hp} {s s':Shared} {ea C t:Addr} {od:Option Addr} {M:Model} {E:Value->Shared->Prop}
end
section
variable {X:Cx} {pins:List (Addr × Obj)} {σ : St} {H H':Hp} {s s':Shared} {ea C t:Addr} {od:Option Addr} {M:Model} {A:Around} {E:Value->Shared->Prop} {h5:Heap}
end
section
variable {X:Cx} {E:XK} {pos:Pos} {e:Expr} {te:TE}
end
section
variable {P:Program} {w:World} {K:Frag} {mg:Str->Option Value} {base:Heap} {N:List Str} {qual:Str} {scope:Scope} {f:Addr} {cd:Value} {A:Around} {outer:List Env} {s:Shared} {H:Hp} {E E':XK}
end
section
variable {X:Cx} {k:Nat} {f:Addr} {fd:FuncData} {ps:List Str} {sp:Sp} {E:XK} {x:Str} {p pos:Pos} {e:Expr} {es:List Expr} {t:TA}
end
section
variable {X:Cx} {hs:List ExceptHandler} {th:HK} {c n:Str} {C':Addr} {i:Nat} {ts:TS} {b₀:Stmt} {suite:List Stmt} {np hpos:Pos}
end
section
variable {X:Cx} {st:Stmt} {h₀:ExceptHandler} {hs:List ExceptHandler} {pos:Pos} {tb:XK->TS} {th:HK}
end
section
variable {X:Cx} {pins:List (Addr × Obj)} {σ : St} {e:Expr} {es:List Expr} {te:TE} {t:TA} {E:XK} {x m:Str} {p pos apos:Pos} {k:Nat} {f C:Addr} {fd:FuncData} {ps:List Str} {sp:Sp} {dvs:List V} {ds:List Value}
end
section
variable {X:Cx} {pins:List (Addr × Obj)} {σ : St} {H:Hp} {s:Shared} {x C t:Addr} {f:Str} {A:Around} {E:Value->Shared->Prop}
end
section
variable {X:Cx} {e:Expr} {f:Str} {pos:Pos} {ta:TE}
end
end L2
namespace L2
open PySem PySem.Spec PyProof.Rows PySem.Builtin
section
variable {prog:Program} {w:World} {A:Around} {E:Value->Shared->Prop} {s:Shared} {it ea C t:Addr} {od:Option Addr} {tb:Value} {x left step:Int} {Q:Option Value->Shared->Prop}
end
end L2
namespace L2
open PySem PySem.Spec PyProof.Rows
structure zjJ (ea:Addr) (P:Program) (w:World) (K:Frag) (tg:Expr) (J:It) (fp:List Addr) (it:Addr) (tn:Nat->Heap->Prop):Prop where
 mem:it ∈ fp
 obj:∀ i h,tn i h->∀ b ∈ fp,∃ o,h.get? b = some o/\∀ v,o.data ≠ .cell v
 keep:∀ i h h',tn i h->(∀ b ∈ fp,∀ o,h.get? b = some o->h'.get? b = some o)->tn i h'
 item:∀ (X:Cx),X.prog = P->X.w = w->X.K = K->X.A.handled = some (.ref ea)->∀ (i:Nat) (pins:List (Addr × Obj)) (s:Shared) (σ : St) (H:Hp) (E:Value->Shared->Prop),Inv X pins σ H s->(∀ b ∈ fp,wT X pins H b)->tn i s.heap->J.go i H->
  wpAny (model P w) X.A (pyNext (.ref it)) (fun r s1=>∃ u,r = some u/\
   wpAny (model P w) X.A (letOwnedTupleGo tg (.ref it) u) (fun _ s2=>∃ x H',Inv X pins σ H' s2/\zN x u/\J.yld i H x H'/\tn (i + 1) s2.heap/\∀ b ∈ fp,H' b = none) E s1) E s
 done:∀ (X:Cx),X.prog = P->X.w = w->X.K = K->X.A.handled = some (.ref ea)->∀ (i:Nat) (pins:List (Addr × Obj)) (s:Shared) (σ : St) (H:Hp) (E:Value->Shared->Prop),Inv X pins σ H s->(∀ b ∈ fp,wT X pins H b)->tn i s.heap->J.stop i H->
  wpAny (model P w) X.A (pyNext (.ref it)) (fun r s1=>r = none/\Inv X pins σ H s1) E s
 self:∀ (A:Around) (i:Nat) (s:Shared) (Q:Value->Shared->Prop) (E:Value->Shared->Prop),tn i s.heap->Q (.ref it) s->wpAny (model P w) A (pyIter (.ref it)) Q E s
def zks (X:Cx) (ea:Addr) (pins:List (Addr × Obj)) (σ : St) (tg:Expr) (R:It->Hp->Prop) (itv:Value) (s2:Shared):Prop:=
 ∃ (it:Addr) (fp:List Addr) (tn:Nat->Heap->Prop) (J:It) (H':Hp),itv = .ref it/\Inv X pins σ H' s2/\zjJ ea X.prog X.w X.K tg J fp it tn/\tn 0 s2.heap/\(∀ b ∈ fp,wT X pins H' b)/\R J H'
section
variable {X:Cx} {tg:Expr}
end
section
variable {X:Cx} {pins:List (Addr × Obj)} {σ : St} {s:Shared} {sc:Scope} {fr Nc:List Str} {caps:List (Option Nat)} {elt tg iter:Expr} {ifs:List Expr} {g:TG} {tt:TT} {te:TE} {ow:List Nat} {pos pos2:Pos} {E:Value->Shared->Prop}
end
section
variable {X:Cx} {hs:List ExceptHandler} {th:HK} {c n:Str} {C':Addr} {i:Nat} {ts:TS} {b₀:Stmt} {suite:List Stmt} {np hpos:Pos}
end
section
variable {X:Cx}
end
end L2
namespace L2
open PySem PySem.Spec PyProof.Rows PySem.Builtin
section
variable {prog:Program} {w:World} {A:Around} {E:Value->Shared->Prop} {s:Shared} {it l ea C t:Addr} {od:Option Addr} {tb:Value} {i:Nat} {items:Array Value} {Q:Option Value->Shared->Prop}
end
section
variable {X:Cx} {tg:Expr}
end
section
variable {X:Cx} {sc:Scope} {elt tg iter:Expr} {ifs:List Expr} {g:TG} {tt:TT} {te:TE} {ow:List Nat} {pos:Pos}
end
theorem zfQ {d:Addr} {o:Obj} {kvs:List (Key × V)} {caps:List (Option Nat)} {g:TG} {tt:TT} {te:TE} {σ : St} {H1:Hp} {Q:VK} {D:Addr} (Pv:Nat->List V->Hp->Prop) (h0:Pv 0 [] (upd H1 D (.lst [])))
  (hl:∀ i ys H,Pv i ys H->H d = some (.frz o (.dK kvs)))
  (hs:∀ i k v p ys H,i < kvs.length->kvs[i]? = some (k,v)->Pv i ys H->H p = none->g (.ref p) (y0 caps σ) (upd H p (.tup [kV k,v])) fun σ2 H2=>tt σ2 H2 fun ok H3=>(ok = true->te σ2 H3 (lcN kvs.length i D Pv ys))/\(ok = false->lcS kvs.length i Pv ys H3))
  (hd:∀ ys H,Pv kvs.length ys H->Q (.ref D) H):LCr (Itd d o kvs) caps g tt te σ H1 Q D:=by
 refine ⟨fun i m ys H=>m = kvs.length - i/\i<=kvs.length/\Pv i ys H,⟨kvs.length,by simp,Nat.zero_le _,h0⟩,?_⟩
 rintro i m ys H ⟨rfl,hi,p⟩
 have q:=hl i ys H p
 by_cases hlt:i < kvs.length
 ·refine .inr ⟨⟨q,hlt⟩,fun x H' y=>?_⟩
  obtain ⟨pp,k,v,rfl,hp,y2,rfl⟩:=y
  exact hs i k v pp ys H hlt y2 p hp
 ·have e:i = kvs.length:=by omega
  subst e
  exact .inl ⟨⟨q,Nat.le_refl _⟩,hd ys H p⟩
def yY (a n:Nat):List Int:=(List.range n).map fun (i:Nat)=>((a + i:Nat):Int)
section
variable {X:Cx}
theorem zeD:y1 X (.type "range") (fun xs H Q=>∃ a b:Nat,xs = [.int (a:Nat),.int (b:Nat)]/\∀ p,H p = none->Q (.ref p) (upd H p (.rng (a:Nat) (b:Nat)))):=by
 intro pins s σ H xs us Q I r h
 obtain ⟨a,b,rfl,q⟩:=h
 obtain ⟨u,v,rfl,ru,rv⟩:=qp r
 obtain ⟨t,rfl⟩:=ru
 obtain ⟨t',rfl⟩:=rv
 refine call_range_2 ?_
 refine ⟨.ref s.heap.objs.size,_,I.laid (o:=.rng (a:Nat) (b:Nat)) (fun b u e=>Heap.get?_push_of_some _ e) (Nat.le_refl _) ?_,rfl,q _ (I.hok.fresh (Nat.le_refl _))⟩
 exact ⟨_,_,_,Heap.get?_push_size _ rfl⟩
theorem zb1 (hc:X.calm = true):y1 X (.type "list") (fun xs H Q=>∃ (p:Addr) (a b:Nat),xs = [.ref p]/\H p = some (.rng (a:Nat) (b:Nat))/\a<=900/\b<=900/\∀ l,H l = none->Q (.ref l) (upd H l (.lst ((yY a (b - a)).map V.int)))):=by
 intro pins s σ H xs us Q I r h
 obtain ⟨p,a,b,rfl,hp,ha,hb,q⟩:=h
 obtain ⟨u,rfl,ru⟩:=wB r
 cases ru
 obtain ⟨t,u',v',e⟩:=I.hok p _ hp
 refine call_list_range (n:=b - a) (I.ok.hd hc) e ?_ ?_ (by omega) fun h' tk acc c' hk he hacc=>?_
 ·exact small_one (by omega) (by omega) (by omega) (by omega)
 ·rw [rangeSize_one]
  split <;> omega
 ·have hl:acc.toList.length = (yY a (b - a)).length:=by
   unfold yY
   rw [List.length_map,List.length_range]
   simpa using hacc.1
  have hv:zP ((yY a (b - a)).map V.int) acc.toList:=zP.of_at hl fun i v e=>by
   obtain ⟨t,rfl⟩:=hacc.2 i v (by simpa using e)
   refine ⟨t,?_⟩
   have hi:i < b - a:=by
    have:=(List.getElem?_eq_some_iff.mp e).1
    rw [hl] at this
    unfold yY at this
    simpa using this
   have eg:(yY a (b - a)).getD i 0 = ((a + i:Nat):Int):=by
    unfold yY
    rw [List.getD_eq_getElem?_getD,List.getElem?_map,List.getElem?_range hi]
    rfl
   rw [eg]
   congr 1
   omega
  refine ⟨.ref s.heap.objs.size,_,I.laid (t':=tk) (o:=.lst ((yY a (b - a)).map V.int)) hk (Nat.le_refl _) ⟨?_,acc.toList,c',hv,by simpa using he⟩,rfl,q _ (I.hok.fresh (Nat.le_refl _))⟩
  unfold yY
  rw [List.length_map,List.length_map,List.length_range]
  have : 1000<=sizeLine:=by decide
  omega
end
end L2
namespace L2
open PySem PySem.Spec PyProof.Rows
section
variable {X:Cx}
end
section
variable {X:Cx} {hs:List ExceptHandler} {th:HK} {c n:Str} {C':Addr} {i:Nat} {ts:TS} {b₀:Stmt} {suite:List Stmt} {np hpos:Pos}
end
section
variable {P:Program} {w:World} {K:Frag} {mg:Str->Option Value} {base:Heap}
end
section
variable {X:Cx} {k:Nat} {f ea:Addr} {fd:FuncData} {ps:List Str} {sp:Addr->Sp} {x:Str} {p pos:Pos} {e:Expr} {es:List Expr} {t:TA}
end
theorem zdP {K:Frag} {H3:Hp} {o:HO} {l b:Addr} {zs:List V} (hl:∃ zs,H3 l = some (.lst zs)) (hz:SqT K H3 b zs):SqT K (upd H3 l o) b zs:=by
 obtain ⟨ws,hl⟩:=hl
 rcases hz with (z | ⟨u,z⟩) | z
 ·refine .inl (.inl ?_)
  rw [zi (fun e=>by subst e; rw [hl] at z; cases z)]
  exact z
 ·refine .inl (.inr ⟨u,?_⟩)
  rw [zi (fun e=>by subst e; rw [hl] at z; cases z)]
  exact z
 ·exact .inr z
theorem y3 {K:Frag} {ok ok':Addr->Prop} {H:Hp} {o:HO} {l:Addr} {zs:List V} (hl:H l = some (.lst zs)) (hk:∀ b,ok b->ok' b/\b ≠ l) {n:Nat} {x:V} {d:Dt} (h:zH K ok H n x d):zH K ok' (upd H l o) n x d:=
 h.frame (fun a xs z=>zdP ⟨_,hl⟩ z) fun a xs oa z=>⟨(hk a oa).1,by rw [zi (hk a oa).2]; exact z⟩
theorem zfO {K:Frag} {lo:Int} {n m:Nat} {caps:List (Option Nat)} {g:TG} {tt:TT} {te:TE} {σ : St} {H1:Hp} {Q:VK} {D:Addr} (dt:Nat->Dt) (hD:H1 D = none) (hn:n<=1000)
  (hs:∀ (i:Nat) (H:Hp) (Qf:VK) (Qs:Hp->Prop),i < n->zm H1 H->(∀ v H',zm H H'->zH K (fun a=>H a = none) H' m v (dt i)->Qf v H')->
   g (.int (lo + i)) (y0 caps σ) H fun σ2 H2=>tt σ2 H2 fun ok H3=>(ok = true->te σ2 H3 Qf)/\(ok = false->Qs H3))
  (hd:∀ vs H,zm H1 H->H D = some (.lst vs)->Paired (zH K (fun a=>a ≠ D/\H1 a = none) H m) vs ((List.range n).map dt)->Q (.ref D) H):LCr (Itr lo n) caps g tt te σ H1 Q D:=by
 have sz : 1000<=sizeLine:=by decide
 refine jX (fun i ys H'=>zm H1 H'/\H' D = some (.lst ys)/\Paired (zH K (fun a=>a ≠ D/\H1 a = none) H' m) ys ((List.range i).map dt)) ⟨fun b u e=>by rw [zi (zf e hD)]; exact e,za,.nil⟩ ?_ ?_
 ·rintro i ys H hi ⟨sH,hDy,hp⟩
  refine hs i H _ _ hi sH fun v H' s' hv=>?_
  have ly:ys.length = i:=by rw [hp.length,List.length_map,List.length_range]
  refine lcN.mk hi (by omega) (s' _ _ hDy) (by omega) ⟨fun b u e=>?_,za,?_⟩
  ·rw [zi (zf e hD)]
   exact s' _ _ (sH _ _ e)
  ·rw [List.range_succ,List.map_append]
   refine Paired.snoc (Paired.imp' (fun _ _ z=>y3 (s' _ _ hDy) (fun b o=>⟨o,o.1⟩) (z.same s')) hp) (y3 (s' _ _ hDy) (fun b o=>?_) hv)
   have nb:b ≠ D:=fun e=>by subst e; rw [o] at hDy; cases hDy
   exact ⟨⟨nb,sH.free o⟩,nb⟩
 ·rintro ys H ⟨sH,hDy,hp⟩
  exact hd ys H sH hDy hp
theorem zfP {K:Frag} {a:Addr} {xs:List V} {m:Nat} {caps:List (Option Nat)} {g:TG} {tt:TT} {te:TE} {σ : St} {H1:Hp} {Q:VK} {D:Addr} (dt:Nat->Dt) (hD:H1 D = none) (ha:SqL K H1 a xs) (hn:xs.length<=1000)
  (hs:∀ (i:Nat) (x:V) (p:Addr) (H:Hp) (Qf:VK) (Qs:Hp->Prop),xs[i]? = some x->H p = none->zm H1 H->(∀ v H',zm H H'->zH K (fun a=>H a = none) H' m v (dt i)->Qf v H')->
   g (.ref p) (y0 caps σ) (upd H p (.tup [.int i,x])) fun σ2 H2=>tt σ2 H2 fun ok H3=>(ok = true->te σ2 H3 Qf)/\(ok = false->Qs H3))
  (hd:∀ vs H,zm H1 H->H D = some (.lst vs)->Paired (zH K (fun a=>a ≠ D/\H1 a = none) H m) vs ((List.range xs.length).map dt)->Q (.ref D) H):LCr (Ite K a) caps g tt te σ H1 Q D:=by
 have sz : 1000<=sizeLine:=by decide
 refine zaR (K:=K) (xs:=xs) (fun i ys H'=>zm H1 H'/\H' D = some (.lst ys)/\Paired (zH K (fun a=>a ≠ D/\H1 a = none) H' m) ys ((List.range i).map dt)) ⟨fun b u e=>by rw [zi (zf e hD)]; exact e,za,.nil⟩ (fun i ys H h=>h.1.seq ha) ?_ ?_
 ·rintro i x p ys H hi hx ⟨sH,hDy,hp⟩ hpn
  refine hs i x p H _ _ hx hpn sH fun v H' s' hv=>?_
  have ly:ys.length = i:=by rw [hp.length,List.length_map,List.length_range]
  refine lcN.mk hi (by omega) (s' _ _ hDy) (by omega) ⟨fun b u e=>?_,za,?_⟩
  ·rw [zi (zf e hD)]
   exact s' _ _ (sH _ _ e)
  ·rw [List.range_succ,List.map_append]
   refine Paired.snoc (Paired.imp' (fun _ _ z=>y3 (s' _ _ hDy) (fun b o=>⟨o,o.1⟩) (z.same s')) hp) (y3 (s' _ _ hDy) (fun b o=>?_) hv)
   have nb:b ≠ D:=fun e=>by subst e; rw [o] at hDy; cases hDy
   exact ⟨⟨nb,sH.free o⟩,nb⟩
 ·rintro ys H ⟨sH,hDy,hp⟩
  exact hd ys H sH hDy hp
end L2
namespace K22
open PySem L2 PyProof.Rows
def wP (rows:List Rw) (p:Str × Nat):Bool:=(zL (yu 0 [] rows) (.inr p.1)).isNone
def xj (rows:List Rw) (fp:List (Str × Nat)):List Nat:=(fp.filter (wP rows)).map (·.2)
theorem zcx {rows:List Rw} {fp:List (Str × Nat)} {i:Nat} {p:Str × Nat} (h:fp[i]? = some p):xj rows (fp.take (i + 1)) = xj rows (fp.take i) ++ (if wP rows p = true then [p.2] else []):=by
 unfold xj
 rw [List.take_add_one,h,List.filter_append,List.map_append]
 congr 1
 show List.map _ (List.filter _ [p]) = _
 rw [List.filter_cons,List.filter_nil]
 split <;> rfl
theorem zeh (rows:List Rw) (fp:List (Str × Nat)):(xj rows fp).length<=fp.length:=by
 unfold xj
 rw [List.length_map]
 exact List.length_filter_le _ _
def vD:V->Dt
 | .int n=>.int n
 | .str z=>.str z
 | .bl b=>.bl b
 | _=>.non
def zbR (rows:List Rw) (many:Nat) (fp:List (Str × Nat)) (i:Nat):Dt:=
 if zD 2 0 rows = some i then .tup [.str "places",.lst ((yY (plN rows) (many - plN rows)).map Dt.int)]
 else if zD 4 0 rows = some i then .tup [.str "names",.lst (((xj rows fp).map fun (j:Nat)=>(j:Int)).map Dt.int)]
 else match rows[i]? with
  | some r=>.tup ((vB r i many (kvP fp)).map vD)
  | none=>.non
theorem zfn {K:Frag} {ok:Addr->Prop} {H:Hp} {r:Rw} {i many:Nat} {fp:List (Str × Nat)} {n:Nat}:Paired (zH K ok H n) (vB r i many (kvP fp)) ((vB r i many (kvP fp)).map vD):=by
 unfold vB
 split
 ·exact .cons .str (.cons .int .nil)
 ·split
  next h=>
   obtain ⟨v,hv⟩:=Option.isSome_iff_exists.mp h.2
   obtain ⟨_,j,_,rfl,_⟩:=jr hv
   rw [hv]
   exact .cons .str (.cons .int .nil)
  ·exact .cons .str .nil
def zaD (K:Frag) (c:C5) (CF:Addr):Sp:=fun vs H Q _=>∃ (f d:Addr) (o:Obj) (i many:Nat) (rows:List Rw) (bars:List Str) (fp:List (Str × Nat)) (r:Rw),vs = [.ref f,.int (i:Nat),.int (many:Nat),.ref d]/\many<=900/\fp.length<=900/\rows.length<=500/\rows[i]? = some r/\r.ok/\xi c CF H f rows bars/\H d = some (.frz o (.dK (kvP fp)))/\∀ (u:Addr) (H':Hp),zm H H'->zH K (fun a=>H a = none) H' 2 (.ref u) (zbR rows many fp i)->Q (.ref u) H'
section
variable {P:Program} {w:World} {K:Frag} {mg:Str->Option Value} {base:Heap} {f CF:Addr} {fd:FuncData} {c:C5} {m:MA}
theorem zjr:([Str.ofString "name",Str.ofString "at",Str.ofString "form"]:List Str).Nodup:=by decide +kernel
theorem zgx:zu ["form","number","many","firsts"] ["form","number","many","firsts"] (ze uN):=⟨rfl,rfl,rfl,by decide +kernel,rfl,by decide +kernel,by decide +kernel⟩
theorem zfG {gT gP gB gN gS g1:Addr} {eT eP eB eN eS e1:FuncData} (F:Fun K "entry" "entry" uN f fd) (hran:mg "range" = none) (hlst:mg "list" = none) (FK:FC K CF) (mT:y6 K CF "tail" gT) (GT:zE P w K mg base CX0 1 gT eT ["self"] (wL c CF 2)) (bT:zS K eT ["self"] []) (mP:y6 K CF "places" gP) (GP:zE P w K mg base CX0 1 gP eP ["self"] (wM c CF)) (bP:zS K eP ["self"] [])
  (mB:y6 K CF "bag" gB) (GB:zE P w K mg base CX0 1 gB eB ["self"] (wL c CF 4)) (bB:zS K eB ["self"] []) (mN:y6 K CF "number_of" gN) (GN:zE P w K mg base CX0 1 gN eN ["self","name"] (zc8 c CF)) (bN:zS K eN ["self","name"] []) (mS:y6 K CF "parameters" gS) (GS:zE P w K mg base CX0 1 gS eS ["self"] (jz c CF)) (bS:zS K eS ["self"] [])
  (cE1:zp P w K mg base 2 "one_entry" g1 e1 ["parameter","number","many","firsts"] (zax c)):zE P w K mg base CX0 3 f fd ["form","number","many","firsts"] (zaD K c CF):=by
 refine F.ok zgx (fun vs H Q E h=>?_) (fun cdv A outer s H vs Q E hr h=>?_)
 ·obtain ⟨f,d,o,i,many,rows,bars,fp,r,rfl,_⟩:=h
  rfl
 obtain ⟨f,d,o,i,many,rows,bars,fp,r,rfl,lm,lf,l5,hri,rok,hF,hd,q⟩:=h
 have hr1:z8 1 _:=hr.mono (by decide)
 refine ⟨_,zd (zI (zk zZ (pv 1) (yA (pv 0) FK.cl mT GT hr1 bT .nil y7) (zt _)) (zh (zA (zR (ac zl (ac (cTy (zb1 rfl) hlst PyProof.Rows.boot_list (ac (cTy zeD hran boot_range (ac (yA (pv 0) FK.cl mP GP hr1 bP .nil y7) (ac (pv 2) zc))) zc)) zc))))) zC)
  (zd (zI (zk zZ (pv 1) (yA (pv 0) FK.cl mB GB hr1 bB .nil y7) (zt _)) (zh (zA (zR (ac zl (ac (xp ["form"] ["name","at","form"] [none,none,some 0] rfl ⟨rfl,rfl,rfl,rfl⟩ (zbo (pv 3)) (y4 (K:=K) (n:=2) 0 1) rfl rfl rfl
    (fun pins fp s H C=>⟨yp rfl (zv (zn (i:=0) zjr rfl (Or.inl rfl) (.inr rfl)) (zv (zn (i:=1) zjr rfl (Or.inl rfl) (.inr rfl)) z7)),yq (vA (zaN (zaM (pv 2) FK.cl mN GN hr1 bN .nil y7 (ac (pv 0) zc)))),pv 1⟩)) zc))))) zC)
  (zh (zA (cF cE1 hr (ac (zy xr (yA (pv 0) FK.cl mS GS hr1 bS .nil y7) (pv 1) (fun _ _=>rfl)) (ac (pv 1) (ac (pv 2) (ac (pv 3) zc)))))))),?_⟩
 obtain ⟨dx,fs,lr,lb,ld,ps0,h1,h2,h3,h4,h5,h6⟩:=id hF
 have nmT:fs.lookup ("tail" : Str) = none:=h2.no _ (by decide +kernel)
 have nmP:fs.lookup ("places" : Str) = none:=h2.no _ (by decide +kernel)
 have nmB:fs.lookup ("bag" : Str) = none:=h2.no _ (by decide +kernel)
 have nmN:fs.lookup ("number_of" : Str) = none:=h2.no _ (by decide +kernel)
 have nmS:fs.lookup ("parameters" : Str) = none:=h2.no _ (by decide +kernel)
 have lp:plN rows<=500:=Nat.le_trans (List.length_filter_le _ _) l5
 try dsimp only
 refine yP (fun σ' H'=>σ' = [some (.ref f),some (.int (i:Nat)),some (.int (many:Nat)),some (.ref d)]/\H' = H/\zD 2 0 rows ≠ some i) ?_ (fun key=>?_)
 rotate_left
 ·refine ⟨_,rfl,_,rfl,f,dx,fs,rfl,h1,nmT,f,rows,bars,rfl,hF,?_⟩
  cases hT:zD 2 0 rows with
  | none=>
   refine ⟨rfl,_,rfl,?_⟩
   refine dF (by intro z; cases z) ?_
   exact key _ _ ⟨rfl,rfl,by rw [hT]; intro z; cases z⟩
  | some j=>
   refine ⟨rfl,_,rfl,?_⟩
   by_cases hij:i = j
   ·subst hij
    refine dT rfl ?_
    refine ⟨_,rfl,f,dx,fs,rfl,h1,nmP,f,rows,bars,rfl,hF,_,rfl,plN rows,many,rfl,fun p hp=>?_⟩
    have s1:=zb hp (.rng (plN rows:Nat) (many:Nat))
    refine ⟨p,plN rows,many,rfl,za,by omega,lm,fun l hl=>?_⟩
    have s2:=zb hl (.lst ((yY (plN rows) (many - plN rows)).map V.int))
    refine ⟨by show 2<=sizeLine; decide,fun u hu=>?_⟩
    have s3:=zb hu (.tup [.str "places",.ref l])
    refine q u _ (s1.trans (s2.trans s3)) ?_
    unfold zbR
    rw [if_pos hT]
    exact .tup (SqT.of za) (.cons .str (.cons (.lst (s1.free hl) (s3 _ _ za) (yB _)) .nil))
   ·refine dF (fun z=>hij (by have:=V.int.inj z; omega)) ?_
    exact key _ _ ⟨rfl,rfl,by rw [hT]; intro z; exact hij (Option.some.inj z).symm⟩
 rintro σ1 H1 ⟨rfl,rfl,nT⟩
 try dsimp only
 refine yP (fun σ' H'=>σ' = [some (.ref f),some (.int (i:Nat)),some (.int (many:Nat)),some (.ref d)]/\H' = H1/\zD 4 0 rows ≠ some i) ?_ (fun key=>?_)
 rotate_left
 ·refine ⟨_,rfl,_,rfl,f,dx,fs,rfl,h1,nmB,f,rows,bars,rfl,hF,?_⟩
  cases hB:zD 4 0 rows with
  | none=>
   refine ⟨rfl,_,rfl,?_⟩
   refine dF (by intro z; cases z) ?_
   exact key _ _ ⟨rfl,rfl,by rw [hB]; intro z; cases z⟩
  | some j=>
   refine ⟨rfl,_,rfl,?_⟩
   by_cases hij:i = j
   ·subst hij
    refine dT rfl ?_
    refine ⟨_,rfl,d,o,kvP fp,rfl,hd,fun D hD=>?_⟩
    have lk:(kvP fp).length = fp.length:=by unfold kvP; rw [List.length_map]
    refine zfQ (fun i ys H'=>zm H1 H'/\H' D = some (.lst ys)/\ys = ((xj rows (fp.take i)).map fun (j:Nat)=>(j:Int)).map V.int) ⟨zb hD _,za,rfl⟩ (fun i ys H' h=>h.1 _ _ hd) ?_ ?_
    ·rintro k kk v p ys H' hlt hk ⟨sH,hDy,ey⟩ hpn
     obtain ⟨z,n,hz,rfl,rfl⟩:∃ (z:Str) (n:Nat),fp[k]? = some (z,n)/\kk = .inr z/\v = .int (n:Nat):=by
      unfold kvP at hk
      rw [List.getElem?_map] at hk
      cases e:fp[k]? with
      | none=>rw [e] at hk; cases hk
      | some q=>rw [e] at hk; cases hk; exact ⟨q.1,q.2,rfl,rfl,rfl⟩
     have tk:=zcx (rows:=rows) hz
     have sp:=zb hpn (.tup [kV (.inr z),.int (n:Nat)])
     have sA:=sH.trans sp
     have hDy2:=sp _ _ hDy
     refine ⟨p,_,rfl,SqT.of za,rfl,_,_,rfl,_,_,rfl,rfl,?_⟩
     generalize upd H' p (.tup [kV (.inr z),.int (n:Nat)]) = H2 at sp sA hDy2 |-
     refine ⟨_,rfl,f,dx,fs,rfl,sA _ _ h1,nmN,_,rfl,f,z,rows,bars,rfl,hF.same sA,_,rfl,?_⟩
     have ly:ys.length<=k:=by
      rw [ey,List.length_map,List.length_map]
      refine Nat.le_trans (zeh _ _) ?_
      rw [List.length_take]
      omega
     cases ev:zL (yu 0 [] rows) (.inr z) with
     | none=>
      rw [show wP rows (z,n) = true from by unfold wP; rw [ev]; rfl,if_pos rfl] at tk
      refine ⟨fun _=>?_,fun e=>?_⟩
      ·refine ⟨_,rfl,lcN.mk hlt (ye (by omega)) hDy2 ly ⟨fun b' u' e'=>?_,za,?_⟩⟩
       ·rw [zi (zf e' hD)]
        exact sA _ _ e'
       ·rw [ey,tk,List.map_append,List.map_append]
        rfl
      ·exact Bool.noConfusion e
     | some v'=>
      obtain ⟨j,rfl⟩:=zcT rows 0 [] (.inr z) v' (fun k v e=>by cases e) ev
      rw [show wP rows (z,n) = false from by unfold wP; rw [ev]; rfl,if_neg Bool.false_ne_true,List.append_nil] at tk
      refine ⟨fun e=>?_,fun _=>?_⟩
      ·exact absurd (of_decide_eq_true e) (by intro z; cases z)
      ·exact lcS.mk hlt ⟨sA,hDy2,by rw [ey,tk]⟩
    ·rintro ys H' ⟨sH,hDy,ey⟩
     rw [lk,List.take_length] at ey
     subst ey
     refine ⟨by show 2<=sizeLine; decide,fun u hu=>?_⟩
     have s3:=zb hu (.tup [.str "names",.ref D])
     refine q u _ (sH.trans s3) ?_
     unfold zbR
     rw [if_neg nT,if_pos hB]
     exact .tup (SqT.of za) (.cons .str (.cons (.lst hD (s3 _ _ hDy) (yB _)) .nil))
   ·refine dF (fun z=>hij (by have:=V.int.inj z; omega)) ?_
    exact key _ _ ⟨rfl,rfl,by rw [hB]; intro z; exact hij (Option.some.inj z).symm⟩
 rintro σ2 H2 ⟨rfl,rfl,nB⟩
 refine ⟨_,rfl,f,dx,fs,rfl,h1,nmS,f,rows,bars,rfl,hF,fun lS ps H3 s3 nS eS hps=>?_⟩
 have hi:i < rows.length:=(List.getElem?_eq_some_iff.mp hri).1
 obtain ⟨pa,hpa⟩:∃ pa,ps[i]? = some pa:=⟨_,List.getElem?_eq_getElem (by rw [hps.length]; exact hi)⟩
 obtain ⟨r',hr',hdx⟩:=yj hps hpa
 rw [hri] at hr'
 cases hr'
 refine ⟨_,rfl,lS,_,_,.ref pa,rfl,rfl,SqL.of eS,xf (by rw [List.getElem?_map,hpa]; rfl),_,rfl,_,rfl,_,rfl,pa,d,i,many,r,kvP fp,rfl,hdx,rok,.inr ⟨o,s3 _ _ hd⟩,fun u H4 s4 hu=>?_⟩
 refine q u H4 (s3.trans s4) ?_
 unfold zbR
 rw [if_neg nT,if_neg nB,hri]
 exact .tup (SqT.of hu) zfn
end
def zfk (rows:List Rw) (many:Nat) (zs:List Str):List Dt:=(List.range rows.length).map (zbR rows many (fpZ zs))
def zhU:Sp:=fun _ _ _ _=>False
theorem zji {P:Program} {w:World} {K:Frag} {mg:Str->Option Value} {base:Heap} {CX:CXT} {k:Nat} {f:Addr} {fd:FuncData} {ps:List Str}:zE P w K mg base CX k f fd ps zhU:=⟨fun _ _ _ _ h=>h.elim,fun _ _ _ _ _ _ _ _ _ _ _ _ _ h=>h.elim⟩
def zav (K:Frag) (c:C5) (CF:Addr):Sp:=fun vs H Q _=>∃ (f a:Addr) (rows:List Rw) (bars:List Str) (ct:List yv),vs = [.ref f,.ref a]/\vJ c CF H f rows bars/\vK K H a ct/\qV rows bars ct = []/\
 (∀ (l:Addr) (xs:List V) (H':Hp),zm H H'->H l = none->H' l = some (.lst xs)->Paired (zH K (fun a=>a ≠ l/\H a = none) H' 2) xs (zfk rows (ym ct).length (zV ct))->Q (.ref l) H')
section
variable {P:Program} {w:World} {K:Frag} {mg:Str->Option Value} {base:Heap} {f CF:Addr} {fd:FuncData} {c:C5} {m:MA}
theorem zkd:([Str.ofString "at",Str.ofString "firsts",Str.ofString "form",Str.ofString "many"]:List Str).Nodup:=by decide +kernel
theorem wo:zu ["form","call","many","names","found","word","number","firsts"] ["form","call"] (ze uD):=⟨rfl,rfl,rfl,by decide +kernel,rfl,by decide +kernel,by decide +kernel⟩
theorem zfv {g1 g2 g3 g4 g5 gS:Addr} {d1 d2 d3 d4 d5 eS:FuncData} (F:Fun K "paper" "paper" uD f fd) (hran:mg "range" = none) (hlen:mg "len" = none) (FK:FC K CF) (c1:zp P w K mg base 2 "shape" g1 d1 ["call"] (jl K)) (c2:zp P w K mg base 4 "misfits_of" g2 d2 ["form","many","names"] (zda c CF)) (c3:zp P w K mg base 1 "refuse" g3 d3 ["word","number"] zhU)
  (c4:zp P w K mg base 1 "first_numbers" g4 d4 ["names"] vP) (c5:zp P w K mg base 3 "entry" g5 d5 ["form","number","many","firsts"] (zaD K c CF)) (mS:y6 K CF "parameters" gS) (GS:zE P w K mg base CX0 1 gS eS ["self"] (jz c CF)) (bS:zS K eS ["self"] []):zE P w K mg base CX0 5 f fd ["form","call"] (zav K c CF):=by
 refine F.ok wo (fun vs H Q E h=>?_) (fun cdv A outer s H vs Q E hr h=>?_)
 ·obtain ⟨f,a,rows,bars,ct,rfl,_⟩:=h
  rfl
 obtain ⟨f,a,rows,bars,ct,rfl,hF,⟨⟨xs,hx,hc⟩,lt,lp⟩,em,q1⟩:=h
 have hr1:z8 1 _:=hr.mono (by decide)
 have hr2:z8 2 _:=hr.mono (by decide)
 have hr3:z8 3 _:=hr.mono (by decide)
 refine ⟨_,zd (uQ (cF c1 hr2 (ac (pv 1) zc)) (yp rfl (zv (zn (i:=2) wo.nd rfl (Or.inr rfl)) (zv (zn (i:=3) wo.nd rfl (Or.inl rfl)) z7))))
  (zd (zw (i:=4) wo.nd rfl (Or.inl rfl) (cF c2 hr (ac (pv 0) (ac (pv 2) (ac (pv 3) zc)))))
  (zd (zI (ze6 (pv 4) (fun _=>rfl)) (zd (uQ (zy xr (pv 4) zg (fun _ _=>rfl)) (yp rfl (zv (zn (i:=5) wo.nd rfl (Or.inl rfl)) (zv (zn (i:=6) wo.nd rfl (Or.inl rfl)) z7))))
   (zh (zJ (cF c3 hr1 (ac (pv 5) (ac (pv 6) zc)))))) zC)
  (zd (zw (i:=7) wo.nd rfl (Or.inr rfl) (cF c4 hr1 (ac (pv 3) zc)))
  (zh (zA (xp ["many","form","firsts"] ["at","firsts","form","many"] [none,some 7,some 0,some 2] rfl ⟨rfl,rfl,rfl,rfl⟩ (vd rfl hran (ac (cB zB hlen PySem.boot_len (ac (yA (pv 0) FK.cl mS GS hr1 bS .nil y7) zc)) zc)) (zW 0) rfl rfl rfl
   (fun pins fp s H C=>⟨zn (i:=0) zkd rfl (Or.inl rfl) (.inr rfl),xz,cF c5 hr3 (ac (pv 2) (ac (pv 0) (ac (pv 3) (ac (pv 1) zc))))⟩))))))),?_⟩
 refine ⟨_,rfl,a,ct,xs,rfl,hx,hc,lt,lp,fun p l H1 s1 nl ep el=>?_⟩
 refine ⟨p,_,rfl,SqT.of ep,rfl,_,_,rfl,_,_,rfl,rfl,?_⟩
 have hF1:=hF.same s1
 have ln:(zV ct).length<=900:=by unfold zV; rw [List.length_map]; exact lp
 refine ⟨_,rfl,_,rfl,_,rfl,f,l,(ym ct).length,rows,bars,zV ct,rfl,hF.lr,hF.lb,lt,ln,hF.ok,hF1.at_,el,fun l2 H2 s2 ⟨us,n2,e2,m2⟩=>?_⟩
 have s12:=s1.trans s2
 have hF2:=hF.same s12
 refine ⟨_,rfl,_,.inl ⟨_,SqL.of e2,rfl⟩,?_⟩
 have em':vy rows bars (ym ct).length (zV ct) = []:=em
 rw [em'] at m2
 cases m2
 refine yk ?_
 refine ⟨_,rfl,l,zV ct,rfl,s2 _ _ el,ln,fun d o H3 s3 nd hd=>?_⟩
 rw [zhC] at hd
 have s13:=s12.trans s3
 have hF3:=hF.same s13
 obtain ⟨dx,fs,lr,lb,ld,ps0,h1,h2,h3,h4,h5,h6⟩:=id hF3.at_
 have nmS:fs.lookup ("parameters" : Str) = none:=h2.no _ (by decide +kernel)
 refine ⟨_,rfl,f,dx,fs,rfl,h1,nmS,f,rows,bars,rfl,hF3.at_,fun lS ps H4 s4 nS eS hps=>?_⟩
 have lps:(ps.map V.ref).length = rows.length:=by rw [List.length_map]; exact hps.length
 have s14:=s13.trans s4
 have hF4:=hF.same s14
 have hlr:=hF.lr
 refine ⟨lS,_,rfl,.inl (SqL.of eS),((ps.map V.ref).length:Nat),rfl,by omega,by omega,fun D hD=>?_⟩
 have lfp:(fpZ (zV ct)).length<=900:=by
  have:=zaX (zV ct) 0 []
  show (fpF 0 [] (zV ct)).length<=900
  simp at this
  omega
 refine zfO (K:=K) (m:=2) (zbR rows (ym ct).length (fpZ (zV ct))) hD (by omega) (fun i H5 Qf Qs hi s5 qf=>?_) (fun vs H5 s5 hDv hp=>?_)
 ·have hi':i < rows.length:=by omega
  have hri:rows[i]? = some rows[i]:=List.getElem?_eq_getElem hi'
  refine ⟨fun _=>?_,fun e=>Bool.noConfusion e⟩
  refine ⟨_,rfl,_,rfl,_,rfl,_,rfl,f,d,o,i,(ym ct).length,rows,bars,fpZ (zV ct),rows[i],(by rw [Int.zero_add]; rfl),lt,lfp,hF.lr,hri,hF.ok _ (List.getElem_mem hi'),(hF4.same s5).at_,s5 _ _ (s4 _ _ hd),fun u H6 s6 hs6=>qf _ _ s6 hs6⟩
 ·refine q1 D vs H5 (s14.trans s5) (s14.free hD) hDv ?_
  unfold zfk
  have:(((ps.map V.ref).length:Nat):Int).toNat = rows.length:=by omega
  rw [this] at hp
  exact Paired.imp' (fun _ _ z=>wp (fun b o _=>⟨o.1,s14.free o.2⟩) z) hp
end
def zaE (K:Frag):Sp:=fun vs H Q _=>∃ (a:Addr) (ns:List Int) (k:Nat),vs = [.ref a,.int k]/\SqL K H a (ns.map V.int)/\ns.length<=63/\∀ (n:Int) (H':Hp),zm H H'->(n ∈ ns\/n = 0)->Q (.int n) H'
def xa (c k:Int):Int:=(c % 2147483647 * 48271 + k * 104729 + 5) % 2147483629 * ((c % 2147483647 * 48271 + k * 104729 + 5) % 2147483629) % 2147483587
def jA:Sp:=fun vs H Q _=>∃ c k:Int,vs = [.int c,.int k]/\Q (.int (xa c k)) H
def wn (c k:Int):Int:=if xa c k % 2 = 0 then xa c k / 2 % 13 - 6 else (c * 982451653 ^ (5:Int).toNat + k) % (2 * 10 ^ (60:Int).toNat - 1) - 10 ^ (60:Int).toNat + 1
def zau:Sp:=fun vs H Q _=>∃ c k:Int,vs = [.int c,.int k]/\Builtin.Int.intBits c<=1048600/\Q (.int (wn c k)) H
def yU (c:Int) (k:Nat):Str:=Txt.slice "zyxwvut" none (some ((c / 26 + (k:Int)) % 8)) ++ (⟨#[97 + ((c + 3 * (k:Int)) % 26).toNat]⟩:Str)
def zcc (K:Frag):Sp:=fun vs H Q _=>∃ c:Int,vs = [.int c]/\∀ (r:Addr) (H':Hp),zm H H'->H r = none->H' r = some (.lst (((List.range 26).map (yU c)).map V.str))->Q (.ref r) H'
theorem ziL:∀ m,m < 26->(Str.ofString "abcdefghijklmnopqrstuvwxyz").cps.toList[m]? = some (97 + m):=by decide +kernel
theorem zco:∀ a,a < 8->∀ m,m < 26->xq (Txt.slice "zyxwvut" none (some ((a:Nat):Int)) ++ (⟨#[97 + m]⟩:Str)) = true:=by decide +kernel
theorem qO (c:Int) (k:Nat):xq (yU c k) = true:=by
 have h0 : 0<=(c / 26 + (k:Int)) % 8:=Int.emod_nonneg _ (by decide)
 have h1:(c / 26 + (k:Int)) % 8 < 8:=Int.emod_lt_of_pos _ (by decide)
 have h2 : 0<=(c + 3 * (k:Int)) % 26:=Int.emod_nonneg _ (by decide)
 have h3:(c + 3 * (k:Int)) % 26 < 26:=Int.emod_lt_of_pos _ (by decide)
 obtain ⟨a,ha⟩:=Int.eq_ofNat_of_zero_le h0
 unfold yU
 rw [ha]
 exact zco a (by omega) _ (by omega)
theorem qP (c:Int) (k:Nat):(yU c k).cps.toList.getLast? = some (97 + ((c + 3 * (k:Int)) % 26).toNat):=by
 show ((Txt.slice "zyxwvut" none (some ((c / 26 + (k:Int)) % 8))).cps ++ #[97 + ((c + 3 * (k:Int)) % 26).toNat]).toList.getLast? = _
 rw [Array.toList_append]
 simp
theorem zfa {c:Int} {j k:Nat} (hj:j < 26) (hk:k < 26) (e:yU c j = yU c k):j = k:=by
 have h1:=qP c j
 rw [e,qP c k] at h1
 have h2:=Option.some.inj h1
 have a0 : 0<=(c + 3 * (j:Int)) % 26:=Int.emod_nonneg _ (by decide)
 have a1 : 0<=(c + 3 * (k:Int)) % 26:=Int.emod_nonneg _ (by decide)
 omega
theorem zbC {c:Int} (h:Builtin.Int.intBits c<=1048600):IntMulOk c ((982451653:Int) ^ (5:Int).toNat):=by
 have hb:Builtin.Int.intBits ((982451653:Int) ^ (5:Int).toNat)<=200:=by decide +kernel
 have h2:Builtin.Int.intTooBig (Builtin.Int.intBits c + Builtin.Int.intBits ((982451653:Int) ^ (5:Int).toNat)) = false:=by
  unfold Builtin.Int.intTooBig bitsLine
  exact decide_eq_false (by omega)
 unfold IntMulOk
 rw [h2]
 simp
structure zhn (K:Frag) (mg:Str->Option Value):Prop where
 isi:mg "isinstance" = none
 str:mg "str" = none
 bool:mg "bool" = none
 int:mg "int" = none
 tuple:mg "tuple" = none
 list:mg "list" = none
 len:mg "len" = none
 range:mg "range" = none
 enumerate:mg "enumerate" = none
section
variable {P:Program} {w:World} {K:Frag} {mg:Str->Option Value} {base:Heap} {f:Addr} {fd:FuncData}
theorem zh5:zu ["_law_script","_law_at"] ["_law_script","_law_at"] (ze qL):=⟨rfl,rfl,rfl,by decide +kernel,rfl,by decide +kernel,by decide +kernel⟩
theorem zg0 (F:Fun K "_law_cell" "_law_cell" qL f fd):zE P w K mg base CX0 1 f fd ["_law_script","_law_at"] (zaE K):=by
 refine F.ok zh5 (fun vs H Q E h=>?_) (fun cdv A outer s H vs Q E hr h=>?_)
 ·obtain ⟨a,ns,k,rfl,_⟩:=h
  rfl
 obtain ⟨a,ns,k,rfl,hS,h63,q⟩:=h
 refine ⟨_,zh (zA (zy xr (zx yW (z9 yw (pv 0) (yn (pv 1)) (yn (zx yt (pv 1) zg))) (zM (ac zg zc))) zg (fun _ _=>rfl))),?_⟩
 obtain ⟨ms,e1,e2,e3⟩:=zga ns (some (k:Int)) (some ((k:Int) + 1))
 refine ⟨_,rfl,_,rfl,_,rfl,_,rfl,_,_,rfl,rfl,_,rfl,a,_,rfl,hS,fun p hp=>?_⟩
 rw [e1]
 refine ⟨zz1,fun l hl=>?_⟩
 have npl:p ≠ l:=zf za hl
 refine ⟨p,l,_,_,rfl,rfl,(by rw [zi npl,za]),za,?_,fun c hc=>?_⟩
 ·rw [List.length_map]
  show ms.length + 1<=sizeLine
  exact ye (by omega)
 have s3:=(zb hp (.lst (ms.map V.int))).trans ((zb hl (.lst [.int 0])).trans (zb hc (.lst (ms.map V.int ++ [.int 0]))))
 cases ms with
 | nil=>exact ⟨c,_,0,.int 0,rfl,rfl,SqL.of za,rfl,q 0 _ s3 (.inr rfl)⟩
 | cons m r=>exact ⟨c,_,0,.int m,rfl,rfl,SqL.of za,xf (j:=0) rfl,q m _ s3 (.inl (e3 m (by simp)))⟩
theorem zgt:zu ["_law_found"] ["_law_found"] (ze uI):=⟨rfl,rfl,rfl,by decide +kernel,rfl,by decide +kernel,by decide +kernel⟩
theorem zhu:zu ["_law_cell_here","_law_k","_law_number"] ["_law_cell_here","_law_k"] (ze zdX):=⟨rfl,rfl,rfl,by decide +kernel,rfl,by decide +kernel,by decide +kernel⟩
theorem zim (F:Fun K "_law_mix" "_law_mix" zdX f fd):zE P w K mg base CX0 1 f fd ["_law_cell_here","_law_k"] jA:=by
 refine F.ok zhu (fun vs H Q E h=>?_) (fun cdv A outer s H vs Q E hr h=>?_)
 ·obtain ⟨c,k,rfl,_⟩:=h
  rfl
 obtain ⟨c,k,rfl,q⟩:=h
 refine ⟨_,zd (zw (i:=2) zhu.nd rfl (Or.inl rfl) (zx yd (zx yt (zx yt (zx uT (zx yd (pv 0) zg) zg) (zx uT (pv 1) zg)) zg) zg))
  (zh (zA (zx yd (zx uT (pv 2) (pv 2)) zg))),?_⟩
 refine ⟨_,rfl,_,_,rfl,rfl,(by show (0:Int) < 2147483647; decide),_,_,rfl,rfl,.inr ⟨by decide,by decide⟩,_,rfl,_,_,rfl,rfl,.inr ⟨by decide,by decide⟩,_,_,rfl,rfl,_,_,rfl,rfl,_,_,rfl,rfl,(by show (0:Int) < 2147483629; decide),?_⟩
 have h1 : 0<=(c % 2147483647 * 48271 + k * 104729 + 5) % 2147483629:=Int.emod_nonneg _ (by decide)
 have h2:(c % 2147483647 * 48271 + k * 104729 + 5) % 2147483629 < 2147483629:=Int.emod_lt_of_pos _ (by decide)
 exact ⟨_,rfl,_,rfl,_,_,rfl,rfl,.inl ⟨by omega,by omega⟩,_,_,rfl,rfl,(by show (0:Int) < 2147483587; decide),q⟩
theorem zdb:zu ["_law_cell_here","_law_k","_law_number"] ["_law_cell_here","_law_k"] (ze uy):=⟨rfl,rfl,rfl,by decide +kernel,rfl,by decide +kernel,by decide +kernel⟩
theorem zfq {g:Addr} {gd:FuncData} (F:Fun K "_law_thing" "_law_thing" uy f fd) (cM:zp P w K mg base 1 "_law_mix" g gd ["_law_cell_here","_law_k"] jA):zE P w K mg base CX0 2 f fd ["_law_cell_here","_law_k"] zau:=by
 refine F.ok zdb (fun vs H Q E h=>?_) (fun cdv A outer s H vs Q E hr h=>?_)
 ·obtain ⟨c,k,rfl,_⟩:=h
  rfl
 obtain ⟨c,k,rfl,hb,q⟩:=h
 refine ⟨_,zd (zw (i:=2) zdb.nd rfl (Or.inl rfl) (cF cM hr (ac (pv 0) (ac (pv 1) zc))))
  (zd (zI (zk zZ (zx yd (pv 2) zg) zg (zt _)) (zh (zA (zx jP (zx yd (zx xK (pv 2) zg) zg) zg))) zC)
  (zh (zA (zx yt (zx jP (zx yd (zx yt (zx zgK (pv 0) (zx zcr zg zg)) (pv 1)) (zx jP (zx uT zg (zx zcr zg zg)) zg)) (zx zcr zg zg)) zg)))),?_⟩
 refine ⟨_,rfl,_,rfl,c,k,rfl,?_⟩
 refine ⟨_,rfl,_,_,rfl,rfl,zp2,rfl,_,rfl,?_⟩
 by_cases hm2:xa c k % 2 = 0
 ·refine dT (congrArg V.int hm2) ?_
  unfold wn at q
  rw [if_pos hm2] at q
  exact ⟨_,rfl,_,_,rfl,rfl,⟨by decide,by decide⟩,_,_,rfl,rfl,(by show (0:Int) < 13; decide),_,_,rfl,rfl,q⟩
 ·refine dF (fun e=>hm2 (V.int.inj e)) ?_
  unfold wn at q
  rw [if_neg hm2] at q
  have hm:IntMulOk c ((982451653:Int) ^ (5:Int).toNat):=zbC hb
  exact ⟨_,rfl,_,_,rfl,rfl,⟨by decide,by decide,by decide⟩,_,_,rfl,rfl,hm,_,rfl,_,_,rfl,rfl,_,_,rfl,rfl,⟨by decide,by decide,by decide⟩,_,_,rfl,rfl,.inl ⟨by decide,by decide⟩,_,_,rfl,rfl,_,_,rfl,rfl,(by show (0:Int) < 2 * 10 ^ Int.toNat 60 - 1; decide +kernel),_,_,rfl,rfl,⟨by decide,by decide,by decide⟩,_,_,rfl,rfl,_,_,rfl,rfl,q⟩
theorem zaJ:zu ["_law_cell_here","_law_names","_law_k","_law_stem"] ["_law_cell_here"] (ze qz):=⟨rfl,rfl,rfl,by decide +kernel,rfl,by decide +kernel,by decide +kernel⟩
theorem zgO (F:Fun K "_law_pool" "_law_pool" qz f fd) (T:zhn K mg):zE P w K mg base CX0 1 f fd ["_law_cell_here"] (zcc K):=by
 refine F.ok zaJ (fun vs H Q E h=>?_) (fun cdv A outer s H vs Q E hr h=>?_)
 ·obtain ⟨c,rfl,_⟩:=h
  rfl
 obtain ⟨c,rfl,q⟩:=h
 refine ⟨_,zd (zw (i:=1) zaJ.nd rfl (Or.inl rfl) (zM zc))
  (zd (y9 PassesOwn.never rfl (vd rfl T.range (ac zg zc)) (zn (i:=2) zaJ.nd rfl (Or.inl rfl))
   (zd (zw (i:=3) zaJ.nd rfl (Or.inl rfl) (z9 zhW zl yx (yn (zx yd (zx yt (zx xK (pv 0) zg) (pv 2)) zg))))
   (zh (zJ (yV PySem.F.plainAttrs_list PySem.F.slot_list_append PySem.F.type_list_append zQ (pv 1) (ac (zx zcs (pv 3) (zy zix zl (zx yd (zx yt (pv 0) (zx uT zg (pv 2))) zg) (fun _ _=>rfl))) zc))))))
  (zh (zA (pv 1)))),?_⟩
 refine ⟨zz0,fun r hr0=>?_⟩
 refine ⟨26,rfl,by decide,by decide,zad (n:=26) (fun i σ H2=>∃ v2 v3,σ = [some (.int c),some (.ref r),v2,v3]/\H2 r = some (.lst (((List.range i).map (yU c)).map V.str))/\zm H H2)
  ⟨_,_,rfl,za,zb hr0 _⟩ ?_ ?_⟩
 ·rintro i σ H2 hi ⟨v2,v3,rfl,g,sH⟩
  refine ⟨_,rfl,_,_,rfl,rfl,⟨by decide,by decide⟩,_,rfl,_,_,rfl,rfl,_,_,rfl,rfl,zp8,_,rfl,_,rfl,(by decide +kernel),?_⟩
  have h0 : 0<=(c + 3 * ((0:Int) + (i:Int))) % 26:=Int.emod_nonneg _ (by decide)
  have h1:(c + 3 * ((0:Int) + (i:Int))) % 26 < 26:=Int.emod_lt_of_pos _ (by decide)
  have hch:atI (Str.ofString "abcdefghijklmnopqrstuvwxyz").cps.toList ((c + 3 * ((0:Int) + (i:Int))) % 26) = some (97 + ((c + 3 * ((0:Int) + (i:Int))) % 26).toNat):=by
   obtain ⟨m,hm⟩:=Int.eq_ofNat_of_zero_le h0
   rw [hm]
   have hm2:m < 26:=by omega
   exact xf (ziL m hm2)
  refine ⟨_,rfl,.inl ⟨rfl,_,SqL.of g⟩,_,rfl,_,rfl,_,rfl,_,_,rfl,rfl,.inl ⟨by decide,by decide⟩,_,_,rfl,rfl,_,_,rfl,rfl,(by show (0:Int) < 26; decide),_,_,_,rfl,rfl,(by decide +kernel),hch,?_⟩
  have hsl:=Txt.slice_le (Str.ofString "zyxwvut") none (some ((c / 26 + (0 + (i:Int))) % 8))
  have hs7:(Str.ofString "zyxwvut").length = 7:=by decide +kernel
  refine ⟨_,_,rfl,rfl,ye (by rw [hs7] at hsl; show _ + 1<=1000; omega),r,_,_,rfl,rfl,g,(by rw [List.length_map,List.length_map,List.length_range]; exact zF (by omega)),?_⟩
  refine ⟨_,_,rfl,?_,x9 sH hr0 _⟩
  rw [za,List.range_succ,List.map_append,List.map_append]
  show _ = some (HO.lst (_ ++ [V.str (yU c i)]))
  unfold yU
  rw [Int.zero_add]
 ·rintro σ H2 ⟨v2,v3,rfl,g,sH⟩
  exact ⟨_,rfl,q r H2 sH hr0 g⟩
end
theorem zbu {l g:Nat} {r:Rw} {rs:List Rw} (hg:grp r.k = g) (hb:xt l g = false) (h:ya g rs = true):ya l (r :: rs) = true:=by
 show (!xt l (grp r.k) && ya (grp r.k) rs) = true
 rw [hg,hb,h]
 rfl
theorem vX {g:Nat} (he:xt g g = false):∀ (xs ys:List Rw) (l:Nat),xt l g = false->(∀ r ∈ xs,grp r.k = g)->ya l ys = true->ya g ys = true->ya l (xs ++ ys) = true
 | [],_,_,_,_,h1,_=>h1
 | r :: rs,ys,l,hb,hg,_,h2=>zbu (hg r List.mem_cons_self) hb (vX he rs ys g he (fun x hx=>hg x (List.mem_cons_of_mem _ hx)) h2 h2)
theorem zdp {g l:Nat} {xs ys:List Rw} (hl:xs.length<=1) (hb:xt l g = false) (hg:∀ r ∈ xs,grp r.k = g) (h1:ya l ys = true) (h2:ya g ys = true):ya l (xs ++ ys) = true:=by
 match xs,hl with
 | [],_=>exact h1
 | [r],_=>exact zbu (hg r List.mem_cons_self) hb h2
theorem zgJ {xs0 xs1 xs2 xs3:List Rw} (g0:∀ r ∈ xs0,grp r.k = 0) (g1:∀ r ∈ xs1,grp r.k = 1) (l1:xs1.length<=1) (g2:∀ r ∈ xs2,grp r.k = 2) (g3:∀ r ∈ xs3,grp r.k = 3) (l3:xs3.length<=1):ya 0 (xs0 ++ (xs1 ++ (xs2 ++ xs3))) = true:=by
 have h3:∀ l,l<=2->ya l xs3 = true:=fun l hl=>by
  have:=zdp (g:=3) (l:=l) (ys:=[]) l3 (by match l,hl with | 0,_=>rfl | 1,_=>rfl | 2,_=>rfl) g3 rfl rfl
  rwa [List.append_nil] at this
 have h2:∀ l,l<=1->ya l (xs2 ++ xs3) = true:=fun l hl=>vX (g:=2) rfl xs2 xs3 l (by match l,hl with | 0,_=>rfl | 1,_=>rfl) g2 (h3 l (by omega)) (h3 2 (by omega))
 have h1:ya 0 (xs1 ++ (xs2 ++ xs3)) = true:=zdp (g:=1) l1 rfl g1 (h2 0 (by omega)) (h2 1 (by omega))
 exact vX (g:=0) rfl xs0 _ 0 rfl g0 h1 h1
theorem xA (a b:List Rw):nms (a ++ b) = nms a ++ nms b:=by unfold nms; rw [List.filter_append,List.map_append]
theorem v0 (r:Rw):nms [r] = if z5 r.k = true then [r.z] else []:=by
 unfold nms
 cases h:z5 r.k <;> simp [h]
theorem ziB {k:Nat} (hk:k < 5) (h:z5 k = true):grp k = 0\/grp k = 2:=by
 rcases lt5 hk with rfl | rfl | rfl | rfl | rfl <;> first | (exact .inl rfl) | (exact .inr rfl) | (cases h)
theorem zds {xs:List Rw} {g:Nat} (hg:∀ r ∈ xs,r.ok/\grp r.k = g) (h:g % 2 = 1):nms xs = []:=by
 unfold nms
 rw [List.filter_eq_nil_iff.mpr (fun r hr e=>?_)]
 ·rfl
 ·obtain ⟨ho,q⟩:=hg r hr
  rcases ziB ho.1 e with z | z <;> rw [z] at q <;> rw [<- q] at h <;> cases h
structure FS where
 (P T G B:List Rw) (L:List Str)
def FS.add (S:FS) (k:Nat) (z:Str) (b:Bool):FS:=match k with
 | 0=>{ S with P:=S.P ++ [⟨0,z,b⟩] }
 | 1=>{ S with P:=S.P ++ [⟨1,z,b⟩],L:=S.L ++ [z] }
 | 2=>{ S with T:=[⟨2,z,b⟩] }
 | 3=>{ S with G:=S.G ++ [⟨3,z,b⟩],L:=S.L ++ [z] }
 | _=>{ S with B:=[⟨4,z,b⟩] }
structure FM (i:Nat) (S:FS):Prop where
 okP:∀ r ∈ S.P,r.ok/\grp r.k = 0
 okT:∀ r ∈ S.T,r.ok/\grp r.k = 1
 okG:∀ r ∈ S.G,r.ok/\grp r.k = 2
 okB:∀ r ∈ S.B,r.ok/\grp r.k = 3
 lT:S.T.length<=1
 lB:S.B.length<=1
 nd:(nms S.P ++ nms S.G).Nodup
 sn:∀ z ∈ nms S.P ++ nms S.G,z ∈ S.L
 ln:S.P.length + S.T.length + S.G.length + S.B.length<=i
 lL:S.L.length<=i
theorem jU {α : Type} {xs:List α} {y : α} {p : α->Prop} (h:∀ x ∈ xs,p x) (hy:p y):∀ x ∈ xs ++ [y],p x:=fun x hx=>by
 rcases List.mem_append.mp hx with hx | hx
 ·exact h x hx
 ·rw [List.mem_singleton.mp hx]; exact hy
theorem FM.zero:FM 0 ⟨[],[],[],[],[]⟩:=by
 refine ⟨?_,?_,?_,?_,?_,?_,?_,?_,?_,?_⟩ <;> first | exact (fun _ h=>nomatch h) | exact Nat.zero_le _ | exact List.nodup_nil | exact Nat.le_refl _
theorem zfK {a b:List Str} {z:Str} (h:(a ++ b).Nodup) (hz:z ∉ a ++ b):(a ++ [z] ++ b).Nodup:=by
 have p:(a ++ [z] ++ b).Perm (z :: (a ++ b)):=by
  rw [List.append_assoc]
  exact List.perm_middle
 exact p.nodup_iff.mpr (List.nodup_cons.mpr ⟨hz,h⟩)
theorem FM.add {i:Nat} {S:FS} {k:Nat} {z:Str} {b:Bool} (h:FM i S) (hk:k < 5) (hz:xq z = true) (hn:z5 k = true->z ∉ S.L):FM (i + 1) (S.add k z b):=by
 have ln:=h.ln
 have lL:=h.lL
 have lT:=h.lT
 have lB:=h.lB
 match k,hk with
 | 0,_=>
  have e:nms (S.P ++ [⟨0,z,b⟩]) = nms S.P:=by rw [xA,v0]; simp [z5]
  exact ⟨jU h.okP ⟨⟨Nat.lt_of_sub_eq_succ rfl,hz⟩,rfl⟩,h.okT,h.okG,h.okB,h.lT,h.lB,by show (nms (S.P ++ _) ++ nms S.G).Nodup; rw [e]; exact h.nd,by show ∀ y ∈ nms (S.P ++ _) ++ nms S.G,y ∈ S.L; rw [e]; exact h.sn,
   by show (S.P ++ [_]).length + S.T.length + S.G.length + S.B.length<=i + 1; rw [List.length_append,List.length_singleton]; omega,Nat.le_succ_of_le h.lL⟩
 | 1,_=>
  have e:nms (S.P ++ [⟨1,z,b⟩]) = nms S.P ++ [z]:=by rw [xA,v0]; simp [z5]
  have nz:z ∉ nms S.P ++ nms S.G:=fun m=>hn rfl (h.sn z m)
  refine ⟨jU h.okP ⟨⟨Nat.lt_of_sub_eq_succ rfl,hz⟩,rfl⟩,h.okT,h.okG,h.okB,h.lT,h.lB,by show (nms (S.P ++ _) ++ nms S.G).Nodup; rw [e]; exact zfK h.nd nz,?_,
   by show (S.P ++ [_]).length + S.T.length + S.G.length + S.B.length<=i + 1; rw [List.length_append,List.length_singleton]; omega,by show (S.L ++ [_]).length<=i + 1; rw [List.length_append,List.length_singleton]; omega⟩
  show ∀ y ∈ nms (S.P ++ _) ++ nms S.G,y ∈ S.L ++ [z]
  rw [e]
  intro y hy
  rw [List.mem_append,List.mem_append] at hy
  rcases hy with (hy | hy) | hy
  ·exact List.mem_append_left _ (h.sn y (List.mem_append_left _ hy))
  ·exact List.mem_append_right _ hy
  ·exact List.mem_append_left _ (h.sn y (List.mem_append_right _ hy))
 | 2,_=>
  refine ⟨h.okP,fun r hr=>?_,h.okG,h.okB,Nat.le_refl _,h.lB,h.nd,h.sn,?_,Nat.le_succ_of_le h.lL⟩
  ·rw [List.mem_singleton.mp hr]; exact ⟨⟨Nat.lt_of_sub_eq_succ rfl,hz⟩,rfl⟩
  ·show S.P.length + 1 + S.G.length + S.B.length<=i + 1
   omega
 | 3,_=>
  have e:nms (S.G ++ [⟨3,z,b⟩]) = nms S.G ++ [z]:=by rw [xA,v0]; simp [z5]
  have nz:z ∉ nms S.P ++ nms S.G:=fun m=>hn rfl (h.sn z m)
  refine ⟨h.okP,h.okT,jU h.okG ⟨⟨Nat.lt_of_sub_eq_succ rfl,hz⟩,rfl⟩,h.okB,h.lT,h.lB,?_,?_,
   by show S.P.length + S.T.length + (S.G ++ [_]).length + S.B.length<=i + 1; rw [List.length_append,List.length_singleton]; omega,by show (S.L ++ [_]).length<=i + 1; rw [List.length_append,List.length_singleton]; omega⟩
  ·show (nms S.P ++ nms (S.G ++ _)).Nodup
   rw [e,<- List.append_assoc]
   have:=zfK (a:=nms S.P ++ nms S.G) (b:=[]) (z:=z) (by rw [List.append_nil]; exact h.nd) (by rw [List.append_nil]; exact nz)
   rwa [List.append_nil] at this
  ·show ∀ y ∈ nms S.P ++ nms (S.G ++ _),y ∈ S.L ++ [z]
   rw [e]
   intro y hy
   rw [List.mem_append,List.mem_append] at hy
   rcases hy with hy | hy | hy
   ·exact List.mem_append_left _ (h.sn y (List.mem_append_left _ hy))
   ·exact List.mem_append_left _ (h.sn y (List.mem_append_right _ hy))
   ·exact List.mem_append_right _ hy
 | 4,_=>
  refine ⟨h.okP,h.okT,h.okG,fun r hr=>?_,h.lT,Nat.le_refl _,h.nd,h.sn,?_,Nat.le_succ_of_le h.lL⟩
  ·rw [List.mem_singleton.mp hr]; exact ⟨⟨Nat.lt_of_sub_eq_succ rfl,hz⟩,rfl⟩
  ·show S.P.length + S.T.length + S.G.length + 1<=i + 1
   omega
def FS.rows (S:FS):List Rw:=S.P ++ S.T ++ S.G ++ S.B
theorem FM.valid {i:Nat} {S:FS} {bars:List Str} (h:FM i S) (hi:i<=24) (lb:bars.length<=60) (bn:∀ z ∈ bars,xq z = true) (bd:bars.Nodup) (bl:∀ z ∈ bars,z ∉ S.L):yR S.rows bars:=by
 have en:nms S.rows = nms S.P ++ nms S.G:=by
  unfold FS.rows
  rw [xA,xA,xA,zds h.okT rfl,zds h.okB rfl,List.append_nil,List.append_nil]
 refine ⟨fun r hr=>?_,?_,lb,?_,bn,?_⟩
 ·unfold FS.rows at hr
  rw [List.mem_append,List.mem_append,List.mem_append] at hr
  rcases hr with ((hr | hr) | hr) | hr
  ·exact (h.okP r hr).1
  ·exact (h.okT r hr).1
  ·exact (h.okG r hr).1
  ·exact (h.okB r hr).1
 ·unfold FS.rows
  have:=h.ln
  simp only [List.length_append]
  omega
 ·unfold FS.rows
  rw [List.append_assoc,List.append_assoc]
  exact zgJ (fun r hr=>(h.okP r hr).2) (fun r hr=>(h.okT r hr).2) h.lT (fun r hr=>(h.okG r hr).2) (fun r hr=>(h.okB r hr).2) h.lB
 ·rw [en]
  exact List.nodup_append.mpr ⟨h.nd,bd,fun x hx y hy e=>bl y hy (e ▸ h.sn x hx)⟩
theorem TAt.keep {H:Hp} {v D:Addr} {r:Rw} {o:HO} (h:TAt H v r) (hD:∀ vs,H D ≠ some (.tup vs)):TAt (upd H D o) v r:=by
 show upd H D o v = _
 rw [zi (fun e=>by subst e; exact hD _ h)]
 exact h
def vo (H:Hp) (l:Addr) (rows:List Rw):Prop:=∃ us:List Addr,H l = some (.lst (us.map V.ref))/\Paired (TAt H) us rows
theorem vo.same {H H':Hp} {l:Addr} {rows:List Rw} (h:vo H l rows) (s:zm H H'):vo H' l rows:=let ⟨us,h1,h2⟩:=h; ⟨us,s _ _ h1,zK s h2⟩
theorem vo.keep {H:Hp} {l D:Addr} {rows:List Rw} {o:HO} (h:vo H l rows) (ne:l ≠ D) (hD:∀ vs,H D ≠ some (.tup vs)):vo (upd H D o) l rows:=
 let ⟨us,h1,h2⟩:=h
 ⟨us,by rw [zi ne]; exact h1,Paired.imp' (fun _ _ z=>z.keep hD) h2⟩
theorem vo.snoc {H:Hp} {l u:Addr} {rows:List Rw} {r:Rw} {us:List Addr} (h1:H l = some (.lst (us.map V.ref))) (h2:Paired (TAt H) us rows) (hu:TAt H u r):vo (upd H l (.lst (us.map V.ref ++ [.ref u]))) l (rows ++ [r]):=by
 have hD:∀ vs,H l ≠ some (.tup vs):=fun vs e=>by rw [h1] at e; cases e
 refine ⟨us ++ [u],by rw [za,List.map_append]; rfl,Paired.snoc (Paired.imp' (fun _ _ z=>z.keep hD) h2) (hu.keep hD)⟩
def yK (ta ba:Addr):List (Key × V):=[(.inr "tail",.ref ta),(.inr "bag",.ref ba)]
theorem ziG (ta ba x:Addr):yf (yK ta ba) (.inr "tail") (.ref x) = yK x ba:=by
 have e:¬ ((Sum.inr (Str.ofString "bag"):Key) = Sum.inr (Str.ofString "tail")):=by decide +kernel
 unfold yf yK
 simp [e]
theorem ziH (ta ba x:Addr):yf (yK ta ba) (.inr "bag") (.ref x) = yK ta x:=by
 have e:¬ ((Sum.inr (Str.ofString "tail"):Key) = Sum.inr (Str.ofString "bag")):=by decide +kernel
 unfold yf yK
 simp [e]
theorem zhb (ta ba:Addr):zL (yK ta ba) (.inr "tail") = some (.ref ta):=by
 unfold zL yK
 simp
theorem zhc (ta ba:Addr):zL (yK ta ba) (.inr "bag") = some (.ref ba):=by
 have e:¬ ((Sum.inr (Str.ofString "tail"):Key) = Sum.inr (Str.ofString "bag")):=by decide +kernel
 unfold zL yK
 simp [e]
structure FI (H H':Hp) (lp lt ll de:Addr) (S:FS):Prop where
 sm:zm H H'
 hp:vo H' lp S.P
 ht:vo H' lt S.G
 hl:H' ll = some (.lst (S.L.map V.str))
 he:∃ ta ba,H' de = some (.dK (yK ta ba))/\ta ≠ lp/\ta ≠ lt/\ta ≠ ll/\ba ≠ lp/\ba ≠ lt/\ba ≠ ll/\vo H' ta S.T/\vo H' ba S.B
 n1:lp ≠ lt
 n2:lp ≠ ll
 n3:lt ≠ ll
 m1:H lp = none
 m2:H lt = none
 m3:H ll = none
 m4:H de = none
section
variable {H H' H'':Hp} {lp lt ll de u:Addr} {S:FS} {r:Rw} {z:Str} {b:Bool}
theorem FI.same (h:FI H H' lp lt ll de S) (s:zm H' H''):FI H H'' lp lt ll de S:=by
 obtain ⟨ta,ba,e1,e2,e3,e4,e5,e6,e7,e8,e9⟩:=h.he
 exact ⟨h.sm.trans s,h.hp.same s,h.ht.same s,s _ _ h.hl,⟨ta,ba,s _ _ e1,e2,e3,e4,e5,e6,e7,e8.same s,e9.same s⟩,h.n1,h.n2,h.n3,h.m1,h.m2,h.m3,h.m4⟩
theorem FI.smU (h:FI H H' lp lt ll de S) {l:Addr} (hl:H l = none) {o:HO}:zm H (upd H' l o):=fun b u e=>by rw [zi (zf e hl)]; exact h.sm _ _ e
theorem FI.addL (h:FI H H' lp lt ll de S):FI H (upd H' ll (.lst (S.L.map V.str ++ [.str z]))) lp lt ll de { S with L:=S.L ++ [z] }:=by
 have hD:∀ vs,H' ll ≠ some (.tup vs):=fun vs e=>by rw [h.hl] at e; cases e
 obtain ⟨ta,ba,e1,e2,e3,e4,e5,e6,e7,e8,e9⟩:=h.he
 have nd:de ≠ ll:=fun e=>by rw [e,h.hl] at e1; cases e1
 exact ⟨h.smU h.m3,h.hp.keep h.n2 hD,h.ht.keep h.n3 hD,by rw [za,List.map_append]; rfl,⟨ta,ba,by rw [zi nd]; exact e1,e2,e3,e4,e5,e6,e7,e8.keep e4 hD,e9.keep e7 hD⟩,h.n1,h.n2,h.n3,h.m1,h.m2,h.m3,h.m4⟩
theorem FI.addP {us:List Addr} (h:FI H H' lp lt ll de S) (h1:H' lp = some (.lst (us.map V.ref))) (h2:Paired (TAt H') us S.P) (hu:TAt H' u r):FI H (upd H' lp (.lst (us.map V.ref ++ [.ref u]))) lp lt ll de { S with P:=S.P ++ [r] }:=by
 have hD:∀ vs,H' lp ≠ some (.tup vs):=fun vs e=>by rw [h1] at e; cases e
 obtain ⟨ta,ba,e1,e2,e3,e4,e5,e6,e7,e8,e9⟩:=h.he
 have nd:de ≠ lp:=fun e=>by rw [e,h1] at e1; cases e1
 exact ⟨h.smU h.m1,.snoc h1 h2 hu,h.ht.keep h.n1.symm hD,by rw [zi h.n2.symm]; exact h.hl,⟨ta,ba,by rw [zi nd]; exact e1,e2,e3,e4,e5,e6,e7,e8.keep e2 hD,e9.keep e5 hD⟩,h.n1,h.n2,h.n3,h.m1,h.m2,h.m3,h.m4⟩
theorem FI.addG {us:List Addr} (h:FI H H' lp lt ll de S) (h1:H' lt = some (.lst (us.map V.ref))) (h2:Paired (TAt H') us S.G) (hu:TAt H' u r):FI H (upd H' lt (.lst (us.map V.ref ++ [.ref u]))) lp lt ll de { S with G:=S.G ++ [r] }:=by
 have hD:∀ vs,H' lt ≠ some (.tup vs):=fun vs e=>by rw [h1] at e; cases e
 obtain ⟨ta,ba,e1,e2,e3,e4,e5,e6,e7,e8,e9⟩:=h.he
 have nd:de ≠ lt:=fun e=>by rw [e,h1] at e1; cases e1
 exact ⟨h.smU h.m2,h.hp.keep h.n1 hD,.snoc h1 h2 hu,by rw [zi h.n3.symm]; exact h.hl,⟨ta,ba,by rw [zi nd]; exact e1,e2,e3,e4,e5,e6,e7,e8.keep e3 hD,e9.keep e6 hD⟩,h.n1,h.n2,h.n3,h.m1,h.m2,h.m3,h.m4⟩
theorem FI.set {S':FS} {ta' ba':Addr} (h:FI H H' lp lt ll de S) (eP:S'.P = S.P) (eG:S'.G = S.G) (eL:S'.L = S.L) (n:ta' ≠ lp/\ta' ≠ lt/\ta' ≠ ll/\ba' ≠ lp/\ba' ≠ lt/\ba' ≠ ll) (hT:vo H' ta' S'.T) (hB:vo H' ba' S'.B):FI H (upd H' de (.dK (yK ta' ba'))) lp lt ll de S':=by
 obtain ⟨ta,ba,e1,e2,e3,e4,e5,e6,e7,e8,e9⟩:=h.he
 have hD:∀ vs,H' de ≠ some (.tup vs):=fun vs e=>by rw [e1] at e; cases e
 have nl:∀ {l:Addr} {xs:List V},H' l = some (.lst xs)->l ≠ de:=fun e q=>by rw [q,e1] at e; cases e
 obtain ⟨us1,p1,_⟩:=h.hp
 obtain ⟨us2,p2,_⟩:=h.ht
 obtain ⟨us3,p3,_⟩:=id hT
 obtain ⟨us4,p4,_⟩:=id hB
 refine ⟨h.smU h.m4,?_,?_,?_,⟨ta',ba',za,n.1,n.2.1,n.2.2.1,n.2.2.2.1,n.2.2.2.2.1,n.2.2.2.2.2,hT.keep (nl p3) hD,hB.keep (nl p4) hD⟩,h.n1,h.n2,h.n3,h.m1,h.m2,h.m3,h.m4⟩
 ·rw [eP]; exact h.hp.keep (nl p1) hD
 ·rw [eG]; exact h.ht.keep (nl p2) hD
 ·rw [eL,zi (nl h.hl)]; exact h.hl
end
end K22
namespace L2
open PySem PySem.Spec PyProof.Rows
theorem zdu {n:Nat} (h:n<=1000):n<=sizeLine:=Nat.le_of_lt (zF h)
theorem vi {α : Type} {ys:List α} {i:Nat} {y : α} (keep : α->Bool) (hy:ys[i]? = some y):(ys.take (i + 1)).filter keep = (ys.take i).filter keep ++ (if keep y = true then [y] else []):=by
 have hi:i < ys.length:=(List.getElem?_eq_some_iff.mp hy).1
 have e:ys[i] = y:=(List.getElem?_eq_some_iff.mp hy).2
 rw [List.take_succ_eq_append_getElem hi,List.filter_append,e,List.filter_cons]
 rfl
theorem zdC {α : Type} {ys:List α} {i:Nat} (keep : α->Bool):((ys.take i).filter keep).length<=i:=by
 have:=List.length_filter_le keep (ys.take i)
 rw [List.length_take] at this
 omega
theorem jW {α : Type} {K:Frag} {a:Addr} {xs:List V} {caps:List (Option Nat)} {g:TG} {tt:TT} {te:TE} {σ : L2.St} {H1:Hp} {Q:VK} {D:Addr} (ys:List α) (keep : α->Bool) (out : α->V) (hD:H1 D = none) (ha:SqL K H1 a xs) (hl:xs.length = ys.length) (hn:xs.length<=1000)
  (hs:∀ (i:Nat) (x:V) (y : α) (H:Hp) (N:VK) (S:Hp->Prop),xs[i]? = some x->ys[i]? = some y->zm H1 H->(∀ H',zm H H'->keep y = true->N (out y) H')->(∀ H',zm H H'->keep y = false->S H')->g x (y0 caps σ) H fun σ2 H2=>tt σ2 H2 fun ok H3=>(ok = true->te σ2 H3 N)/\(ok = false->S H3))
  (hd:∀ H,zm H1 H->H D = some (.lst ((ys.filter keep).map out))->Q (.ref D) H):LCr (Itl K a) caps g tt te σ H1 Q D:=by
 refine ub (K:=K) (xs:=xs) (fun i zs H'=>zm H1 H'/\H' D = some (.lst zs)/\zs = ((ys.take i).filter keep).map out) ⟨zb hD _,za,rfl⟩ (fun i zs H' h=>h.1.seq ha) ?_ ?_
 ·rintro i x zs H' hlt hx ⟨sH,hDy,ez⟩
  obtain ⟨y,hy⟩:∃ y,ys[i]? = some y:=⟨_,List.getElem?_eq_getElem (by omega)⟩
  refine hs i x y H' _ _ hx hy sH (fun H2 s2 hk=>?_) (fun H2 s2 hk=>?_)
  ·refine lcN.mk hlt (zdu hn) (s2 _ _ hDy) (by rw [ez,List.length_map]; exact zdC _) ⟨fun b' u e=>?_,za,?_⟩
   ·rw [zi (zf e hD)]
    exact s2 _ _ (sH b' u e)
   ·rw [ez,vi keep hy,if_pos hk,List.map_append]
    rfl
  ·refine lcS.mk hlt ⟨sH.trans s2,s2 _ _ hDy,?_⟩
   rw [ez,vi keep hy,if_neg (by rw [hk]; exact Bool.false_ne_true),List.append_nil]
 ·rintro zs H2 ⟨s2,hDy,ez⟩
  rw [List.take_of_length_le (by omega)] at ez
  rw [ez] at hDy
  exact hd H2 s2 hDy
theorem zaQ {α : Type} {K:Frag} {a:Addr} {xs:List V} {caps:List (Option Nat)} {g:TG} {tt:TT} {te:TE} {σ : L2.St} {H1:Hp} {Q:VK} {D:Addr} (ys:List α) (keep : α->Bool) (out : α->V) (hD:H1 D = none) (ha:SqL K H1 a xs) (hl:xs.length = ys.length) (hn:xs.length<=1000)
  (hs:∀ (i:Nat) (x:V) (y : α) (p:Addr) (H:Hp) (N:VK) (S:Hp->Prop),xs[i]? = some x->ys[i]? = some y->H p = none->zm H1 H->(∀ H',zm H H'->keep y = true->N (out y) H')->(∀ H',zm H H'->keep y = false->S H')->g (.ref p) (y0 caps σ) (upd H p (.tup [.int i,x])) fun σ2 H2=>tt σ2 H2 fun ok H3=>(ok = true->te σ2 H3 N)/\(ok = false->S H3))
  (hd:∀ H,zm H1 H->H D = some (.lst ((ys.filter keep).map out))->Q (.ref D) H):LCr (Ite K a) caps g tt te σ H1 Q D:=by
 refine zaR (K:=K) (xs:=xs) (fun i zs H'=>zm H1 H'/\H' D = some (.lst zs)/\zs = ((ys.take i).filter keep).map out) ⟨zb hD _,za,rfl⟩ (fun i zs H' h=>h.1.seq ha) ?_ ?_
 ·rintro i x p zs H' hlt hx ⟨sH,hDy,ez⟩ hp
  obtain ⟨y,hy⟩:∃ y,ys[i]? = some y:=⟨_,List.getElem?_eq_getElem (by omega)⟩
  refine hs i x y p H' _ _ hx hy hp sH (fun H2 s2 hk=>?_) (fun H2 s2 hk=>?_)
  ·refine lcN.mk hlt (zdu hn) (s2 _ _ hDy) (by rw [ez,List.length_map]; exact zdC _) ⟨fun b' u e=>?_,za,?_⟩
   ·rw [zi (zf e hD)]
    exact s2 _ _ (sH b' u e)
   ·rw [ez,vi keep hy,if_pos hk,List.map_append]
    rfl
  ·refine lcS.mk hlt ⟨sH.trans s2,s2 _ _ hDy,?_⟩
   rw [ez,vi keep hy,if_neg (by rw [hk]; exact Bool.false_ne_true),List.append_nil]
 ·rintro zs H2 ⟨s2,hDy,ez⟩
  rw [List.take_of_length_le (by omega)] at ez
  rw [ez] at hDy
  exact hd H2 s2 hDy
end L2
namespace K22
open PySem L2 PyProof.Rows
structure zb2 (mg:Str->Option Value):Prop where
 len:mg "len" = none
 range:mg "range" = none
 min:mg "min" = none
 max:mg "max" = none
 en:mg "enumerate" = none
 list:mg "list" = none
 isi:mg "isinstance" = none
 bool:mg "bool" = none
 int:mg "int" = none
theorem x6 {z:Str}:∀ {zs:List Str},inV (.str z) (zs.map V.str) = decide (z ∈ zs)
 | []=>by simp [inV]
 | y :: ys=>by
  have ih:=x6 (z:=z) (zs:=ys)
  show (eqV (.str y) (.str z) || inV (.str z) (ys.map V.str)) = _
  rw [ih]
  have:eqV (.str y) (.str z) = decide (z = y):=by
   show (y == z) = _
   rw [Bool.eq_iff_iff,beq_iff_eq,decide_eq_true_eq]
   exact ⟨Eq.symm,Eq.symm⟩
  rw [this]
  simp
theorem xP:∀ {zs:List Str},(zs.map V.str).all xE = true
 | []=>rfl
 | _ :: ys=>by
  show (true && (ys.map V.str).all xE) = true
  rw [xP]
  rfl
def xX (c:Int):List Str:=(List.range 26).map (yU c)
theorem zfb {c:Int} {i:Nat} {z:Str} (h:(xX c)[i]? = some z):i < 26/\z = yU c i:=by
 unfold xX at h
 rw [List.getElem?_map] at h
 by_cases hi:i < 26
 ·rw [List.getElem?_range hi] at h
  exact ⟨hi,(Option.some.inj h).symm⟩
 ·rw [List.getElem?_eq_none (by rw [List.length_range]; omega)] at h
  cases h
theorem zd2 {c:Int} {i:Nat} (h:i < 26):(xX c)[i]? = some (yU c i):=by
 unfold xX
 rw [List.getElem?_map,List.getElem?_range h]
 rfl
theorem w9 (c:Int):(xX c).length = 26:=by unfold xX; rw [List.length_map,List.length_range]
theorem zcp {c:Int} {z:Str} (h:z ∈ xX c):xq z = true:=by
 obtain ⟨k,_,rfl⟩:=List.mem_map.mp h
 exact qO c k
theorem zbm (c:Int):(xX c).Nodup:=by
 unfold xX
 refine List.pairwise_map.mpr (List.Pairwise.imp_of_mem ?_ List.nodup_range)
 intro a b ha hb ne e
 exact ne (zfa (List.mem_range.mp ha) (List.mem_range.mp hb) e)
def kd8 (n:Nat):Nat:=[1,0,1,3,3,2,4,1].getD n 0
theorem ziv (n:Nat):kd8 n < 5:=by
 have h:∀ n,n < 8->kd8 n < 5:=by decide
 by_cases hn:n < 8
 ·exact h n hn
 ·unfold kd8
  rw [List.getD_eq_getElem?_getD,List.getElem?_eq_none (by simp; omega)]
  exact Nat.succ_pos _
theorem ziw:∀ n,n < 8->atI [V.str "both",.str "seat",.str "both",.str "tag",.str "tag",.str "tail",.str "bag",.str "both"] ((n:Nat):Int) = some (.str (kw (kd8 n))):=by decide +kernel
theorem zcz (ta ba:Addr):vC [] (yK ta ba) = yK ta ba:=by
 have e:¬ ((Sum.inr (Str.ofString "tail"):Key) = Sum.inr (Str.ofString "bag")):=by decide +kernel
 unfold vC yK
 simp only [List.foldl_cons,List.foldl_nil]
 unfold yf
 simp [e]
theorem TAt.same {H H':Hp} {u:Addr} {r:Rw} (h:TAt H u r) (s:zm H H'):TAt H' u r:=s _ _ h
def zci (K:Frag):Sp:=fun vs H Q _=>∃ (a pa:Addr) (ns:List Int) (i most:Nat) (c:Int),vs = [.ref a,.int (i:Nat),.ref pa,.int (most:Nat)]/\SqL K H a (ns.map V.int)/\ns.length<=63/\3<=most/\most<=24/\H pa = some (.lst ((xX c).map V.str))/\
 ∀ (t la lb:Addr) (us:List Addr) (rows:List Rw) (bars:List Str) (H':Hp),zm H H'->H' t = some (.tup [.ref la,.ref lb])->H' la = some (.lst (us.map V.ref))->Paired (TAt H') us rows->H' lb = some (.lst (bars.map V.str))->yR rows bars->Q (.ref t) H'
section
variable {P:Program} {w:World} {K:Frag} {mg:Str->Option Value} {base:Heap} {f:Addr} {fd:FuncData}
theorem zjq:([Str.ofString "_law_k",Str.ofString "_law_name",Str.ofString "_law_more",Str.ofString "_law_told"]:List Str).Nodup:=by decide +kernel
theorem xG:zu ["_law_script","_law_at","_law_pool_here","_law_most","_law_places","_law_tags","_law_ends","_law_told","_law_more","_law_k","_law_cell_here","_law_sort","_law_name","_law_bars"] ["_law_script","_law_at","_law_pool_here","_law_most"] (ze qH):=⟨rfl,rfl,rfl,by decide +kernel,rfl,by decide +kernel,by decide +kernel⟩
theorem zgW {g1 g2:Addr} {d1 d2:FuncData} (F:Fun K "_law_form" "_law_form" qH f fd) (U:zb2 mg) (cC:zp P w K mg base 1 "_law_cell" g1 d1 ["_law_script","_law_at"] (zaE K)) (cM:zp P w K mg base 1 "_law_mix" g2 d2 ["_law_cell_here","_law_k"] jA):zE P w K mg base CX0 2 f fd ["_law_script","_law_at","_law_pool_here","_law_most"] (zci K):=by
 refine F.ok xG (fun vs H Q E h=>?_) (fun cdv A outer s H vs Q E hr h=>?_)
 ·obtain ⟨a,pa,ns,i,most,c,rfl,_⟩:=h
  rfl
 obtain ⟨a,pa,ns,at0,most,c,rfl,hS,h63,m3,m24,hpa,q⟩:=h
 have hr1:z8 1 _:=hr
 have hu1:=qZ hr
 refine ⟨_,zd (zw (i:=4) xG.nd rfl (Or.inl rfl) (zM zc))
   (zd (zw (i:=5) xG.nd rfl (Or.inl rfl) (zM zc))
   (zd (zw (i:=6) xG.nd rfl (Or.inl rfl) (zgG (zbl zl (zM zc) (zbl zl (zM zc) zgB)) rfl rfl (by simp) (by decide)))
   (zd (zw (i:=7) xG.nd rfl (Or.inr rfl) (zM zc))
   (zd (zw (i:=8) xG.nd rfl (Or.inr rfl) (cF cC hr1 (ac (pv 0) (ac (zx yt (pv 1) zg) zc))))
   (zd (y9 PassesOwn.never rfl (vd rfl U.range (ac (zx yd (cF cC hr1 (ac (pv 0) (ac (pv 1) zc))) (zx yt (pv 3) zg)) zc)) (zn (i:=9) xG.nd rfl (Or.inl rfl))
   (zd (zw (i:=10) xG.nd rfl (Or.inl rfl) (cF cM hr1 (ac (zx yt (pv 8) (zx uT (pv 9) (cF cC hr1 (ac (pv 0) (ac (zx yt (pv 1) zg) zc))))) (ac (pv 9) zc))))
   (zd (zw (i:=11) xG.nd rfl (Or.inl rfl) (zy xr (zM (ac zl (ac zl (ac zl (ac zl (ac zl (ac zl (ac zl (ac zl zc))))))))) (zx yd (pv 10) zg) (fun _ _=>rfl)))
   (zd (zw (i:=12) xG.nd rfl (Or.inl rfl) (zy xr (pv 2) (zx yd (zx xK (pv 10) zg) (cB (zaj rfl) U.min boot_min (ac zg (ac (zx jP (pv 3) zg) zc)))) (fun _ _=>rfl)))
   (zd (zI (PW.pt (xn (zk zU (pv 11) (zM (ac zl (ac zl zc))) (by with_unfolding_all rfl)) (yQ (zk zU (pv 12) (pv 7) (by with_unfolding_all rfl))))) (zh (zw (i:=11) xG.nd rfl (Or.inl rfl) zl)) zC)
   (zd (zI (zk zU (pv 11) (zM (ac zl (ac zl zc))) (by with_unfolding_all rfl)) (zh (zJ (yV PySem.F.plainAttrs_list PySem.F.slot_list_append PySem.F.type_list_append zQ (pv 7) (ac (pv 12) zc)))) zC)
   (zh (zI (zk zZ (pv 11) zl (zt _)) (zh (zJ (yV PySem.F.plainAttrs_list PySem.F.slot_list_append PySem.F.type_list_append zQ (pv 5) (ac (zR (ac zl (ac (pv 12) (ac (yb zZ (zx yd (zx xK (pv 10) zg) zg) zg (zt _)) zc)))) zc)))) (zh (zI (zk zU (pv 11) (zM (ac zl (ac zl zc))) (by with_unfolding_all rfl)) (zh (zdk hu1 (pv 6) (pv 11) (zM (ac (zR (ac (pv 11) (ac (pv 12) zc))) zc)) rfl)) (zh (zJ (yV PySem.F.plainAttrs_list PySem.F.slot_list_append PySem.F.type_list_append zQ (pv 4) (ac (zR (ac (pv 11) (ac (pv 12) (ac (yb zZ (zx yd (zx xK (pv 10) zg) zg) zg (zt _)) zc)))) zc))))))))))))))
   (zd (jM (i:=13) ["_law_told","_law_more"] ["_law_k","_law_name","_law_more","_law_told"] [none,none,some 8,some 7] xG.nd rfl (Or.inl rfl) rfl ⟨rfl,rfl,rfl,rfl⟩ (xc rfl U.en (ac (pv 2) zc)) (y4 (K:=K) (n:=2) 0 1) rfl rfl rfl
   (fun pins fp s H C=>⟨yp rfl (zv (zn (i:=0) zjq rfl (Or.inl rfl) (.inr rfl)) (zv (zn (i:=1) zjq rfl (Or.inl rfl) (.inr rfl)) z7)),yq (PW.pt (xn (zk (r:=rIn K true) vY (pv 1) (pv 3) (by with_unfolding_all rfl)) (yQ (zk zZ (zx yd (cF cM hr1 (ac (pv 2) (ac (zx yt (pv 0) zg) zc))) zg) zg (zt _))))),pv 1⟩))
   (zh (zA (zR (ac (zx yW (zx yW (zx yW (pv 4) (jq hu1 (pv 6) zl (fun _ _=>rfl))) (pv 5)) (jq hu1 (pv 6) zl (fun _ _=>rfl))) (ac (pv 13) zc))))))))))),?_⟩
 refine ⟨zz0,fun lp hlp=>?_⟩
 have s1:=zb hlp (.lst [])
 have g1:upd H lp (.lst []) lp = some (.lst []):=za
 show xS _ _ _ _ (upd H lp (.lst []))
 generalize upd H lp (.lst []) = H1 at s1 g1 |-
 refine ⟨zz0,fun lt hlt=>?_⟩
 have s2:=zb hlt (.lst [])
 have g2:upd H1 lt (.lst []) lt = some (.lst []):=za
 show xS _ _ _ _ (upd H1 lt (.lst []))
 generalize upd H1 lt (.lst []) = H2 at s2 g2 |-
 intro de hde
 have s3:=zb hde (.dK [])
 have g3:upd H2 de (.dK []) de = some (.dK []):=za
 generalize upd H2 de (.dK []) = H3 at s3 g3 |-
 refine ⟨zz0,fun ta hta=>?_⟩
 have s4:=zb hta (.lst [])
 have g4:upd H3 ta (.lst []) ta = some (.lst []):=za
 generalize upd H3 ta (.lst []) = H4 at s4 g4 |-
 refine ⟨zz0,fun ba hba=>?_⟩
 have s5:=zb hba (.lst [])
 have g5:upd H4 ba (.lst []) ba = some (.lst []):=za
 generalize upd H4 ba (.lst []) = H5 at s5 g5 |-
 refine ⟨s5 _ _ (s4 _ _ g3),yK ta ba,rfl,(by show 2<=15; decide),?_⟩
 rw [zcz]
 have s5H:zm H H5:=s1.trans (s2.trans (s3.trans (s4.trans s5)))
 have v1:=s5 _ _ (s4 _ _ (s3 _ _ (s2 _ _ g1)))
 have v2:=s5 _ _ (s4 _ _ (s3 _ _ g2))
 have v4:=s5 _ _ g4
 have v3:=s5 _ _ (s4 _ _ g3)
 have hdeH:H de = none:=(s1.trans s2).free hde
 have nd:∀ {l:Addr} {xs:List V},H5 l = some (.lst xs)->l ≠ de:=fun e z=>by rw [z,v3] at e; cases e
 have s6:∀ b u,H b = some u->upd H5 de (.dK (yK ta ba)) b = some u:=fun b u e=>by rw [zi (zf e hdeH)]; exact s5H _ _ e
 have w1:upd H5 de (.dK (yK ta ba)) lp = some (.lst []):=by rw [zi (nd v1)]; exact v1
 have w2:upd H5 de (.dK (yK ta ba)) lt = some (.lst []):=by rw [zi (nd v2)]; exact v2
 have w4:upd H5 de (.dK (yK ta ba)) ta = some (.lst []):=by rw [zi (nd v4)]; exact v4
 have w5:upd H5 de (.dK (yK ta ba)) ba = some (.lst []):=by rw [zi (nd g5)]; exact g5
 have w3:upd H5 de (.dK (yK ta ba)) de = some (.dK (yK ta ba)):=za
 show xS _ _ _ _ (upd H5 de (.dK (yK ta ba)))
 generalize upd H5 de (.dK (yK ta ba)) = H6 at s6 w1 w2 w3 w4 w5 |-
 refine ⟨zz0,fun ll hll=>?_⟩
 have s7:=zb hll (.lst [])
 have g7:upd H6 ll (.lst []) ll = some (.lst []):=za
 show xS _ _ _ _ (upd H6 ll (.lst []))
 generalize upd H6 ll (.lst []) = H7 at s7 g7 |-
 have I0:FI H H7 lp lt ll de ⟨[],[],[],[],[]⟩:=⟨fun b u e=>s7 _ _ (s6 b u e),⟨[],s7 _ _ w1,.nil⟩,⟨[],s7 _ _ w2,.nil⟩,g7,
  ⟨ta,ba,s7 _ _ w3,(zf (s3 _ _ (s2 _ _ g1)) hta).symm,(zf (s3 _ _ g2) hta).symm,zf w4 hll,(zf (s4 _ _ (s3 _ _ (s2 _ _ g1))) hba).symm,(zf (s4 _ _ (s3 _ _ g2)) hba).symm,zf w5 hll,⟨[],s7 _ _ w4,.nil⟩,⟨[],s7 _ _ w5,.nil⟩⟩,
  zf g1 hlt,zf w1 hll,zf w2 hll,hlp,s1.free hlt,zm.free (H':=H6) (fun b u e=>s6 b u e) hll,hdeH⟩
 refine ⟨_,rfl,_,rfl,_,_,rfl,rfl,a,ns,at0 + 1,rfl,I0.sm.seq hS,h63,fun more H8 s8 _=>?_⟩
 have I8:=I0.same s8
 refine ⟨_,rfl,_,rfl,a,ns,at0,rfl,I8.sm.seq hS,h63,fun c0 H9 s9 _=>?_⟩
 have I9:=I8.same s9
 have hm1:(0:Int) < (most:Int) + 1:=by omega
 have b0 : 0<=c0 % ((most:Int) + 1):=Int.emod_nonneg _ (by omega)
 have b1:c0 % ((most:Int) + 1) < (most:Int) + 1:=Int.emod_lt_of_pos _ hm1
 refine ⟨_,rfl,_,_,rfl,rfl,_,_,rfl,rfl,hm1,c0 % ((most:Int) + 1),rfl,by omega,by omega,?_⟩
 clear I0 I8 s8 s9
 generalize hn:(c0 % ((most:Int) + 1)).toNat = n
 have hn24:n<=most:=by omega
 refine zad (n:=n) (fun i σ H'=>∃ (S:FS) (v9 v10 v11 v12 v13:Option V),σ = [some (.ref a),some (.int (at0:Nat)),some (.ref pa),some (.int (most:Nat)),some (.ref lp),some (.ref lt),some (.ref de),some (.ref ll),some (.int more),v9,v10,v11,v12,v13]/\FI H H' lp lt ll de S/\FM i S)
  ⟨⟨[],[],[],[],[]⟩,_,_,_,_,_,rfl,I9,FM.zero⟩ ?_ ?_
 ·rintro i σ H1 hi ⟨S,v9,v10,v11,v12,v13,rfl,I1,M1⟩
  have hi':i < n:=hi
  refine ⟨_,rfl,_,rfl,_,rfl,_,rfl,_,_,rfl,rfl,a,ns,at0 + 2,rfl,I1.sm.seq hS,h63,fun c2 H2 s2 _=>?_⟩
  have I2:=I1.same s2
  refine ⟨_,_,rfl,rfl,.inl ⟨by omega,by omega⟩,_,_,rfl,rfl,_,rfl,_,_,rfl,?_⟩
  generalize xa (more + ((0:Int) + (i:Int)) * c2) ((0:Int) + (i:Int)) = mm
  refine ⟨(by show 8<=sizeLine; decide),fun l8 hl8=>?_⟩
  have s3:=zb hl8 (.lst [.str "both",.str "seat",.str "both",.str "tag",.str "tag",.str "tail",.str "bag",.str "both"])
  have g3:upd H2 l8 (.lst [.str "both",.str "seat",.str "both",.str "tag",.str "tag",.str "tail",.str "bag",.str "both"]) l8 = some (.lst [.str "both",.str "seat",.str "both",.str "tag",.str "tag",.str "tail",.str "bag",.str "both"]):=za
  generalize upd H2 l8 (.lst [.str "both",.str "seat",.str "both",.str "tag",.str "tag",.str "tail",.str "bag",.str "both"]) = H3 at s3 g3 |-
  have I3:=I2.same s3
  have e0 : 0<=mm % 8:=Int.emod_nonneg _ (by decide)
  have e1:mm % 8 < 8:=Int.emod_lt_of_pos _ (by decide)
  obtain ⟨d,hd⟩:=Int.eq_ofNat_of_zero_le e0
  have hk0:=ziv d
  refine ⟨_,rfl,_,_,rfl,rfl,zp8,l8,_,_,.str (kw (kd8 d)),rfl,rfl,SqL.of g3,(by rw [hd]; exact ziw d (by omega)),?_⟩
  obtain ⟨dd,hdd,hd0,hd24⟩:∃ dd:Int,dd = (if (most:Int) - 2 < 24 then (most:Int) - 2 else 24)/\0 < dd/\dd<=24:=⟨_,rfl,by split <;> omega,by split <;> omega⟩
  have f0 : 0<=mm / 8 % dd:=Int.emod_nonneg _ (by omega)
  have f1:mm / 8 % dd < dd:=Int.emod_lt_of_pos _ hd0
  obtain ⟨j,hj⟩:=Int.eq_ofNat_of_zero_le f0
  have hj26:j < 26:=by omega
  have hpa3:=I3.sm _ _ hpa
  refine ⟨_,rfl,_,rfl,_,_,rfl,rfl,⟨by decide,by decide⟩,_,rfl,_,_,rfl,rfl,_,_,rfl,_,_,rfl,rfl,(by rw [<- hdd]; exact hd0),pa,_,_,.str (yU c j),rfl,rfl,SqL.of hpa3,(by rw [<- hdd,hj]; exact xf (by rw [List.getElem?_map,zd2 hj26]; rfl)),?_⟩
  have hz:=qO c j
  generalize yU c j = z at hz |-
  generalize kd8 d = k0 at hk0 |-
  clear e0 e1 hd f0 f1 hj hd0 hd24 hdd hj26 s2 s3 g3 hl8 I1 I2
  try dsimp only
  refine yP (fun σ' H'=>∃ k:Nat,k < 5/\σ' = [some (.ref a),some (.int (at0:Nat)),some (.ref pa),some (.int (most:Nat)),some (.ref lp),some (.ref lt),some (.ref de),some (.ref ll),some (.int more),some (.int ((0:Int) + (i:Int))),some (.int mm),some (.str (kw k)),some (.str z),v13]/\FI H H' lp lt ll de S/\(z5 k = true->z ∉ S.L)) ?_ (fun key=>?_)
  rotate_left
  ·refine ⟨_,rfl,zz2,fun l hl=>?_⟩
   have s4:=zb hl (.lst [.str "both",.str "tag"])
   refine ⟨l,_,rfl,.inl (SqL.of za),rfl,rfl,_,rfl,?_⟩
   generalize upd H3 l (.lst [.str "both",.str "tag"]) = H4 at s4 |-
   have I4:=I3.same s4
   cases en:z5 k0 with
   | false=>
    refine ud (show inV (.str (kw k0)) [.str "both",.str "tag"] = false from (ug k0 hk0).trans en) ?_
    refine yk ?_
    exact key _ _ ⟨k0,hk0,rfl,I4,fun e=>by rw [en] at e; cases e⟩
   | true=>
    refine vF (show inV (.str (kw k0)) [.str "both",.str "tag"] = true from (ug k0 hk0).trans en) ?_
    refine ⟨_,rfl,_,rfl,ll,_,rfl,.inl (SqL.of I4.hl),rfl,xP,_,rfl,?_⟩
    by_cases hz1:z ∈ S.L
    ·refine vF (x6.trans (decide_eq_true hz1)) ?_
     exact key _ _ ⟨0,by decide,rfl,I4,fun e=>by cases e⟩
    ·refine ud (x6.trans (decide_eq_false hz1)) ?_
     exact key _ _ ⟨k0,hk0,rfl,I4,fun _=>hz1⟩
  clear I3
  rintro σ4 H4 ⟨k,hk,rfl,I4,hn4⟩
  try dsimp only
  refine yP (fun σ' H'=>σ' = [some (.ref a),some (.int (at0:Nat)),some (.ref pa),some (.int (most:Nat)),some (.ref lp),some (.ref lt),some (.ref de),some (.ref ll),some (.int more),some (.int ((0:Int) + (i:Int))),some (.int mm),some (.str (kw k)),some (.str z),v13]/\FI H H' lp lt ll de (if z5 k = true then { S with L:=S.L ++ [z] } else S)) ?_ (fun key=>?_)
  rotate_left
  ·refine ⟨_,rfl,zz2,fun l hl=>?_⟩
   have s5:=zb hl (.lst [.str "both",.str "tag"])
   refine ⟨l,_,rfl,.inl (SqL.of za),rfl,rfl,_,rfl,?_⟩
   generalize upd H4 l (.lst [.str "both",.str "tag"]) = H5 at s5 |-
   have I5:=I4.same s5
   cases en:z5 k with
   | false=>
    refine ud (show inV (.str (kw k)) [.str "both",.str "tag"] = false from (ug k hk).trans en) ?_
    exact key _ _ ⟨rfl,by rw [en,if_neg Bool.false_ne_true]; exact I5⟩
   | true=>
    refine vF (show inV (.str (kw k)) [.str "both",.str "tag"] = true from (ug k hk).trans en) ?_
    have lL:=M1.lL
    refine ⟨_,rfl,.inl ⟨rfl,_,SqL.of I5.hl⟩,_,rfl,ll,_,_,rfl,rfl,I5.hl,zF (by rw [List.length_map]; omega),?_⟩
    exact key _ _ ⟨rfl,by rw [en,if_pos rfl]; exact I5.addL⟩
  clear I4
  rintro σ5 H5 ⟨rfl,I5⟩
  have lP:S.P.length<=24:=by have:=M1.ln; omega
  have lG:S.G.length<=24:=by have:=M1.ln; omega
  have nextM:=fun b=>M1.add (b:=b) hk hz hn4
  rcases lt5 hk with rfl | rfl | rfl | rfl | rfl
  ·have I5:FI H H5 lp lt ll de S:=I5
   refine ⟨_,rfl,rfl,_,rfl,?_⟩
   refine dF (by decide +kernel) ?_
   refine ⟨_,rfl,zz2,fun l hl=>?_⟩
   have s6:=zb hl (.lst [.str "tail",.str "bag"])
   refine ⟨l,_,rfl,.inl (SqL.of za),rfl,rfl,_,rfl,?_⟩
   generalize upd H5 l (.lst [.str "tail",.str "bag"]) = H6 at s6 |-
   have I6:=I5.same s6
   refine ud (by decide +kernel) ?_
   obtain ⟨us,h1,h2⟩:=I6.hp
   have hlu:us.length<=24:=by rw [h2.length]; exact lP
   refine ⟨_,rfl,.inl ⟨rfl,_,SqL.of h1⟩,_,rfl,_,rfl,_,rfl,_,_,rfl,rfl,⟨by decide,by decide⟩,_,_,rfl,rfl,zp2,rfl,zz3,fun u hu=>?_⟩
   generalize decide (V.int (mm / 200 % 2) = V.int 1) = fb
   have s7:=zb hu (.tup [.str "seat",.str z,.bl fb])
   have tu:TAt (upd H6 u (.tup [.str "seat",.str z,.bl fb])) u ⟨0,z,fb⟩:=za
   refine ⟨lp,_,_,rfl,rfl,s7 _ _ h1,zF (by rw [List.length_map]; omega),?_⟩
   exact ⟨S.add 0 z fb,_,_,_,_,_,rfl,(I6.same s7).addP (s7 _ _ h1) (zK s7 h2) tu,nextM fb⟩
  ·have I5:FI H H5 lp lt ll de { S with L:=S.L ++ [z] }:=I5
   refine ⟨_,rfl,rfl,_,rfl,?_⟩
   refine dF (by decide +kernel) ?_
   refine ⟨_,rfl,zz2,fun l hl=>?_⟩
   have s6:=zb hl (.lst [.str "tail",.str "bag"])
   refine ⟨l,_,rfl,.inl (SqL.of za),rfl,rfl,_,rfl,?_⟩
   generalize upd H5 l (.lst [.str "tail",.str "bag"]) = H6 at s6 |-
   have I6:=I5.same s6
   refine ud (by decide +kernel) ?_
   obtain ⟨us,h1,h2⟩:=I6.hp
   have hlu:us.length<=24:=by rw [h2.length]; exact lP
   refine ⟨_,rfl,.inl ⟨rfl,_,SqL.of h1⟩,_,rfl,_,rfl,_,rfl,_,_,rfl,rfl,⟨by decide,by decide⟩,_,_,rfl,rfl,zp2,rfl,zz3,fun u hu=>?_⟩
   generalize decide (V.int (mm / 200 % 2) = V.int 1) = fb
   have s7:=zb hu (.tup [.str "both",.str z,.bl fb])
   have tu:TAt (upd H6 u (.tup [.str "both",.str z,.bl fb])) u ⟨1,z,fb⟩:=za
   refine ⟨lp,_,_,rfl,rfl,s7 _ _ h1,zF (by rw [List.length_map]; omega),?_⟩
   exact ⟨S.add 1 z fb,_,_,_,_,_,rfl,(I6.same s7).addP (s7 _ _ h1) (zK s7 h2) tu,nextM fb⟩
  ·have I5:FI H H5 lp lt ll de S:=I5
   refine ⟨_,rfl,rfl,_,rfl,?_⟩
   refine dF (by decide +kernel) ?_
   refine ⟨_,rfl,zz2,fun l hl=>?_⟩
   have s6:=zb hl (.lst [.str "tail",.str "bag"])
   refine ⟨l,_,rfl,.inl (SqL.of za),rfl,rfl,_,rfl,?_⟩
   generalize upd H5 l (.lst [.str "tail",.str "bag"]) = H6 at s6 |-
   have I6:=I5.same s6
   refine vF (by decide +kernel) ?_
   refine ⟨_,rfl,_,rfl,zz2,fun u hu=>?_⟩
   have s7:=zb hu (.tup [.str "tail",.str z])
   have tu:TAt (upd H6 u (.tup [.str "tail",.str z])) u ⟨2,z,true⟩:=za
   refine ⟨zz1,fun ln hln=>?_⟩
   have s8:=zb hln (.lst [.ref u])
   have I8:=I6.same (s7.trans s8)
   obtain ⟨ta',ba',e1,e2,e3,e4,e5,e6,e7,e8,e9⟩:=I8.he
   obtain ⟨us1,p1,_⟩:=(I6.same s7).hp
   obtain ⟨us2,p2,_⟩:=(I6.same s7).ht
   have p3:=(I6.same s7).hl
   refine ⟨_,rfl,_,rfl,de,_,rfl,zeI.k (k:=Sum.inr "tail") e1 (by show 2 < sizeLine; decide),?_⟩
   have hnew:vo (upd (upd H6 u (.tup [.str "tail",.str z])) ln (.lst [.ref u])) ln [⟨2,z,true⟩]:=⟨[u],za,.cons (tu.same s8) .nil⟩
   rw [ziG]
   exact ⟨S.add 2 z true,_,_,_,_,_,rfl,I8.set (S':=S.add 2 z true) rfl rfl rfl ⟨(zf p1 hln).symm,(zf p2 hln).symm,(zf p3 hln).symm,e5,e6,e7⟩ hnew e9,nextM true⟩
  ·have I5:FI H H5 lp lt ll de { S with L:=S.L ++ [z] }:=I5
   refine ⟨_,rfl,rfl,_,rfl,?_⟩
   refine dT rfl ?_
   have I6:=I5
   have H6:=H5
   obtain ⟨us,h1,h2⟩:=I6.ht
   have hlu:us.length<=24:=by rw [h2.length]; exact lG
   refine ⟨_,rfl,.inl ⟨rfl,_,SqL.of h1⟩,_,rfl,_,rfl,_,_,rfl,rfl,⟨by decide,by decide⟩,_,_,rfl,rfl,zp2,rfl,zz3,fun u hu=>?_⟩
   generalize decide (V.int (mm / 200 % 2) = V.int 1) = fb
   have s7:=zb hu (.tup [.str "tag",.str z,.bl fb])
   have tu:TAt (upd H5 u (.tup [.str "tag",.str z,.bl fb])) u ⟨3,z,fb⟩:=za
   refine ⟨lt,_,_,rfl,rfl,s7 _ _ h1,zF (by rw [List.length_map]; omega),?_⟩
   exact ⟨S.add 3 z fb,_,_,_,_,_,rfl,(I6.same s7).addG (s7 _ _ h1) (zK s7 h2) tu,nextM fb⟩
  ·have I5:FI H H5 lp lt ll de S:=I5
   refine ⟨_,rfl,rfl,_,rfl,?_⟩
   refine dF (by decide +kernel) ?_
   refine ⟨_,rfl,zz2,fun l hl=>?_⟩
   have s6:=zb hl (.lst [.str "tail",.str "bag"])
   refine ⟨l,_,rfl,.inl (SqL.of za),rfl,rfl,_,rfl,?_⟩
   generalize upd H5 l (.lst [.str "tail",.str "bag"]) = H6 at s6 |-
   have I6:=I5.same s6
   refine vF (by decide +kernel) ?_
   refine ⟨_,rfl,_,rfl,zz2,fun u hu=>?_⟩
   have s7:=zb hu (.tup [.str "bag",.str z])
   have tu:TAt (upd H6 u (.tup [.str "bag",.str z])) u ⟨4,z,true⟩:=za
   refine ⟨zz1,fun ln hln=>?_⟩
   have s8:=zb hln (.lst [.ref u])
   have I8:=I6.same (s7.trans s8)
   obtain ⟨ta',ba',e1,e2,e3,e4,e5,e6,e7,e8,e9⟩:=I8.he
   obtain ⟨us1,p1,_⟩:=(I6.same s7).hp
   obtain ⟨us2,p2,_⟩:=(I6.same s7).ht
   have p3:=(I6.same s7).hl
   refine ⟨_,rfl,_,rfl,de,_,rfl,zeI.k (k:=Sum.inr "bag") e1 (by show 2 < sizeLine; decide),?_⟩
   have hnew:vo (upd (upd H6 u (.tup [.str "bag",.str z])) ln (.lst [.ref u])) ln [⟨4,z,true⟩]:=⟨[u],za,.cons (tu.same s8) .nil⟩
   rw [ziH]
   exact ⟨S.add 4 z true,_,_,_,_,_,rfl,I8.set (S':=S.add 4 z true) rfl rfl rfl ⟨e2,e3,e4,(zf p1 hln).symm,(zf p2 hln).symm,(zf p3 hln).symm⟩ e8 hnew,nextM true⟩
 ·rintro σ H1 ⟨S,v9,v10,v11,v12,v13,rfl,I1,M1⟩
  have hpa1:=I1.sm _ _ hpa
  refine ⟨_,rfl,pa,rfl,⟨_,SqL.of hpa1⟩,fun D hD=>?_⟩
  refine zaQ (K:=K) (xs:=(xX c).map V.str) ((List.range 26).map fun k=>(k,yU c k)) (fun p=>decide (p.2 ∉ S.L) && decide (xa more ((p.1:Int) + 30) % 6 = 0)) (fun p=>V.str p.2) hD (SqL.of hpa1) (by rw [List.length_map,w9,List.length_map,List.length_range]) (by rw [List.length_map,w9]; decide) ?_ ?_
  ·rintro k x y p H2 N Sk hx hy hp sH qN qS
   obtain ⟨z,hz,rfl⟩:=strs_at hx
   obtain ⟨hk,rfl⟩:=zfb hz
   rw [List.getElem?_map,List.getElem?_range hk] at hy
   cases hy
   have sp:=zb hp (.tup [.int (k:Nat),.str (yU c k)])
   refine ⟨p,_,rfl,SqT.of za,rfl,_,_,rfl,_,_,rfl,rfl,?_⟩
   have I3:=(I1.same sH).same sp
   generalize upd H2 p (.tup [.int (k:Nat),.str (yU c k)]) = H3 at sp I3 |-
   refine ⟨_,rfl,_,rfl,ll,_,rfl,.inl (SqL.of I3.hl),rfl,xP,_,rfl,?_⟩
   by_cases hz1:yU c k ∈ S.L
   ·refine ud (by rw [if_pos rfl,x6,decide_eq_true hz1]; rfl) ?_
    refine ⟨fun e=>Bool.noConfusion e,fun _=>qS _ sp ?_⟩
    show (decide (yU c k ∉ S.L) && _) = false
    rw [decide_eq_false (fun h=>h hz1)]
    rfl
   ·refine vF (by rw [if_pos rfl,x6,decide_eq_false hz1]; rfl) ?_
    refine ⟨_,rfl,_,rfl,_,_,rfl,rfl,_,_,rfl,_,_,rfl,rfl,(by show (0:Int) < 6; decide),rfl,_,rfl,?_⟩
    refine ⟨fun e=>⟨_,rfl,qN _ sp ?_⟩,fun e=>qS _ sp ?_⟩
    ·show (decide (yU c k ∉ S.L) && decide (xa more ((k:Int) + 30) % 6 = 0)) = true
     rw [decide_eq_true hz1,Bool.true_and]
     exact decide_eq_true (V.int.inj (of_decide_eq_true e))
    ·show (decide (yU c k ∉ S.L) && decide (xa more ((k:Int) + 30) % 6 = 0)) = false
     rw [decide_eq_true hz1,Bool.true_and]
     exact decide_eq_false fun h=>of_decide_eq_false e (congrArg V.int h)
  ·intro H2 s2 hDv
   obtain ⟨bars,hbars⟩:∃ bars:List Str,bars = ((((List.range 26).map fun k=>(k,yU c k)).filter (fun p=>decide (p.2 ∉ S.L) && decide (xa more ((p.1:Int) + 30) % 6 = 0))).map (·.2)):=⟨_,rfl⟩
   have hDv:H2 D = some (.lst (bars.map V.str)):=by rw [hDv,hbars,List.map_map]; rfl
   have sub:List.Sublist bars (xX c):=by
    rw [hbars]
    have:=(List.filter_sublist (l:=(List.range 26).map fun k=>(k,yU c k)) (p:=fun p=>decide (p.2 ∉ S.L) && decide (xa more ((p.1:Int) + 30) % 6 = 0))).map (·.2)
    rw [List.map_map] at this
    exact this
   have lb:bars.length<=60:=by
    have:=sub.length_le
    rw [w9] at this
    omega
   have V1:yR S.rows bars:=M1.valid (by omega) lb (fun z hz=>zcp (sub.subset hz)) ((zbm c).sublist sub) (fun z hz=>by
    rw [hbars] at hz
    obtain ⟨p,hp,rfl⟩:=List.mem_map.mp hz
    have:=(List.mem_filter.mp hp).2
    rw [Bool.and_eq_true] at this
    exact of_decide_eq_true this.1)
   clear hbars
   have I2:=I1.same s2
   obtain ⟨us1,h11,h12⟩:=I2.hp
   obtain ⟨us3,h31,h32⟩:=I2.ht
   obtain ⟨ta',ba',e1,e2,e3,e4,e5,e6,e7,⟨us2,h21,h22⟩,⟨us4,h41,h42⟩⟩:=I2.he
   have lP:=M1.ln
   have l1:us1.length = S.P.length:=h12.length
   have l2:us2.length = S.T.length:=h22.length
   have l3:us3.length = S.G.length:=h32.length
   have l4:us4.length = S.B.length:=h42.length
   refine ⟨_,rfl,_,rfl,de,.ref ta',rfl,.inl ⟨_,.inr "tail",.inl e1,rfl,(zhb ta' ba').symm⟩,lp,ta',_,_,rfl,rfl,h11,h21,ye (by rw [List.length_map,List.length_map]; omega),fun x1 hx1=>?_⟩
   rw [<- List.map_append]
   have s3:=zb hx1 (.lst ((us1 ++ us2).map V.ref))
   have g3:upd H2 x1 (.lst ((us1 ++ us2).map V.ref)) x1 = some (.lst ((us1 ++ us2).map V.ref)):=za
   generalize upd H2 x1 (.lst ((us1 ++ us2).map V.ref)) = H3 at s3 g3 |-
   refine ⟨_,rfl,x1,lt,_,_,rfl,rfl,g3,s3 _ _ h31,ye (by rw [List.length_map,List.length_map,List.length_append]; omega),fun x2 hx2=>?_⟩
   rw [<- List.map_append]
   have s4:=zb hx2 (.lst ((us1 ++ us2 ++ us3).map V.ref))
   have g4:upd H3 x2 (.lst ((us1 ++ us2 ++ us3).map V.ref)) x2 = some (.lst ((us1 ++ us2 ++ us3).map V.ref)):=za
   generalize upd H3 x2 (.lst ((us1 ++ us2 ++ us3).map V.ref)) = H4 at s4 g4 |-
   have s24:=s3.trans s4
   refine ⟨_,rfl,de,.ref ba',rfl,.inl ⟨_,.inr "bag",.inl (s24 _ _ e1),rfl,(zhc ta' ba').symm⟩,x2,ba',_,_,rfl,rfl,g4,s24 _ _ h41,ye (by rw [List.length_map,List.length_map,List.length_append,List.length_append]; omega),fun x3 hx3=>?_⟩
   rw [<- List.map_append]
   have s5:=zb hx3 (.lst ((us1 ++ us2 ++ us3 ++ us4).map V.ref))
   have g5:upd H4 x3 (.lst ((us1 ++ us2 ++ us3 ++ us4).map V.ref)) x3 = some (.lst ((us1 ++ us2 ++ us3 ++ us4).map V.ref)):=za
   generalize upd H4 x3 (.lst ((us1 ++ us2 ++ us3 ++ us4).map V.ref)) = H5 at s5 g5 |-
   have s25:=s24.trans s5
   refine ⟨_,rfl,zz2,fun t ht=>?_⟩
   have s6:=zb ht (.tup [.ref x3,.ref D])
   have s26:=s25.trans s6
   exact q t x3 D _ S.rows bars _ (I2.sm.trans s26) za (s6 _ _ g5) (zK s26 (yE (yE (yE h12 h22) h32) h42)) (s26 _ _ hDv) V1
end
section
variable {K:Frag} {c:C5}
theorem TAt.upd {H:Hp} {v D:Addr} {r:Rw} {ys:List V} {o:HO} (h:TAt H v r) (hD:H D = some (.lst ys)):TAt (upd H D o) v r:=by
 show L2.upd H D o v = _
 rw [zi (fun e=>by rw [e] at h; rw [TAt,hD] at h; cases h)]
 exact h
theorem PAt.upd {c:C5} {H:Hp} {v D:Addr} {r:Rw} {ys:List V} {o:HO} (h:PAt c H v r) (hD:H D = some (.lst ys)):PAt c (upd H D o) v r:=by
 obtain ⟨dx,h⟩:=h
 refine ⟨dx,?_⟩
 rw [zi (fun e=>by rw [e,hD] at h; cases h)]
 exact h
end
section
variable {K:Frag} {ok:Addr->Prop} {H:Hp} {n:Nat}
end
theorem zcy:([Str.ofString "_law_one"]:List Str).Nodup:=by decide +kernel
end K22
namespace L2
open PySem PySem.Spec PyProof.Rows
def zjb:R2:=fun x y H Q=>∃ (a c:Addr) (xs ys:List V),x = .ref a/\y = .ref c/\H a = some (.lst xs)/\H c = some (.lst ys)/\xs.length ≠ ys.length/\Q (.bl true) H
theorem zbv {X:Cx} (hu:X.A.units < cLine):OpR X (compareOp .NotEq) zjb:=by
 intro pins s σ H x y v u Q I rx ry h
 obtain ⟨a,c,xs,ys,rfl,rfl,ha,hc,hn,q⟩:=h
 cases rx
 cases ry
 obtain ⟨its,r,pl,_⟩:=I.list (SqL.of ha)
 obtain ⟨its2,r2,pl2,_⟩:=I.list (SqL.of hc)
 have e1:=r.length
 have e2:=r2.length
 exact SeqAt.RcNeAt.lists_lengths pl.isList pl2.isList (by simp only [List.size_toArray,bne_iff_ne]; omega) hu X.prog X.w X.xe _ ⟨.bl true,H,I,rfl,q⟩
end L2
namespace K22
open PySem L2 PyProof.Rows
theorem xl {xs:List V} {n:Nat}:xV xs none (some (n:Int)) = xs.take n:=by
 unfold xV
 rw [HT.zjL,HT.zi9,List.drop_zero,Nat.sub_zero]
 by_cases h:n<=xs.length
 ·rw [Nat.min_eq_left h]
 ·rw [Nat.min_eq_right (by omega),List.take_of_length_le (Nat.le_refl _),List.take_of_length_le (by omega)]
theorem ww {α β : Type} {R : α->β->Prop} {a:List α} {c:List β} (h:Paired R a c):∀ n,Paired R (a.take n) (c.take n):=by
 induction h with
 | nil=>intro n; rw [List.take_nil,List.take_nil]; exact .nil
 | cons r _ ih=>
  intro n
  cases n with
  | zero=>exact .nil
  | succ n=>exact .cons r (ih n)
theorem yN {xs:List V} {n:Nat}:xV xs (some (n:Int)) none = xs.drop n:=by
 unfold xV
 rw [HT.zjL,HT.zi9]
 by_cases h:n<=xs.length
 ·rw [Nat.min_eq_left h]
  exact List.take_of_length_le (by rw [List.length_drop]; exact Nat.le_refl _)
 ·rw [Nat.min_eq_right (by omega),List.drop_of_length_le (Nat.le_refl _),List.drop_of_length_le (by omega)]
  simp
theorem wx {α β : Type} {R : α->β->Prop} {a:List α} {c:List β} (h:Paired R a c):∀ n,Paired R (a.drop n) (c.drop n):=by
 induction h with
 | nil=>intro n; rw [List.drop_nil,List.drop_nil]; exact .nil
 | cons r t ih=>
  intro n
  cases n with
  | zero=>exact .cons r t
  | succ n=>exact ih n
def yo (m:Int) (ts:List Int) (ps:List (Str × Int)):yv × List Int × List (Str × Int):=
 if m % 4 = 0/\ts ≠ [] then (.one (ts.headD 0),ts.drop 1,ps)
 else if m % 4 = 1 then (.row (ts.take (m / 4 % 4).toNat),ts.drop (m / 4 % 4).toNat,ps)
 else if m % 4 = 2/\ps ≠ [] then (.named (ps.headD ("",0)).1 (ps.headD ("",0)).2,ts,ps.drop 1)
 else (.book (ps.take (m / 4 % 4).toNat),ts,ps.drop (m / 4 % 4).toNat)
def xD (cell:Int):Nat->List yv->List Int->List (Str × Int)->List yv × List Int × List (Str × Int)
 | 0,ct,ts,ps=>(ct,ts,ps)
 | n + 1,ct,ts,ps=>if ts.length + ps.length > 0 then xD cell n (ct ++ [(yo (xa cell ct.length) ts ps).1]) (yo (xa cell ct.length) ts ps).2.1 (yo (xa cell ct.length) ts ps).2.2 else (ct,ts,ps)
def qt (r:List yv × List Int × List (Str × Int)):List yv:=
 if r.2.1.length + r.2.2.length > 0 then r.1 ++ [.row (r.2.1.take 30),.row (r.2.1.drop 30),.book (r.2.2.take 30),.book (r.2.2.drop 30)] else r.1
def x0 (cell:Int) (ts:List Int) (ps:List (Str × Int)):List yv:=qt (xD cell 26 [] ts ps)
theorem zgl (m:Int) (ts:List Int) (ps:List (Str × Int)):itT (yo m ts ps).1 ++ (yo m ts ps).2.1 = ts:=by
 unfold yo
 split
 next h=>
  cases ts with
  | nil=>exact absurd rfl h.2
  | cons t ts=>rfl
 ·split
  ·exact List.take_append_drop _ _
  ·split <;> rfl
theorem zgm (m:Int) (ts:List Int) (ps:List (Str × Int)):itP (yo m ts ps).1 ++ (yo m ts ps).2.2 = ps:=by
 unfold yo
 split
 ·rfl
 ·split
  ·rfl
  ·split
   next h=>
    cases ps with
    | nil=>exact absurd rfl h.2
    | cons p ps=>rfl
   ·exact List.take_append_drop _ _
theorem jV (cell:Int):∀ (n:Nat) (ct:List yv) (ts:List Int) (ps:List (Str × Int)),ym (xD cell n ct ts ps).1 ++ (xD cell n ct ts ps).2.1 = ym ct ++ ts/\yJ (xD cell n ct ts ps).1 ++ (xD cell n ct ts ps).2.2 = yJ ct ++ ps
 | 0,_,_,_=>⟨rfl,rfl⟩
 | n + 1,ct,ts,ps=>by
  unfold xD
  split
  ·obtain ⟨h1,h2⟩:=jV cell n (ct ++ [(yo (xa cell ct.length) ts ps).1]) (yo (xa cell ct.length) ts ps).2.1 (yo (xa cell ct.length) ts ps).2.2
   rw [h1,h2,zek,zel,List.append_assoc,List.append_assoc,zgl,zgm]
   exact ⟨rfl,rfl⟩
  ·exact ⟨rfl,rfl⟩
theorem zbM (cell:Int) (ts:List Int) (ps:List (Str × Int)):ym (x0 cell ts ps) = ts/\yJ (x0 cell ts ps) = ps:=by
 obtain ⟨h1,h2⟩:=jV cell 26 [] ts ps
 unfold x0 qt
 generalize xD cell 26 [] ts ps = r at h1 h2
 split
 ·refine ⟨Eq.trans ?_ h1,Eq.trans ?_ h2⟩
  ·unfold ym
   simp [itT]
  ·unfold yJ
   simp [itP]
 next h=>
  have e1:r.2.1 = []:=List.eq_nil_of_length_eq_zero (by omega)
  have e2:r.2.2 = []:=List.eq_nil_of_length_eq_zero (by omega)
  rw [e1,List.append_nil] at h1
  rw [e2,List.append_nil] at h2
  exact ⟨h1,h2⟩
structure IV (K:Frag) (H0 H':Hp) (l a b:Addr) (vs ys:List V) (ct:List yv) (ts:List Int) (ps:List (Str × Int)):Prop where
 sm:zm H0 H'
 hl:H' l = some (.lst vs)
 hv:Paired (zH K (fun x=>x ≠ l/\H0 x = none) H' 3) vs (ct.map yC)
 ha:H' a = some (.lst (ts.map V.int))
 hb:H' b = some (.lst ys)
 hy:Paired (zH K (fun x=>x ≠ l/\H0 x = none) H' 1) ys (ps.map xb)
 na:a ≠ l
 nb:b ≠ l
 nl:H0 l = none
section
variable {K:Frag} {H0 H' H'':Hp} {l a b:Addr} {vs ys:List V} {ct:List yv} {ts:List Int} {ps:List (Str × Int)}
theorem IV.same (h:IV K H0 H' l a b vs ys ct ts ps) (s:zm H' H''):IV K H0 H'' l a b vs ys ct ts ps:=
 ⟨h.sm.trans s,s _ _ h.hl,zcJ s h.hv,s _ _ h.ha,s _ _ h.hb,xv s h.hy,h.na,h.nb,h.nl⟩
theorem IV.push {x:V} {it:yv} (h:IV K H0 H' l a b vs ys ct ts ps) (hx:zH K (fun x=>x ≠ l/\H0 x = none) H' 3 x (yC it)):IV K H0 (upd H' l (.lst (vs ++ [x]))) l a b (vs ++ [x]) ys (ct ++ [it]) ts ps:=by
 refine ⟨fun b u e=>by rw [zi (zf e h.nl)]; exact h.sm _ _ e,za,?_,by rw [zi h.na]; exact h.ha,by rw [zi h.nb]; exact h.hb,?_,h.na,h.nb,h.nl⟩
 ·rw [List.map_append]
  exact Paired.snoc (Paired.imp' (fun _ _ z=>y3 h.hl (fun b o=>⟨o,o.1⟩) z) h.hv) (y3 h.hl (fun b o=>⟨o,o.1⟩) hx)
 ·exact Paired.imp' (fun _ _ z=>y3 h.hl (fun b o=>⟨o,o.1⟩) z) h.hy
theorem IV.setA {a':Addr} {ts':List Int} (h:IV K H0 H' l a b vs ys ct ts ps) (ha:H' a' = some (.lst (ts'.map V.int))) (n:a' ≠ l):IV K H0 H' l a' b vs ys ct ts' ps:=⟨h.sm,h.hl,h.hv,ha,h.hb,h.hy,n,h.nb,h.nl⟩
theorem IV.setB {b':Addr} {ys':List V} {ps':List (Str × Int)} (h:IV K H0 H' l a b vs ys ct ts ps) (hb:H' b' = some (.lst ys')) (hy:Paired (zH K (fun x=>x ≠ l/\H0 x = none) H' 1) ys' (ps'.map xb)) (n:b' ≠ l):IV K H0 H' l a b' vs ys' ct ts ps':=⟨h.sm,h.hl,h.hv,h.ha,hb,hy,h.na,n,h.nl⟩
end
def itW (K:Frag) (H0:Hp) (cell:Int) (l:Addr) (R:List yv × List Int × List (Str × Int)) (m:Nat) (σ : L2.St) (H':Hp):Prop:=
 ∃ (a b:Addr) (vs ys:List V) (ct:List yv) (ts:List Int) (ps:List (Str × Int)) (v4 v5:Option V),σ = [some (.ref a),some (.ref b),some (.int cell),some (.ref l),v4,v5]/\IV K H0 H' l a b vs ys ct ts ps/\ct.length + m = 26/\xD cell m ct ts ps = R/\ts.length<=400/\ps.length<=400
def zaB (K:Frag):Sp:=fun vs H Q _=>∃ (a b:Addr) (cell:Int) (ys:List V) (ts:List Int) (ps:List (Str × Int)),vs = [.ref a,.ref b,.int cell]/\H a = some (.lst (ts.map V.int))/\H b = some (.lst ys)/\Paired (zH K T' H 1) ys (ps.map xb)/\ts.length<=400/\ps.length<=400/\
 ∀ (l:Addr) (zs:List V) (H':Hp),zm H H'->H l = none->H' l = some (.lst zs)->Paired (zH K (fun x=>x ≠ l/\H x = none) H' 3) zs ((x0 cell ts ps).map yC)->Q (.ref l) H'
section
variable {P:Program} {w:World} {K:Frag} {mg:Str->Option Value} {base:Heap} {f:Addr} {fd:FuncData}
theorem zd7 {ok ok':Addr->Prop} {H:Hp} {ys:List V} {ps:List (Str × Int)} (h:Paired (zH K ok H 1) ys (ps.map xb)):Paired (zH K ok' H 1) ys (ps.map xb):=by
 induction ps generalizing ys with
 | nil=>cases h; exact .nil
 | cons p ps ih=>
  cases h with
  | cons h r=>
   obtain ⟨b,rfl,hb⟩:=vf h
   exact .cons (.tup hb (.cons .str (.cons .int .nil))) (ih r)
theorem xJ:zu ["_law_things","_law_pairs","_law_cell_here","_law_call","_law_number","_law_many"] ["_law_things","_law_pairs","_law_cell_here"] (ze uH):=⟨rfl,rfl,rfl,by decide +kernel,rfl,by decide +kernel,by decide +kernel⟩
theorem zfA {g1:Addr} {d1:FuncData} (F:Fun K "_law_items" "_law_items" uH f fd) (U:zb2 mg) (cM:zp P w K mg base 1 "_law_mix" g1 d1 ["_law_cell_here","_law_k"] jA):zE P w K mg base CX0 2 f fd ["_law_things","_law_pairs","_law_cell_here"] (zaB K):=by
 refine F.ok xJ (fun vs H Q E h=>?_) (fun cdv A outer s H vs Q E hr h=>?_)
 ·obtain ⟨a,b,cell,ys,ts,ps,rfl,_⟩:=h
  rfl
 obtain ⟨a,b,cell,ys,ts,ps,rfl,ha,hb,hy,l1,l2,q⟩:=h
 have hU:=hr.units
 have hU0:=hr.units0
 refine ⟨_,zd (zw (i:=3) xJ.nd rfl (Or.inl rfl) (zM zc))
   (zd (ze8 PassesOwn.never (PW.pt (xn (zk ja (cB zB U.len PySem.boot_len (ac (pv 3) zc)) zg (zt _)) (yQ (zk zbx (zx yt (cB zB U.len PySem.boot_len (ac (pv 0) zc)) (cB zB U.len PySem.boot_len (ac (pv 1) zc))) zg (zt _))))) (zd (zw (i:=4) xJ.nd rfl (Or.inl rfl) (cF cM hr (ac (pv 2) (ac (cB zB U.len PySem.boot_len (ac (pv 3) zc)) zc))))
   (zd (zw (i:=5) xJ.nd rfl (Or.inl rfl) (zx yd (zx xK (pv 4) zg) zg))
   (zh (zI (PW.pt (xn (zk zZ (zx yd (pv 4) zg) zg (zt _)) (yQ (zk (OpR.or (zaO hU) (zbv hU0)) (pv 0) (zM zc) (zt _))))) (zd (zJ (yV PySem.F.plainAttrs_list PySem.F.slot_list_append PySem.F.type_list_append zQ (pv 3) (ac (zR (ac zl (ac (zy xr (pv 0) zg (fun _ _=>rfl)) zc))) zc)))
   (zh (zw (i:=0) xJ.nd rfl (Or.inl rfl) (z9 yw (pv 0) (yn zg) yx))))
   (zh (zI (zk zZ (zx yd (pv 4) zg) zg (zt _)) (zd (zJ (yV PySem.F.plainAttrs_list PySem.F.slot_list_append PySem.F.type_list_append zQ (pv 3) (ac (zR (ac zl (ac (z9 yw (pv 0) yx (yn (pv 5))) zc))) zc)))
   (zh (zw (i:=0) xJ.nd rfl (Or.inl rfl) (z9 yw (pv 0) (yn (pv 5)) yx))))
   (zh (zI (PW.pt (xn (zk zZ (zx yd (pv 4) zg) zg (zt _)) (yQ (zk (OpR.or (zaO hU) (zbv hU0)) (pv 1) (zM zc) (zt _))))) (zd (zJ (yV PySem.F.plainAttrs_list PySem.F.slot_list_append PySem.F.type_list_append zQ (pv 3) (ac (zR (ac zl (ac (zy zr (zy xr (pv 1) zg (fun _ _=>rfl)) zg (fun _ _=>rfl)) (ac (zy zr (zy xr (pv 1) zg (fun _ _=>rfl)) zg (fun _ _=>rfl)) zc)))) zc)))
   (zh (zw (i:=1) xJ.nd rfl (Or.inl rfl) (z9 yw (pv 1) (yn zg) yx))))
   (zd (zJ (yV PySem.F.plainAttrs_list PySem.F.slot_list_append PySem.F.type_list_append zQ (pv 3) (ac (zR (ac zl (ac (z9 yw (pv 1) yx (yn (pv 5))) zc))) zc)))
   (zh (zw (i:=1) xJ.nd rfl (Or.inl rfl) (z9 yw (pv 1) (yn (pv 5)) yx)))))))))))))
   (zd (zI (zk zbx (zx yt (cB zB U.len PySem.boot_len (ac (pv 0) zc)) (cB zB U.len PySem.boot_len (ac (pv 1) zc))) zg (zt _)) (zh (zw (i:=3) xJ.nd rfl (Or.inl rfl) (zx yW (pv 3) (zM (ac (zR (ac zl (ac (z9 yw (pv 0) yx (yn zg)) zc))) (ac (zR (ac zl (ac (z9 yw (pv 0) (yn zg) yx) zc))) (ac (zR (ac zl (ac (z9 yw (pv 1) yx (yn zg)) zc))) (ac (zR (ac zl (ac (z9 yw (pv 1) (yn zg) yx) zc))) zc)))))))) zC)
   (zh (zA (pv 3))))),?_⟩
 refine ⟨zz0,fun l hl=>?_⟩
 have s1:=zb hl (.lst [])
 have I0:IV K H (upd H l (.lst [])) l a b [] ys [] ts ps:=⟨s1,za,.nil,s1 _ _ ha,s1 _ _ hb,xv s1 (zd7 hy),zf ha hl,zf hb hl,hl⟩
 try dsimp only [yZ]
 generalize upd H l (.lst []) = H1 at s1 I0 |-
 refine yP (fun σ' H'=>∃ (a b:Addr) (vs ys:List V) (ct:List yv) (ts':List Int) (ps':List (Str × Int)) (v4 v5:Option V),σ' = [some (.ref a),some (.ref b),some (.int cell),some (.ref l),v4,v5]/\IV K H H' l a b vs ys ct ts' ps'/\xD cell 26 [] ts ps = (ct,ts',ps')/\ct.length<=26/\ts'.length<=400/\ps'.length<=400) ?_ (fun key=>?_)
 rotate_left
 ·refine ⟨itW K H cell l (xD cell 26 [] ts ps),⟨26,a,b,[],ys,[],ts,ps,_,_,rfl,I0,rfl,rfl,l1,l2⟩,?_⟩
  clear I0 s1
  rintro m σ H2 ⟨a',b',vs',ys',ct,ts',ps',v4,v5,rfl,I2,hm,hR,l1',l2'⟩
  have lvs:vs'.length = ct.length:=by rw [I2.hv.length,List.length_map]
  have lys:ys'.length = ps'.length:=by rw [I2.hy.length,List.length_map]
  have fin:(m = 0\/ts'.length + ps'.length = 0)->xD cell 26 [] ts ps = (ct,ts',ps'):=fun h=>by
   rw [<- hR]
   cases m with
   | zero=>rfl
   | succ m=>
    show (if ts'.length + ps'.length > 0 then _ else _) = _
    rw [if_neg (by rcases h with h | h <;> omega)]
  refine ⟨_,rfl,l,_,rfl,.inl (SqL.of I2.hl),_,_,rfl,rfl,_,rfl,?_⟩
  by_cases h26:vs'.length < 26
  rotate_left
  ·refine dF (by show ¬ (vs'.length:Int) < 26; omega) ?_
   refine yk ?_
   exact key _ _ ⟨a',b',vs',ys',ct,ts',ps',_,_,rfl,I2,fin (.inl (by omega)),by omega,l1',l2'⟩
  refine dT (by show (vs'.length:Int) < 26; omega) ?_
  refine ⟨_,rfl,a',_,rfl,.inl (SqL.of I2.ha),_,rfl,b',_,rfl,.inl (SqL.of I2.hb),_,_,rfl,rfl,_,_,rfl,rfl,_,rfl,?_⟩
  by_cases h0:ts'.length + ps'.length > 0
  rotate_left
  ·refine dF (by rw [List.length_map]; show ¬ (0:Int) < _; omega) ?_
   exact key _ _ ⟨a',b',vs',ys',ct,ts',ps',_,_,rfl,I2,fin (.inr (by omega)),by omega,l1',l2'⟩
  refine dT (by rw [List.length_map]; show (0:Int) < _; omega) ?_
  obtain ⟨m',rfl⟩:∃ m',m = m' + 1:=⟨m - 1,by omega⟩
  refine ⟨itW K H cell l (xD cell 26 [] ts ps) m',fun σ' H' w=>⟨m',Nat.lt_succ_self _,w⟩,?_⟩
  refine ⟨_,rfl,_,rfl,l,_,rfl,.inl (SqL.of I2.hl),cell,_,rfl,?_⟩
  rw [lvs]
  have hnext:xD cell m' (ct ++ [(yo (xa cell ct.length) ts' ps').1]) (yo (xa cell ct.length) ts' ps').2.1 (yo (xa cell ct.length) ts' ps').2.2 = xD cell 26 [] ts ps:=by
   rw [<- hR]
   show _ = (if ts'.length + ps'.length > 0 then _ else _)
   rw [if_pos h0]
  generalize xa cell (ct.length:Int) = mm at hnext |-
  refine ⟨_,rfl,_,_,rfl,rfl,⟨by decide,by decide⟩,_,_,rfl,rfl,zp4,?_⟩
  have q0 : 0<=mm / 4 % 4:=Int.emod_nonneg _ (by decide)
  have q1:mm / 4 % 4 < 4:=Int.emod_lt_of_pos _ (by decide)
  have r0 : 0<=mm % 4:=Int.emod_nonneg _ (by decide)
  have r1:mm % 4 < 4:=Int.emod_lt_of_pos _ (by decide)
  dsimp only [yZ]
  generalize hq:mm / 4 % 4 = qq at q0 q1 |-
  obtain ⟨n,rfl⟩:=Int.eq_ofNat_of_zero_le q0
  refine ⟨_,rfl,_,_,rfl,rfl,zp4,rfl,_,rfl,?_⟩
  by_cases m0:mm % 4 = 0
  ·refine dT (congrArg V.int m0) ?_
   refine ⟨_,rfl,zz0,fun e0 he0=>?_⟩
   have s3:=zb he0 (.lst [])
   have g3:upd H2 e0 (.lst []) e0 = some (.lst []):=za
   generalize upd H2 e0 (.lst []) = H3 at s3 g3 |-
   have I3:=I2.same s3
   by_cases ht:ts' = []
   ·refine .inl ⟨a',e0,0,.lst [],fun _=>True,fun _=>True,rfl,rfl,by decide,zH.lst True.intro I3.ha (by rw [ht]; exact .nil),zH.lst True.intro g3 .nil,_,rfl,?_⟩
    refine yk ?_
    refine ⟨_,rfl,_,_,rfl,rfl,zp4,rfl,_,rfl,?_⟩
    refine dF (fun e=>by have:=V.int.inj e; omega) ?_
    refine ⟨_,rfl,_,_,rfl,rfl,zp4,rfl,_,rfl,?_⟩
    refine dF (fun e=>by have:=V.int.inj e; omega) ?_
    refine yk ?_
    have es:yo mm ts' ps' = (.book (ps'.take n),ts',ps'.drop n):=by unfold yo; rw [hq,Int.toNat_natCast,if_neg (fun h=>h.2 ht),if_neg (by omega),if_neg (fun h=>by omega)]
    refine ⟨_,rfl,.inl ⟨rfl,_,SqL.of I3.hl⟩,_,rfl,_,rfl,_,rfl,b',_,rfl,SqL.of I3.hb,fun p hp=>?_⟩
    rw [xl]
    have r1:=zb hp (.lst (ys'.take n))
    have e1:upd H3 p (.lst (ys'.take n)) p = some (.lst (ys'.take n)):=za
    have np:p ≠ l:=(zf I3.hl hp).symm
    have np0:H p = none:=I3.sm.free hp
    have J1:=I3.same r1
    generalize upd H3 p (.lst (ys'.take n)) = G1 at r1 e1 J1 |-
    refine ⟨zz2,fun u hu=>?_⟩
    have r2:=zb hu (.tup [.str "book",.ref p])
    have e2:upd G1 u (.tup [.str "book",.ref p]) u = some (.tup [.str "book",.ref p]):=za
    have J2:=J1.same r2
    have e3:=r2 _ _ e1
    generalize upd G1 u (.tup [.str "book",.ref p]) = G2 at r2 e2 J2 e3 |-
    refine ⟨l,_,_,rfl,rfl,J2.hl,zF (by omega),?_⟩
    have J3:=J2.push (x:=.ref u) (it:=.book (ps'.take n)) (.tup (SqT.of e2) (.cons .str (.cons (.lst ⟨np,np0⟩ e3 (by rw [List.map_take]; exact ww J2.hy n)) .nil)))
    show xS _ _ _ _ (upd G2 l (.lst (vs' ++ [.ref u])))
    generalize upd G2 l (.lst (vs' ++ [.ref u])) = G3 at J3 |-
    refine ⟨_,rfl,_,rfl,_,rfl,b',_,rfl,SqL.of J3.hb,fun p2 hp2=>?_⟩
    rw [yN]
    have r4:=zb hp2 (.lst (ys'.drop n))
    have J4:=(J3.same r4).setB (b':=p2) (ys':=ys'.drop n) (ps':=ps'.drop n) za (by rw [List.map_drop]; exact wx (J3.same r4).hy n) (zf J3.hl hp2).symm
    exact ⟨a',p2,_,_,_,ts',ps'.drop n,_,_,rfl,J4,by rw [List.length_append,List.length_singleton]; omega,by rw [<- hnext,es],l1',by rw [List.length_drop]; omega⟩
   ·have tne:(ts'.map V.int).length ≠ ([]:List V).length:=fun e=>ht (List.eq_nil_of_length_eq_zero (by simpa using e))
    refine .inr ⟨a',e0,_,_,rfl,rfl,I3.ha,g3,tne,_,rfl,?_⟩
    refine xI ?_
    cases ts' with
    | nil=>exact absurd rfl ht
    | cons x ts'=>
    have es:yo mm (x :: ts') ps' = (.one x,ts',ps'):=by unfold yo; rw [if_pos ⟨m0,ht⟩]; rfl
    refine ⟨_,rfl,.inl ⟨rfl,_,SqL.of I3.hl⟩,_,rfl,a',_,0,.int x,rfl,rfl,SqL.of I3.ha,xf (j:=0) rfl,zz2,fun u hu=>?_⟩
    have r2:=zb hu (.tup [.str "one",.int x])
    have e2:upd H3 u (.tup [.str "one",.int x]) u = some (.tup [.str "one",.int x]):=za
    have J2:=I3.same r2
    generalize upd H3 u (.tup [.str "one",.int x]) = G2 at r2 e2 J2 |-
    refine ⟨l,_,_,rfl,rfl,J2.hl,zF (by omega),?_⟩
    have J3:=J2.push (x:=.ref u) (it:=.one x) (.tup (SqT.of e2) (.cons .str (.cons .int .nil)))
    show xS _ _ _ _ (upd G2 l (.lst (vs' ++ [.ref u])))
    generalize upd G2 l (.lst (vs' ++ [.ref u])) = G3 at J3 |-
    refine ⟨_,rfl,_,rfl,a',_,rfl,SqL.of J3.ha,fun p2 hp2=>?_⟩
    rw [show xV ((x :: ts').map V.int) (some 1) none = ts'.map V.int from yN (n:=1)]
    have r4:=zb hp2 (.lst (ts'.map V.int))
    have J4:=(J3.same r4).setA (a':=p2) (ts':=ts') za (zf J3.hl hp2).symm
    exact ⟨p2,b',_,_,_,ts',ps',_,_,rfl,J4,by rw [List.length_append,List.length_singleton]; omega,by rw [<- hnext,es],by rw [List.length_cons] at l1'; omega,l2'⟩
  refine dF (fun e=>m0 (V.int.inj e)) ?_
  refine yk ?_
  refine ⟨_,rfl,_,_,rfl,rfl,zp4,rfl,_,rfl,?_⟩
  by_cases m1:mm % 4 = 1
  ·refine dT (congrArg V.int m1) ?_
   have es:yo mm ts' ps' = (.row (ts'.take n),ts'.drop n,ps'):=by unfold yo; rw [hq,Int.toNat_natCast,if_neg (fun h=>m0 h.1),if_pos m1]
   refine ⟨_,rfl,.inl ⟨rfl,_,SqL.of I2.hl⟩,_,rfl,_,rfl,_,rfl,a',_,rfl,SqL.of I2.ha,fun p hp=>?_⟩
   rw [xl,<- List.map_take]
   have r1:=zb hp (.lst ((ts'.take n).map V.int))
   have e1:upd H2 p (.lst ((ts'.take n).map V.int)) p = some (.lst ((ts'.take n).map V.int)):=za
   have np:p ≠ l:=(zf I2.hl hp).symm
   have np0:H p = none:=I2.sm.free hp
   have J1:=I2.same r1
   generalize upd H2 p (.lst ((ts'.take n).map V.int)) = G1 at r1 e1 J1 |-
   refine ⟨zz2,fun u hu=>?_⟩
   have r2:=zb hu (.tup [.str "row",.ref p])
   have e2:upd G1 u (.tup [.str "row",.ref p]) u = some (.tup [.str "row",.ref p]):=za
   have J2:=J1.same r2
   have e3:=r2 _ _ e1
   generalize upd G1 u (.tup [.str "row",.ref p]) = G2 at r2 e2 J2 e3 |-
   refine ⟨l,_,_,rfl,rfl,J2.hl,zF (by omega),?_⟩
   have J3:=J2.push (x:=.ref u) (it:=.row (ts'.take n)) (.tup (SqT.of e2) (.cons .str (.cons (.lst ⟨np,np0⟩ e3 (yB _)) .nil)))
   show xS _ _ _ _ (upd G2 l (.lst (vs' ++ [.ref u])))
   generalize upd G2 l (.lst (vs' ++ [.ref u])) = G3 at J3 |-
   refine ⟨_,rfl,_,rfl,_,rfl,a',_,rfl,SqL.of J3.ha,fun p2 hp2=>?_⟩
   rw [yN,<- List.map_drop]
   have r4:=zb hp2 (.lst ((ts'.drop n).map V.int))
   have J4:=(J3.same r4).setA (a':=p2) (ts':=ts'.drop n) za (zf J3.hl hp2).symm
   exact ⟨p2,b',_,_,_,ts'.drop n,ps',_,_,rfl,J4,by rw [List.length_append,List.length_singleton]; omega,by rw [<- hnext,es],by rw [List.length_drop]; omega,l2'⟩
  refine dF (fun e=>m1 (V.int.inj e)) ?_
  refine ⟨_,rfl,_,_,rfl,rfl,zp4,rfl,_,rfl,?_⟩
  by_cases m2:mm % 4 = 2
  ·refine dT (congrArg V.int m2) ?_
   refine ⟨_,rfl,zz0,fun e0 he0=>?_⟩
   have s3:=zb he0 (.lst [])
   have g3:upd H2 e0 (.lst []) e0 = some (.lst []):=za
   generalize upd H2 e0 (.lst []) = H3 at s3 g3 |-
   have I3:=I2.same s3
   by_cases hp0:ps' = []
   ·have hy0:ys' = []:=List.eq_nil_of_length_eq_zero (by rw [lys,hp0]; rfl)
    refine .inl ⟨b',e0,0,.lst [],fun _=>True,fun _=>True,rfl,rfl,by decide,zH.lst True.intro I3.hb (by rw [hy0]; exact .nil),zH.lst True.intro g3 .nil,_,rfl,?_⟩
    refine yk ?_
    have es:yo mm ts' ps' = (.book (ps'.take n),ts',ps'.drop n):=by unfold yo; rw [hq,Int.toNat_natCast,if_neg (fun h=>m0 h.1),if_neg m1,if_neg (fun h=>h.2 hp0)]
    refine ⟨_,rfl,.inl ⟨rfl,_,SqL.of I3.hl⟩,_,rfl,_,rfl,_,rfl,b',_,rfl,SqL.of I3.hb,fun p hp=>?_⟩
    rw [xl]
    have r1:=zb hp (.lst (ys'.take n))
    have e1:upd H3 p (.lst (ys'.take n)) p = some (.lst (ys'.take n)):=za
    have np:p ≠ l:=(zf I3.hl hp).symm
    have np0:H p = none:=I3.sm.free hp
    have J1:=I3.same r1
    generalize upd H3 p (.lst (ys'.take n)) = G1 at r1 e1 J1 |-
    refine ⟨zz2,fun u hu=>?_⟩
    have r2:=zb hu (.tup [.str "book",.ref p])
    have e2:upd G1 u (.tup [.str "book",.ref p]) u = some (.tup [.str "book",.ref p]):=za
    have J2:=J1.same r2
    have e3:=r2 _ _ e1
    generalize upd G1 u (.tup [.str "book",.ref p]) = G2 at r2 e2 J2 e3 |-
    refine ⟨l,_,_,rfl,rfl,J2.hl,zF (by omega),?_⟩
    have J3:=J2.push (x:=.ref u) (it:=.book (ps'.take n)) (.tup (SqT.of e2) (.cons .str (.cons (.lst ⟨np,np0⟩ e3 (by rw [List.map_take]; exact ww J2.hy n)) .nil)))
    show xS _ _ _ _ (upd G2 l (.lst (vs' ++ [.ref u])))
    generalize upd G2 l (.lst (vs' ++ [.ref u])) = G3 at J3 |-
    refine ⟨_,rfl,_,rfl,_,rfl,b',_,rfl,SqL.of J3.hb,fun p2 hp2=>?_⟩
    rw [yN]
    have r4:=zb hp2 (.lst (ys'.drop n))
    have J4:=(J3.same r4).setB (b':=p2) (ys':=ys'.drop n) (ps':=ps'.drop n) za (by rw [List.map_drop]; exact wx (J3.same r4).hy n) (zf J3.hl hp2).symm
    exact ⟨a',p2,_,_,_,ts',ps'.drop n,_,_,rfl,J4,by rw [List.length_append,List.length_singleton]; omega,by rw [<- hnext,es],l1',by rw [List.length_drop]; omega⟩
   ·have tne:ys'.length ≠ ([]:List V).length:=fun e=>hp0 (List.eq_nil_of_length_eq_zero (by rw [<- lys]; exact e))
    refine .inr ⟨b',e0,_,_,rfl,rfl,I3.hb,g3,tne,_,rfl,?_⟩
    refine xI ?_
    cases ps' with
    | nil=>exact absurd rfl hp0
    | cons x ps'=>
    have es:yo mm ts' (x :: ps') = (.named x.1 x.2,ts',ps'):=by unfold yo; rw [if_neg (fun h=>m0 h.1),if_neg m1,if_pos ⟨m2,hp0⟩]; rfl
    have hy3:=I3.hy
    cases ys' with
    | nil=>cases hy3
    | cons y ys'=>
    cases hy3 with
    | cons hy1 hyr=>
    obtain ⟨pb,rfl,hpb⟩:=vf hy1
    refine ⟨_,rfl,.inl ⟨rfl,_,SqL.of I3.hl⟩,_,rfl,b',_,0,.ref pb,rfl,rfl,SqL.of I3.hb,xf (j:=0) rfl,pb,_,0,.str x.1,rfl,rfl,hpb,rfl,_,rfl,b',_,0,.ref pb,rfl,rfl,SqL.of I3.hb,xf (j:=0) rfl,pb,_,1,.int x.2,rfl,rfl,hpb,rfl,zz3,fun u hu=>?_⟩
    have r2:=zb hu (.tup [.str "named",.str x.1,.int x.2])
    have e2:upd H3 u (.tup [.str "named",.str x.1,.int x.2]) u = some (.tup [.str "named",.str x.1,.int x.2]):=za
    have J2:=I3.same r2
    generalize upd H3 u (.tup [.str "named",.str x.1,.int x.2]) = G2 at r2 e2 J2 |-
    refine ⟨l,_,_,rfl,rfl,J2.hl,zF (by omega),?_⟩
    have J3:=J2.push (x:=.ref u) (it:=.named x.1 x.2) (.tup (SqT.of e2) (.cons .str (.cons .str (.cons .int .nil))))
    show xS _ _ _ _ (upd G2 l (.lst (vs' ++ [.ref u])))
    generalize upd G2 l (.lst (vs' ++ [.ref u])) = G3 at J3 |-
    refine ⟨_,rfl,_,rfl,b',_,rfl,SqL.of J3.hb,fun p2 hp2=>?_⟩
    rw [show xV (V.ref pb :: ys') (some 1) none = ys' from yN (n:=1)]
    have r4:=zb hp2 (.lst ys')
    have hy4:=(J3.same r4).hy
    have J4:=(J3.same r4).setB (b':=p2) (ys':=ys') (ps':=ps') za (by cases hy4 with | cons _ r=>exact r) (zf J3.hl hp2).symm
    exact ⟨a',p2,_,_,_,ts',ps',_,_,rfl,J4,by rw [List.length_append,List.length_singleton]; omega,by rw [<- hnext,es],l1',by rw [List.length_cons] at l2'; omega⟩
  refine dF (fun e=>m2 (V.int.inj e)) ?_
  refine yk ?_
  have es:yo mm ts' ps' = (.book (ps'.take n),ts',ps'.drop n):=by unfold yo; rw [hq,Int.toNat_natCast,if_neg (fun h=>m0 h.1),if_neg m1,if_neg (fun h=>m2 h.1)]
  refine ⟨_,rfl,.inl ⟨rfl,_,SqL.of I2.hl⟩,_,rfl,_,rfl,_,rfl,b',_,rfl,SqL.of I2.hb,fun p hp=>?_⟩
  rw [xl]
  have r1:=zb hp (.lst (ys'.take n))
  have e1:upd H2 p (.lst (ys'.take n)) p = some (.lst (ys'.take n)):=za
  have np:p ≠ l:=(zf I2.hl hp).symm
  have np0:H p = none:=I2.sm.free hp
  have J1:=I2.same r1
  generalize upd H2 p (.lst (ys'.take n)) = G1 at r1 e1 J1 |-
  refine ⟨zz2,fun u hu=>?_⟩
  have r2:=zb hu (.tup [.str "book",.ref p])
  have e2:upd G1 u (.tup [.str "book",.ref p]) u = some (.tup [.str "book",.ref p]):=za
  have J2:=J1.same r2
  have e3:=r2 _ _ e1
  generalize upd G1 u (.tup [.str "book",.ref p]) = G2 at r2 e2 J2 e3 |-
  refine ⟨l,_,_,rfl,rfl,J2.hl,zF (by omega),?_⟩
  have J3:=J2.push (x:=.ref u) (it:=.book (ps'.take n)) (.tup (SqT.of e2) (.cons .str (.cons (.lst ⟨np,np0⟩ e3 (by rw [List.map_take]; exact ww J2.hy n)) .nil)))
  show xS _ _ _ _ (upd G2 l (.lst (vs' ++ [.ref u])))
  generalize upd G2 l (.lst (vs' ++ [.ref u])) = G3 at J3 |-
  refine ⟨_,rfl,_,rfl,_,rfl,b',_,rfl,SqL.of J3.hb,fun p2 hp2=>?_⟩
  rw [yN]
  have r4:=zb hp2 (.lst (ys'.drop n))
  have J4:=(J3.same r4).setB (b':=p2) (ys':=ys'.drop n) (ps':=ps'.drop n) za (by rw [List.map_drop]; exact wx (J3.same r4).hy n) (zf J3.hl hp2).symm
  exact ⟨a',p2,_,_,_,ts',ps'.drop n,_,_,rfl,J4,by rw [List.length_append,List.length_singleton]; omega,by rw [<- hnext,es],l1',by rw [List.length_drop]; omega⟩
 rintro σ2 H2 ⟨a',b',vs',ys',ct,ts',ps',v4,v5,rfl,I2,hR,l26,l1',l2'⟩
 have lvs:vs'.length = ct.length:=by rw [I2.hv.length,List.length_map]
 have lys:ys'.length = ps'.length:=by rw [I2.hy.length,List.length_map]
 have eI:x0 cell ts ps = qt (ct,ts',ps'):=by unfold x0; rw [hR]
 refine ⟨_,rfl,a',_,rfl,.inl (SqL.of I2.ha),_,rfl,b',_,rfl,.inl (SqL.of I2.hb),_,_,rfl,rfl,_,_,rfl,rfl,_,rfl,?_⟩
 by_cases h0:ts'.length + ps'.length > 0
 rotate_left
 ·refine dF (by rw [List.length_map]; show ¬ (0:Int) < _; omega) ?_
  refine ⟨_,rfl,q l vs' H2 I2.sm I2.nl I2.hl ?_⟩
  rw [eI]
  unfold qt
  rw [if_neg h0]
  exact I2.hv
 refine dT (by rw [List.length_map]; show (0:Int) < _; omega) ?_
 have c1:xV (ts'.map V.int) none (some 30) = (ts'.take 30).map V.int:=by rw [List.map_take]; exact xl (n:=30)
 have c2:xV (ts'.map V.int) (some 30) none = (ts'.drop 30).map V.int:=by rw [List.map_drop]; exact yN (n:=30)
 have c3:xV ys' none (some 30) = ys'.take 30:=xl (n:=30)
 have c4:xV ys' (some 30) none = ys'.drop 30:=yN (n:=30)
 refine ⟨_,rfl,_,rfl,_,rfl,a',_,rfl,SqL.of I2.ha,fun p1 hp1=>?_⟩
 rw [c1]
 have r1:=zb hp1 (.lst ((ts'.take 30).map V.int))
 have e1:upd H2 p1 (.lst ((ts'.take 30).map V.int)) p1 = some (.lst ((ts'.take 30).map V.int)):=za
 have n1:p1 ≠ l/\H p1 = none:=⟨(zf I2.hl hp1).symm,I2.sm.free hp1⟩
 have I1a:=I2.same r1
 generalize upd H2 p1 (.lst ((ts'.take 30).map V.int)) = H1a at r1 e1 I1a |-
 refine ⟨zz2,fun u1 hu1=>?_⟩
 have t1:=zb hu1 (.tup [.str "row",.ref p1])
 have w1:upd H1a u1 (.tup [.str "row",.ref p1]) u1 = some (.tup [.str "row",.ref p1]):=za
 have e1:=t1 _ _ e1
 have I1b:=I1a.same t1
 generalize upd H1a u1 (.tup [.str "row",.ref p1]) = H1b at t1 e1 w1 I1b |-
 refine ⟨_,rfl,_,rfl,a',_,rfl,SqL.of I1b.ha,fun p2 hp2=>?_⟩
 rw [c2]
 have r2:=zb hp2 (.lst ((ts'.drop 30).map V.int))
 have e2:upd H1b p2 (.lst ((ts'.drop 30).map V.int)) p2 = some (.lst ((ts'.drop 30).map V.int)):=za
 have n2:p2 ≠ l/\H p2 = none:=⟨(zf I1b.hl hp2).symm,I1b.sm.free hp2⟩
 have I2a:=I1b.same r2
 generalize upd H1b p2 (.lst ((ts'.drop 30).map V.int)) = H2a at r2 e2 I2a |-
 refine ⟨zz2,fun u2 hu2=>?_⟩
 have t2:=zb hu2 (.tup [.str "row",.ref p2])
 have w2:upd H2a u2 (.tup [.str "row",.ref p2]) u2 = some (.tup [.str "row",.ref p2]):=za
 have e2:=t2 _ _ e2
 have I2b:=I2a.same t2
 generalize upd H2a u2 (.tup [.str "row",.ref p2]) = H2b at t2 e2 w2 I2b |-
 refine ⟨_,rfl,_,rfl,b',_,rfl,SqL.of I2b.hb,fun p3 hp3=>?_⟩
 rw [c3]
 have r3:=zb hp3 (.lst (ys'.take 30))
 have e3:upd H2b p3 (.lst (ys'.take 30)) p3 = some (.lst (ys'.take 30)):=za
 have n3:p3 ≠ l/\H p3 = none:=⟨(zf I2b.hl hp3).symm,I2b.sm.free hp3⟩
 have I3a:=I2b.same r3
 generalize upd H2b p3 (.lst (ys'.take 30)) = H3a at r3 e3 I3a |-
 refine ⟨zz2,fun u3 hu3=>?_⟩
 have t3:=zb hu3 (.tup [.str "book",.ref p3])
 have w3:upd H3a u3 (.tup [.str "book",.ref p3]) u3 = some (.tup [.str "book",.ref p3]):=za
 have e3:=t3 _ _ e3
 have I3b:=I3a.same t3
 generalize upd H3a u3 (.tup [.str "book",.ref p3]) = H3b at t3 e3 w3 I3b |-
 refine ⟨_,rfl,_,rfl,b',_,rfl,SqL.of I3b.hb,fun p4 hp4=>?_⟩
 rw [c4]
 have r4:=zb hp4 (.lst (ys'.drop 30))
 have e4:upd H3b p4 (.lst (ys'.drop 30)) p4 = some (.lst (ys'.drop 30)):=za
 have n4:p4 ≠ l/\H p4 = none:=⟨(zf I3b.hl hp4).symm,I3b.sm.free hp4⟩
 have I4a:=I3b.same r4
 generalize upd H3b p4 (.lst (ys'.drop 30)) = H4a at r4 e4 I4a |-
 refine ⟨zz2,fun u4 hu4=>?_⟩
 have t4:=zb hu4 (.tup [.str "book",.ref p4])
 have w4:upd H4a u4 (.tup [.str "book",.ref p4]) u4 = some (.tup [.str "book",.ref p4]):=za
 have e4:=t4 _ _ e4
 have I4b:=I4a.same t4
 generalize upd H4a u4 (.tup [.str "book",.ref p4]) = H4b at t4 e4 w4 I4b |-
 have z4:zm H4b H4b:=zm.refl _
 have z3:zm H3b H4b:=r4.trans t4
 have z2:zm H2b H4b:=r3.trans (t3.trans z3)
 have z1:zm H1b H4b:=r2.trans (t2.trans z2)
 have hfour:Paired (zH K (fun x=>x ≠ l/\H x = none) H4b 3) [.ref u1,.ref u2,.ref u3,.ref u4] (([.row (ts'.take 30),.row (ts'.drop 30),.book (ps'.take 30),.book (ps'.drop 30)]:List yv).map yC):=by
  refine .cons (.tup (SqT.of (z1 _ _ w1)) (.cons .str (.cons (.lst n1 (z1 _ _ e1) (yB _)) .nil))) (.cons (.tup (SqT.of (z2 _ _ w2)) (.cons .str (.cons (.lst n2 (z2 _ _ e2) (yB _)) .nil))) (.cons (.tup (SqT.of (z3 _ _ w3)) (.cons .str (.cons (.lst n3 (z3 _ _ e3) ?_) .nil))) (.cons (.tup (SqT.of w4) (.cons .str (.cons (.lst n4 e4 ?_) .nil))) .nil)))
  ·rw [List.map_take]; exact ww I4b.hy 30
  ·rw [List.map_drop]; exact wx I4b.hy 30
 refine ⟨(by show 4<=sizeLine; decide),fun l4 hl4=>?_⟩
 have s5:=zb hl4 (.lst [.ref u1,.ref u2,.ref u3,.ref u4])
 have g5:upd H4b l4 (.lst [.ref u1,.ref u2,.ref u3,.ref u4]) l4 = some (.lst [.ref u1,.ref u2,.ref u3,.ref u4]):=za
 have I5:=I4b.same s5
 have hf5:=Paired.imp' (fun _ _ z=>zH.same s5 z) hfour
 generalize upd H4b l4 (.lst [.ref u1,.ref u2,.ref u3,.ref u4]) = H5 at s5 g5 I5 hf5 |-
 refine ⟨l,l4,_,_,rfl,rfl,I5.hl,g5,ye (by show vs'.length + 4<=1000; omega),fun r hr'=>?_⟩
 have s6:=zb hr' (.lst (vs' ++ [.ref u1,.ref u2,.ref u3,.ref u4]))
 refine ⟨_,rfl,q r _ _ (I5.sm.trans s6) (I5.sm.free hr') za ?_⟩
 rw [eI]
 unfold qt
 rw [if_pos h0]
 show Paired _ _ ((ct ++ _).map yC)
 rw [List.map_append]
 have nr:∀ b,(b ≠ l/\H b = none)->H5 b ≠ none->b ≠ r/\H b = none:=fun b o e=>⟨fun z=>e (by rw [z]; exact hr'),o.2⟩
 exact yE (Paired.imp' (fun _ _ z=>(wp nr z).same s6) I5.hv) (Paired.imp' (fun _ _ z=>(wp nr z).same s6) hf5)
end
end K22
namespace L2
open PySem PySem.Spec PyProof.Rows PySem.Builtin
section
variable {prog:Program} {w:World} {A:Around} {E:Value->Shared->Prop} {s:Shared} {it l ea C t:Addr} {od:Option Addr} {tb:Value} {i:Nat} {items:Array Value} {Q:Option Value->Shared->Prop}
end
section
variable {prog:Program} {w:World} {A:Around} {E:Value->Shared->Prop} {s:Shared} {ea C tt:Addr} {od:Option Addr} {tb:Value}
end
end L2
namespace L2
open PySem PySem.Spec PyProof.Rows
def zgf (lo c:Int) (n:Nat):It:=⟨fun i _=>i < n,fun i H x H'=>H' = H/\x = .int (lo + i * c),fun i _=>n<=i⟩
theorem zbb {P:Program} {w:World} {K:Frag} {tg:Expr} (it:Addr) (lo c:Int) (n:Nat):za6 P w K tg (zgf lo c n) [it] it (fun i h=>IsRangeIter h it (lo + (i:Nat) * c) ((n:Int) - (i:Nat)) c) where
 mem:=by simp
 obj:=fun i h st b hb=>by
  have e:b = it:=by simpa using hb
  subst e
  exact ⟨_,st,fun v z=>by
   have z':Data.fields _ = Data.cell v:=z
   cases z'⟩
 keep:=fun i h h' st k=>k it (by simp) _ st
 item:=by
  intro X hP hw hK hc i pins s σ H E I hf st hg
  subst hP hw hK
  obtain ⟨f0,f1,f2,f3,f4,f5⟩:=hf it (by simp)
  have W:=Walks.range (prog:=X.prog) (w:=X.w) (I.ok.hd hc) it lo c n
  refine W.item i s _ _ hg st fun v h' tk hv st' kk=>?_
  obtain ⟨t,rfl⟩:=hv
  have I1:Inv X pins σ H { s with heap:=h',toks:=tk }:=I.turned (fun b o hb e=>kk b o (by simpa using hb) e) f0 f1 f3 f4 f5
  exact ⟨_,rfl,zdx (s:={ s with heap:=h',toks:=tk }) (n:="range_iterator") st' rfl rfl (by decide) ⟨.int (lo + i * c),H,I1,⟨t,rfl⟩,⟨rfl,rfl⟩,st',fun b hb=>(hf b hb).1⟩⟩
 done:=by
  intro X hP hw hK hc i pins s σ H E I hf st hg
  subst hP hw hK
  obtain ⟨f0,f1,f2,f3,f4,f5⟩:=hf it (by simp)
  exact wpAny_pyNext_range_end (I.ok.hd hc) st (by have:n<=i:=hg; omega) fun h' eb=>⟨rfl,I.turned (t':=s.toks) (fun b o hb e=>eb b o hb e) f0 f1 f3 f4 f5⟩
 self:=fun _ _ _ _ _ st h=>wpAny_pyIter_rangeiter st h
def rsz (a b c:Nat):Nat:=if a < b then (b - a - 1) / c + 1 else 0
theorem ze3 {a b c:Nat} (hc : 0 < c):Builtin.Range.rangeSize (a:Int) (b:Int) (c:Int) = (rsz a b c:Nat):=by
 unfold Builtin.Range.rangeSize rsz
 rw [if_pos (by omega)]
 by_cases h:a < b
 ·rw [if_pos (by omega),if_pos h]
  have:(b:Int) - (a:Int) - 1 = ((b - a - 1:Nat):Int):=by omega
  rw [this]
  rfl
 ·rw [if_neg (by omega),if_neg h]
  rfl
theorem zh8 {a b c:Nat} (hb:b<=1000):rsz a b c<=1001:=by
 unfold rsz
 split
 ·have:=Nat.div_le_self (b - a - 1) c
  omega
 ·omega
theorem zbf {a b c:Nat} (ha:a<=1000) (hb:b<=1000) (hc : 0 < c) (hc':c<=1000):Builtin.Range.small (a:Int) (b:Int) (c:Int) = true:=by
 unfold Builtin.Range.small
 rw [ze3 hc]
 have:=zh8 (a:=a) (c:=c) hb
 simp only [Builtin.Range.rangeFitsLong,Bool.and_eq_true,Bool.or_eq_true,decide_eq_true_eq,beq_iff_eq,show (c:Int) > 0 by omega,if_true]
 omega
section
variable {X:Cx} {tg:Expr}
def zjz (ta:TA):TI:=fun σ H R=>ta σ H fun vs H1=>∃ a b c:Nat,vs = [.int (a:Nat),.int (b:Nat),.int (c:Nat)]/\a<=1000/\b<=1000/\0 < c/\c<=1000/\R (zgf (a:Nat) (c:Nat) (rsz a b c)) H1
theorem zd3 {a b c:Expr} {ta:TA} {p pos:Pos} (hg:Gl X "range") (hm:X.mg "range" = none) (ha:PA X [a,b,c] ta) (hs:starEach [a,b,c] X.env = [(false,eval a X.env),(false,eval b X.env),(false,eval c X.env)]:=by rfl) (hs2:starEach [b,c] X.env = [(false,eval b X.env),(false,eval c X.env)]:=by rfl) :
  PI X tg (.Call (.Name "range" p) [a,b,c] [] pos) (zjz ta):=by
 refine ⟨?_⟩
 intro pins s σ H R I h
 refine Call_ (wR I hg hm boot_range (PyProof.Rows.callWith_type1 (thn (ha pos pins s σ H _ I h) fun us s1 ⟨vs,H1,I1,r1,q1⟩=>?_) (by rw [hs,hs2]) (by rw [hs2]; rfl)))
 obtain ⟨i,j,k,e,q1,q2,q3,q4,q⟩:=q1
 subst e
 cases r1 with
 | cons r rr=>
  cases rr with
  | cons r' rr=>
   cases rr with
   | cons r'' rr=>
    cases rr
    obtain ⟨t,rfl⟩:=r
    obtain ⟨t',rfl⟩:=r'
    obtain ⟨t'',rfl⟩:=r''
    refine call_range_3 (by omega) ?_ (Or.inl (PyProof.noPylong_small (by omega)))
    refine wpAny_pyIter_range (IsRange.new ..) (zbf q1 q2 q3 q4) ?_
    have I2:Inv X pins σ H1 { s1 with heap:=s1.heap.push { cls:=.type "range",data:=.fields #[.int (i:Nat) t,.int (j:Nat) t',.int (k:Nat) t''] },toks:=s1.toks }:=I1.kept fun b o e=>Heap.get?_push_of_some _ e
    refine ⟨(s1.heap.push { cls:=.type "range",data:=.fields #[.int (i:Nat) t,.int (j:Nat) t',.int (k:Nat) t''] }).objs.size,[(s1.heap.push { cls:=.type "range",data:=.fields #[.int (i:Nat) t,.int (j:Nat) t',.int (k:Nat) t''] }).objs.size],_,_,H1,rfl,
     I2.kept (t':=s1.toks) fun b o e=>Heap.get?_push_of_some _ e,zbb _ (i:Nat) (k:Nat) (rsz i j k),?_,fun b hb=>?_,q⟩
    ·have e1:(i:Int) + ((0:Nat):Int) * (k:Int) = (i:Int):=by simp
     have e2:((rsz i j k:Nat):Int) - ((0:Nat):Int) = Builtin.Range.rangeSize (i:Int) (j:Int) (k:Int):=by rw [ze3 q3]; simp
     show IsRangeIter _ _ ((i:Int) + ((0:Nat):Int) * (k:Int)) (((rsz i j k:Nat):Int) - ((0:Nat):Int)) (k:Int)
     rw [e1,e2]
     exact Heap.get?_push_size _ rfl
    ·have e:b = (s1.heap.push { cls:=.type "range",data:=.fields #[.int (i:Nat) t,.int (j:Nat) t',.int (k:Nat) t''] }).objs.size:=by simpa using hb
     subst e
     exact I2.fpOk (Nat.le_refl _) (I2.hok.fresh (Nat.le_refl _))
end
theorem zcR {lo c:Int} {n:Nat} {g:TG} {tb:TS} {D:u7} {σ : St} {H:Hp} (Pv:Nat->St->Hp->Prop) (h0:Pv 0 σ H)
  (hs:∀ i σ H,i < n->Pv i σ H->g (.int (lo + i * c)) σ H fun σ2 H2=>tb { D with nx:=Pv (i + 1),ct:=Pv (i + 1),bk:=D.nx } σ2 H2) (hd:∀ σ H,Pv n σ H->D.nx σ H) :
  ∃ W:Nat->Nat->St->Hp->Prop,(∃ m,W 0 m σ H)/\∀ i m σ H,W i m σ H->
   ((zgf lo c n).stop i H/\D.nx σ H)\/((zgf lo c n).go i H/\∃ N:St->Hp->Prop,(∀ σ' H',N σ' H'->∃ m',m' < m/\W (i + 1) m' σ' H')/\∀ x H',(zgf lo c n).yld i H x H'->g x σ H' fun σ2 H2=>tb { D with nx:=N,ct:=N,bk:=D.nx } σ2 H2):=by
 refine ⟨fun i m σ H=>m = n - i/\i<=n/\Pv i σ H,⟨n,by simp,Nat.zero_le _,h0⟩,?_⟩
 rintro i m σ H ⟨rfl,hi,p⟩
 by_cases hlt:i < n
 ·refine .inr ⟨hlt,Pv (i + 1),fun σ' H' p'=>⟨n - (i + 1),by omega,rfl,hlt,p'⟩,fun x H' y=>?_⟩
  obtain ⟨e,y⟩:=y
  subst e y
  exact hs i σ _ hlt p
 ·have e:i = n:=by omega
  subst e
  exact .inl ⟨Nat.le_refl _,hd σ H p⟩
theorem zc2 {α : Type} {R:Addr->α->Prop} {us:List Addr} {rows:List α} (h:Paired R us rows) (keep : α->Bool) (out : α->V):((us.zip rows).filter fun p=>keep p.2).map (fun p=>out p.2) = (rows.filter keep).map out:=by
 induction h with
 | nil=>rfl
 | cons r t ih=>
  rename_i u y us ys
  rw [List.zip_cons_cons,List.filter_cons,List.filter_cons]
  cases hk:keep y with
  | true=>rw [if_pos rfl,if_pos rfl,List.map_cons,List.map_cons,ih]
  | false=>rw [if_neg Bool.false_ne_true,if_neg Bool.false_ne_true,ih]
theorem vE {α : Type} {K:Frag} {a:Addr} {us:List Addr} {rows:List α} {caps:List (Option Nat)} {g:TG} {tt:TT} {te:TE} {σ : L2.St} {H1:Hp} {Q:VK} {D:Addr} (R:Hp->Addr->α->Prop) (keep : α->Bool) (out:Addr->α->V) (hD:H1 D = none) (ha:H1 a = some (.lst (us.map V.ref))) (hu:Paired (R H1) us rows) (hn:rows.length<=1000)
  (hs:∀ (i:Nat) (u:Addr) (y : α) (H:Hp) (N:VK) (S:Hp->Prop),us[i]? = some u->rows[i]? = some y->R H1 u y->zm H1 H->(∀ H',zm H H'->keep y = true->N (out u y) H')->(∀ H',zm H H'->keep y = false->S H')->g (.ref u) (y0 caps σ) H fun σ2 H2=>tt σ2 H2 fun ok H3=>(ok = true->te σ2 H3 N)/\(ok = false->S H3))
  (hd:∀ H,zm H1 H->H D = some (.lst (((us.zip rows).filter fun p=>keep p.2).map fun p=>out p.1 p.2))->Q (.ref D) H):LCr (Itl K a) caps g tt te σ H1 Q D:=by
 have hl:us.length = rows.length:=hu.length
 have lz:(us.zip rows).length = rows.length:=by rw [List.length_zip,hl,Nat.min_self]
 refine jW (K:=K) (xs:=us.map V.ref) (us.zip rows) (fun p=>keep p.2) (fun p=>out p.1 p.2) hD (SqL.of ha) (by rw [List.length_map,lz,hl]) (by rw [List.length_map,hl]; exact hn) (fun i x y H N S hx hy sH n1 s1=>?_) hd
 have hi:i < rows.length:=by rw [<- lz]; exact (List.getElem?_eq_some_iff.mp hy).1
 have e1:(us.zip rows)[i]? = some (us[i],rows[i]):=by
  rw [List.getElem?_eq_getElem (by omega),List.getElem_zip]
 rw [e1] at hy
 cases hy
 have hu1:us[i]? = some us[i]:=List.getElem?_eq_getElem (by omega)
 rw [List.getElem?_map,hu1] at hx
 cases hx
 obtain ⟨d,hd',hr⟩:=Paired.get hu hu1
 have e2:rows[i]? = some rows[i]:=List.getElem?_eq_getElem hi
 rw [e2] at hd'
 cases hd'
 exact hs i us[i] rows[i] H N S hu1 e2 hr sH n1 s1
section
variable {X:Cx} {pins:List (Addr × Obj)} {σ : St} {e o:Expr} {es:List Expr} {ta:TE} {t:TA} {E:XK} {m:Str} {pos apos:Pos} {k:Nat} {f C:Addr} {fd:FuncData} {ps:List Str} {sp:Sp}
end
section
variable {X:Cx} {elts:List Expr} {x1:Nat} {tpos:Pos}
end
theorem vL {prog:Program} {w:World} {A:Around} {E:Value->Shared->Prop} {s:Shared} {b:Bool} {Q:Int->Shared->Prop} (h:Q (hashInt (if b then 1 else 0)) { s with toks:=s.toks + 1 }) :
  wpAny (model prog w) A (pyHash (.bool b)) Q E s:=by
 have hr:=rawHash_range (if b then 1 else 0)
 have hT:s.TypeIs (.bool b) "bool":=rfl
 unfold pyHash
 have hv:[Value.bool b].any Value.onHeap = false:=rfl
 refine wpAny_bind ?_
 rw [cRoomFor,if_neg (by rw [hv]; exact Bool.false_ne_true)]; refine wpAny_pure ?_
 refine wpAny_bind (wpAny_specialOf hT PySem.F.slot_bool_hash.lookup ?_)
 show wpAny _ _ (if (some (Value.builtin "int.__hash__") == some Value.none) = true then _ else _) Q E s
 rw [if_neg (by rw [beq_builtin_none]; exact Bool.false_ne_true)]
 refine wpAny_bind (wpAny_specialOf hT PySem.F.slot_bool_hash.lookup ?_)
 show wpAny _ _ (callSpecialIfBoundUnlessNone? (.bool b) "__hash__" _ >>= _) Q E s
 refine wpAny_bind (wpAny_callSpecialIfBoundUnlessNone?_slot hT PySem.F.slot_bool_hash
  (wpAny_call_entry PySem.F.slot_bool_hash hT entry_int_hash
   (show wpAny _ _ (do ret (<- mkInt (rawHash (if b then 1 else 0)))) _ _ s from wpAny_ret_mkInt ?_) (args_int_hash _)))
 show wpAny _ _ (if (decide (-(2:Int) ^ 63<=rawHash (if b then 1 else 0)) && decide (rawHash (if b then 1 else 0) < 2 ^ 63)) = true then _ else _) Q E _
 rw [if_pos (by rw [decide_eq_true hr.1,decide_eq_true hr.2]; rfl)]
 exact wpAny_pure h
abbrev SB:=Str ⊕ Bool
def sbV:SB->V
 | .inl x=>.str x
 | .inr b=>.bl b
def zi8:SB->Value->Bool
 | .inl x,.str y _=>y == x
 | .inr b,.bool c=>c == b
 | _,_=>false
theorem yD {k:SB} {v:Value} (h:zi8 k v = true):(∃ x t,k = .inl x/\v = .str x t)\/∃ b,k = .inr b/\v = .bool b:=by
 cases k with
 | inl x=>
  cases v with
  | str y t=>
   have h':(y == x) = true:=h
   exact .inl ⟨x,t,rfl,by rw [eq_of_beq h']⟩
  | _=>cases h
 | inr b=>
  cases v with
  | bool c=>
   have h':(c == b) = true:=h
   exact .inr ⟨b,rfl,by rw [eq_of_beq h']⟩
  | _=>cases h
def sbH (w:World):SB->Int
 | .inl x=>hashStr w x
 | .inr b=>hashInt (if b then 1 else 0)
def y8 (prog:Program) (w:World):PySem.KeyKind prog w SB where
 is:=zi8
 hash:=sbH w
 inj:=fun v a b ha hb=>by
  rcases yD ha with ⟨x,t,rfl,rfl⟩ | ⟨c,rfl,rfl⟩
  ·rcases yD hb with ⟨y,u,rfl,e⟩ | ⟨d,rfl,e⟩
   ·injection e with e1 _; rw [e1]
   ·exact nomatch e
  ·rcases yD hb with ⟨y,u,rfl,e⟩ | ⟨d,rfl,e⟩
   ·exact nomatch e
   ·injection e with e1; rw [e1]
 byValue:=fun k v h=>by
  rcases yD h with ⟨x,t,rfl,rfl⟩ | ⟨b,rfl,rfl⟩ <;> rfl
 pyHash:=fun hv h=>by
  rcases yD hv with ⟨x,t,rfl,rfl⟩ | ⟨b,rfl,rfl⟩
  ·exact wpAny_pyHash_str h
  ·exact vL h
 eqBool:=fun hu hv h=>by
  rcases yD hu with ⟨x,t,rfl,rfl⟩ | ⟨b,rfl,rfl⟩
  ·rcases yD hv with ⟨y,u,rfl,rfl⟩ | ⟨d,rfl,rfl⟩
   ·refine wpAny_eqBool_str ?_
    have e:decide ((Sum.inl x:SB) = Sum.inl y) = decide (x = y):=by simp
    rwa [e] at h
   ·refine SeqAt.EqAt.str_bool x t d _ _ _ _ ?_
    have e:decide ((Sum.inl x:SB) = Sum.inr d) = false:=decide_eq_false (fun q=>nomatch q)
    rwa [e] at h
  ·rcases yD hv with ⟨y,u,rfl,rfl⟩ | ⟨d,rfl,rfl⟩
   ·refine SeqAt.EqAt.bool_str b y u _ _ _ _ ?_
    have e:decide ((Sum.inr b:SB) = Sum.inl y) = false:=decide_eq_false (fun q=>nomatch q)
    rwa [e] at h
   ·refine SeqAt.EqAt.bool_bool b d _ _ _ _ ?_
    have e:decide ((Sum.inr b:SB) = Sum.inr d) = (b == d):=by cases b <;> cases d <;> decide
    rwa [e] at h
 «strs»:=fun k x t v h=>by
  rcases yD h with ⟨y,u,rfl,e⟩ | ⟨b,rfl,e⟩
  ·injection e with e1 _
   subst e1
   cases v <;> rfl
  ·exact nomatch e
theorem zh7 {P:Program} {w:World} {k:SB} {u:Value} (r:zN (sbV k) u):(y8 P w).is k u = true:=by
 cases k with
 | inl x=>
  obtain ⟨t,e⟩:=(show ∃ t,u = Value.str x t from r)
  subst e
  show (x == x) = true
  exact beq_self_eq_true x
 | inr b=>
  have e:u = Value.bool b:=r
  subst e
  show (b == b) = true
  exact beq_self_eq_true b
theorem zbj {P:Program} {w:World}:∀ {ks:List SB} {us:List Value},zP (ks.map sbV) us->ItemsAre (y8 P w) ks us
 | [],_,r=>by rw [List.map_nil] at r; cases r; exact .nil
 | k :: ks,_,r=>by
  rw [List.map_cons] at r
  cases r with
  | cons h t=>exact .cons (zh7 h) (zbj t)
theorem zcn {P:Program} {w:World} {H:Hp} {h:Heap} {a:Addr} {ks:List SB} (ok:HOk P w H h) (e:H a = some (.tup (ks.map sbV))):(tupleKind (y8 P w)).is h ks a:=by
 obtain ⟨_,its,r,o,h1,h2,n,h3⟩:=(show yi P w H h a (.tup (ks.map sbV)) from ok a _ e)
 exact ⟨o,its.toArray,n,h1,h2,h3,by simpa using zbj r⟩
def dBφ (P:Program) (w:World) (a:Addr) (xs:List (List SB × Addr × Value)):Heap->Prop:=fun h=>∃ o es ep,h.get? a = some o/\o.ExactDict/\o.data = .dict es ep/\es.toList = xs.map (entryOfKey (tupleKind (y8 P w)))/\(xs.map (·.1)).Nodup
abbrev KB (H:Hp):List (List SB × V)->List (List SB × Addr × Value)->Prop:=Paired fun p q=>p.1 = q.1/\H q.2.1 = some (.tup (p.1.map sbV))/\zN p.2 q.2.2
def DB (P:Program) (w:World) (H:Hp) (a:Addr) (kvs:List (List SB × V)):Prop:=∃ xs,H a = some (.ext (dBφ P w a xs))/\KB H kvs xs
theorem DB.same {P:Program} {w:World} {H H':Hp} {a:Addr} {kvs:List (List SB × V)} (h:DB P w H a kvs) (s:zm H H'):DB P w H' a kvs:=by
 obtain ⟨xs,h1,h2⟩:=h
 exact ⟨xs,s _ _ h1,Paired.mapP h2 fun _ _ z=>⟨z.1,s _ _ z.2.1,z.2.2⟩⟩
theorem KB.val {H:Hp} {kvs:List (List SB × V)} {xs:List (List SB × Addr × Value)} (r:KB H kvs xs) (k:List SB):wl (zL kvs k) ((atKey xs k).map (·.2)):=by
 induction r with
 | nil=>exact True.intro
 | @cons p q ps qs h t ih=>
  obtain ⟨h1,_,h2⟩:=h
  by_cases e:p.1 = k
  ·have e':q.1 = k:=h1.symm.trans e
   have b:atKey (q :: qs) k = some q.2:=by simp [atKey,List.find?_cons,e']
   rw [yG e,b]; exact h2
  ·have e':¬ q.1 = k:=fun z=>e (h1.trans z)
   have b:atKey (q :: qs) k = atKey qs k:=by simp [atKey,List.find?_cons,e']
   rw [yH e,b]; exact ih
theorem KB.repl {H:Hp} {kvs:List (List SB × V)} {xs:List (List SB × Addr × Value)} (r:KB H kvs xs) (k:List SB) {y:V} {u:Value} (ry:zN y u) :
  KB H (kvs.map fun kv=>if kv.1 = k then (kv.1,y) else kv) (xs.map (putAt k u)):=by
 induction r with
 | nil=>exact .nil
 | @cons p q ps qs h t ih=>
  rw [List.map_cons,List.map_cons]
  refine .cons ?_ ih
  obtain ⟨h1,h2,h3⟩:=h
  unfold putAt
  by_cases e:p.1 = k
  ·rw [if_pos e,if_pos (h1.symm.trans e)]; exact ⟨h1,h2,ry⟩
  ·rw [if_neg e,if_neg (fun z=>e (h1.trans z))]; exact ⟨h1,h2,h3⟩
theorem KB.put {H:Hp} {kvs:List (List SB × V)} {xs:List (List SB × Addr × Value)} (r:KB H kvs xs) (k:List SB) {b:Addr} {y:V} {u:Value} (hb:H b = some (.tup (k.map sbV))) (ry:zN y u) :
  KB H (yf kvs k y) (storedH xs k b u):=by
 have e:(kvs.any fun kv=>decide (kv.1 = k)) = (atKey xs k).isSome:=by
  rw [xL,(r.val k).isSome_eq,Option.isSome_map]
 unfold yf storedH
 rw [e]
 by_cases q:(atKey xs k).isSome = true
 ·rw [if_pos q,if_pos q]; exact r.repl k ry
 ·rw [if_neg q,if_neg q]; exact Paired.snoc r ⟨rfl,hb,ry⟩
theorem KB.keys {P:Program} {w:World} {H:Hp} {h:Heap} (ok:HOk P w H h):∀ {kvs:List (List SB × V)} {xs:List (List SB × Addr × Value)},KB H kvs xs->∀ x ∈ xs,(tupleKind (y8 P w)).is h x.1 x.2.1:=by
 intro kvs xs r
 induction r with
 | nil=>intro x hx; exact nomatch hx
 | @cons p q ps qs hq t ih=>
  intro x hx
  rcases List.mem_cons.mp hx with e | hx
  ·subst e
   exact zcn ok (by rw [<- hq.1]; exact hq.2.1)
  ·exact ih x hx
theorem zjH {P:Program} {w:World} {H:Hp} {h:Heap} {a:Addr} {xs:List (List SB × Addr × Value)} {kvs:List (List SB × V)} (ok:HOk P w H h) (e:H a = some (.ext (dBφ P w a xs))) (r:KB H kvs xs):h.DictOfH (tupleKind (y8 P w)) a xs:=by
 obtain ⟨⟨o,es,ep,h1,h2,h3,h4,h5⟩,_⟩:=(show yi P w H h a (.ext (dBφ P w a xs)) from ok a _ e)
 exact ⟨o,es,ep,h1,h2,h3,h4,r.keys ok,h5⟩
theorem zem {prog:Program} {w:World} {A:Around} {E:Value->Shared->Prop} {s:Shared} {a:Addr} {o:Obj} {xs:Array Value} {k:Nat} {Q:Option Value->Shared->Prop}
  (hx:s.heap.get? a = some o) (hc:o.cls = .type "list") (hdat:o.data = .seq xs k) (hd:o.dict = none) (hA:A.handled = none)
  (h:∀ h' tk,(∀ b o,s.heap.get? b = some o->h'.get? b = some o)->Q none { s with heap:=h',toks:=tk }) :
  wpAny (model prog w) A (getAttr? (.ref a) "keys") Q E s:=by
 obtain ⟨c,dct,dat,sl⟩:=o
 simp only at hc hdat hd
 subst hc hdat hd
 obtain ⟨hp,g,d,tk,os⟩:=s
 have hT:∀ tk',(⟨hp,g,d,tk',os⟩:Shared).TypeIs (.ref a) "list":=fun _=>⟨_,hx,rfl⟩
 have f1:=sub_AttributeError
 have f3:=F.slot_list_getattribute.lookup
 have f4:=F.slot_list_getattribute.bind (.ref a)
 have f5:=am_list_getattr_none
 have hmiss:typeLookup (.type "list") "keys" = pure none:=am_miss_of_fast (by decide +kernel)
 unfold getAttr? getAttrBy? getAttrBy
 repeat (any_goals (first | assumption | exact hT _ | ((with_reducible show wpAny _ _ (call (Value.builtin "list.__getattribute__") _ _) _ _ _); refine call_meets F.slot_list_getattribute (hT _) am_entry_list_getattribute (F.args_list_getattribute_2 _ _) (meets_getattribute_miss_list a xs k sl "keys" _ hmiss (by decide +kernel) (by decide +kernel)) ⟨hx,hA,fun h' tk' e hx'=>?_⟩) | wp_step))
 obtain ⟨t',u',he⟩:=hx'.there
 show wpAny _ _ (getattributeRaised _ _ _ _ _ _ _) _ _ _
 unfold getattributeRaised
 repeat (any_goals (first | assumption | wp_step))
 exact h _ _ hx'.of.1
theorem zaf:entryFor table "dict.update.loop" = some Builtin.«dict.update.loop»:=entryFor_of_tree (by kernel_rfl)
theorem vc:plainId "dict.update.loop" = true:=by decide +kernel
abbrev PKA:=List SB × Addr × Value
def zgc (tk:Nat->PKA):Nat->Nat->List PKA->List PKA
 | _,0,xs=>xs
 | i,k + 1,xs=>zgc tk (i + 1) k (storedH xs (tk i).1 (tk i).2.1 (tk i).2.2)
theorem zbc (xs:List PKA) (k:List SB) (a:Addr) (v:Value):(storedH xs k a v).length<=xs.length + 1:=by
 unfold storedH
 split
 ·rw [List.length_map]; omega
 ·rw [List.length_append,List.length_cons,List.length_nil]; omega
def zb5 (P:Program) (w:World) (wr:List Addr) (Pr:Nat->Value->Prop) (tk:Nat->PKA) (h:Heap):Prop:=
 ∀ i v,Pr i v->∃ T o m,v = .ref T/\T ∉ wr/\h.get? T = some o/\o.cls = .type "tuple"/\o.data = .seq #[.ref (tk i).2.1,(tk i).2.2] m/\(tk i).2.1 ∉ wr/\(tupleKind (y8 P w)).is h (tk i).1 (tk i).2.1
theorem zb5.keep {P:Program} {w:World} {wr:List Addr} {Pr:Nat->Value->Prop} {tk:Nat->PKA} {h h':Heap} (g:zb5 P w wr Pr tk h) (k:∀ b o,b ∉ wr->h.get? b = some o->h'.get? b = some o):zb5 P w wr Pr tk h':=fun i v p=>by
 obtain ⟨T,o,m,e,n1,h1,h2,h3,n2,o2,its,n,q1,q2,q3,q4⟩:=g i v p
 exact ⟨T,o,m,e,n1,k _ _ n1 h1,h2,h3,n2,o2,its,n,k _ _ n2 q1,q2,q3,q4⟩
section
variable {P:Program} {w:World} {A:Around} {R:Result->Shared->Prop} {I:Addr} {fp wr:List Addr} {G:Array GenState->Array GenState->Prop} {n:Nat} {Pr:Nat->Value->Prop} {Sg:Nat->Shared->Prop}
theorem jO (W:WalksS P w A.in1 I fp wr G n Pr Sg) (hu:A.units + 2 < cLine) (a:Addr) (ha:a ∉ fp) (tk:Nat->PKA) (hb:n<=sizeLine) :
  ∀ (k i:Nat) (j:Int) (s:Shared) (xs:List PKA),n - i = k->i<=n->Sg i s->xs.length<=i->s.heap.DictOfH (tupleKind (y8 P w)) a xs->zb5 P w (a :: wr) Pr tk s.heap->(∀ x ∈ xs,x.2.1 ∉ a :: wr)->(∀ i,(tk i).2.1 ∉ a :: wr)->
   (∀ s',Moved (a :: wr) G s s'->s'.heap.DictOfH (tupleKind (y8 P w)) a (zgc tk i k xs)->R (.ok (.ret .none)) s')->
   codeAny (model P w) A (.builtin "dict.update.loop" ⟨[.ref a,.ref I,rawInt j,.none],[]⟩) R s
 | 0,i,j,s,xs,hk,hi,hg,hc,hT,hgood,hx,htk,hR=>by
  have hw:a ∉ wr:=fun z=>ha (W.sub _ z)
  have ei:i = n:=by omega
  subst ei
  refine codeAny_builtin zaf ?_; rw [Around.under_plainId vc _]
  show wpAny _ A.in1 (pyNext (.ref I) >>= _) _ _ _; refine wpAny_bind (W.done s _ _ hg fun s' hm=>?_)
  show wpAny _ A.in1 (Builtin.Dict.addKeywords a [] >>= fun _=>ret Value.none) _ _ _
  refine wpAny_bind (wpAny_pure (wpAny_pure (hR s' (hm.mono fun b z=>List.mem_cons_of_mem _ z) ?_)))
  obtain ⟨ob,es,ep,h1,h2,h3,h4,h5,h6⟩:=hT
  refine ⟨ob,es,ep,hm.heap a _ hw h1,h2,h3,h4,fun x hx'=>?_,h6⟩
  obtain ⟨o2,its,n,q1,q2⟩:=h5 x hx'
  exact ⟨o2,its,n,hm.heap _ _ (fun z=>hx x hx' (List.mem_cons_of_mem _ z)) q1,q2⟩
 | k + 1,i,j,s,xs,hk,hi,hg,hc,hT,hgood,hx,htk,hR=>by
  have hw:a ∉ wr:=fun z=>ha (W.sub _ z)
  have hlt:i < n:=by omega
  refine codeAny_builtin zaf ?_; rw [Around.under_plainId vc _]
  show wpAny _ A.in1 (pyNext (.ref I) >>= _) _ _ _; refine wpAny_bind (W.item i s _ _ hlt hg fun v s' hP hg' hm=>?_)
  have hgood':zb5 P w (a :: wr) Pr tk s'.heap:=hgood.keep fun b o nb e=>hm.heap b o (fun z=>nb (List.mem_cons_of_mem _ z)) e
  obtain ⟨T,o,mm,rfl,nT,hTo,hTc,hTd,nk,hkey⟩:=hgood' i v hP
  have hD':s'.heap.DictOfH (tupleKind (y8 P w)) a xs:=by
   obtain ⟨ob,es,ep,h1,h2,h3,h4,h5,h6⟩:=hT
   refine ⟨ob,es,ep,hm.heap a _ hw h1,h2,h3,h4,fun x hx'=>?_,h6⟩
   obtain ⟨o2,its,n,q1,q2⟩:=h5 x hx'
   exact ⟨o2,its,n,hm.heap _ _ (fun z=>hx x hx' (List.mem_cons_of_mem _ z)) q1,q2⟩
  have hTT:s'.TypeIs (.ref T) "tuple":=⟨o,hTo,hTc⟩
  show wpAny _ A.in1 (holding [Value.ref T] _ >>= _) _ _ s'
  refine wpAny_bind (wpAny_holding ?_)
  refine wpAny_bind (wpAny_tryCatch ?_)
  unfold Builtin.Dict.pairItems
  refine wpAny_bind (wpAny_typeOf hTT ?_)
  rw [if_pos (by decide)]
  refine wpAny_bind (wpAny_seqItems hTo hTd (wpAny_pure ?_))
  show wpAny _ A.in1 (holding [Value.ref (tk i).2.1,(tk i).2.2] (dictSet a (.ref (tk i).2.1) (tk i).2.2)) _ _ s'
  refine wpAny_holding ?_
  refine wpAny_dictSet_heap (knd:=tupleKind (y8 P w)) (show A.in1.units < cLine by show A.units + 1 < cLine; omega) hkey hD' (fun h' hD2 hsb=>?_) (by omega)
  have hl2:=zbc xs (tk i).1 (tk i).2.1 (tk i).2.2
  refine wpAny_pure ⟨plainId_quiet vc _,jO W hu a ha tk hb k (i + 1) (j + 1) _ _ (by omega) hlt (W.frame _ s' _ _ hg' (Nat.le_add_right _ _) fun b hb' o e=>?_) (by omega) hD2 (hgood'.keep fun b o nb e=>?_) (fun x hx'=>?_) htk fun s2 hm2 h4=>?_⟩
  ·have:b ≠ a:=fun z=>ha (z ▸ hb')
   rw [hsb.2 b this]; exact e
  ·have:b ≠ a:=fun z=>nb (z ▸ List.mem_cons_self)
   rw [hsb.2 b this]; exact e
  ·unfold storedH at hx'
   split at hx'
   ·obtain ⟨y,hy,rfl⟩:=List.mem_map.mp hx'
    unfold putAt
    split
    ·exact hx y hy
    ·exact hx y hy
   ·rcases List.mem_append.mp hx' with hx' | hx'
    ·exact hx x hx'
    ·rw [List.mem_singleton.mp hx']
     exact htk i
  ·refine hR s2 (Moved.trans W.gtrans ((hm.mono fun b z=>List.mem_cons_of_mem _ z).then_heap (Nat.le_add_right _ _) fun b o hb' e=>?_) hm2) h4
   have:b ≠ a:=fun z=>hb' (z ▸ List.mem_cons_self)
   rw [hsb.2 b this]; exact e
end
theorem jj {P:Program} {w:World} {A:Around} {E:Value->Shared->Prop} {s:Shared} {l:Addr} {items:List Value} {Q:Value->Shared->Prop} (tk:Nat->PKA)
  (hh:A.handled = none) (hu:A.units + 3 < cLine) (hl:PlainL s.heap l items.toArray) (hz:items.length<=sizeLine) (hS:sysModules < s.heap.objs.size)
  (hv:∀ (i:Nat) (v:Value),items[i]? = some v->∃ T o m,v = .ref T/\s.heap.get? T = some o/\o.cls = .type "tuple"/\o.data = .seq #[.ref (tk i).2.1,(tk i).2.2] m/\(tupleKind (y8 P w)).is s.heap (tk i).1 (tk i).2.1) (htk:∀ i,(tk i).2.1 < s.heap.objs.size)
  (h:∀ (h':Heap) (t:Nat),h'.DictOfH (tupleKind (y8 P w)) s.heap.objs.size (zgc tk 0 items.length [])->(∀ b o,s.heap.get? b = some o->h'.get? b = some o)->Q (.ref s.heap.objs.size) { s with heap:=h',toks:=t }) :
  wpAny (model P w) A (call (.type "dict") [.ref l]) Q E s:=by
 refine callType_codes (Q₁:=fun obj s₁=>obj = .ref s.heap.objs.size/\s₁ = { s with heap:=s.heap.push { cls:=.type "dict",data:=.dict #[] } }) F.kt_called_dict (F.kt_typeCall_dict_1 _) F.entry_dict_init (kt_code_dict_new _ ⟨rfl,rfl⟩) ?_
 rintro obj s₁ ⟨rfl,rfl⟩
 have hD:(s.heap.push { cls:=.type "dict",data:=.dict #[] }).DictOfH (tupleKind (y8 P w)) s.heap.objs.size []:=⟨{ cls:=.type "dict",data:=.dict #[] },#[],_,Heap.get?_push_size _ rfl,⟨rfl,rfl,rfl⟩,rfl,rfl,(fun x hx=>by cases hx),List.nodup_nil⟩
 have hT:Shared.TypeIs { s with heap:=s.heap.push { cls:=.type "dict",data:=.dict #[] } } (.ref s.heap.objs.size) "dict":=⟨_,Heap.get?_push_size _ rfl,rfl⟩
 refine ⟨hT,F.args_dict_init_2 _ _,?_⟩
 obtain ⟨ol,nl,hol,hcl,hdl,hdd⟩:=id hl
 have hlt:l < s.heap.objs.size:=Heap.lt_size hol
 have hol1:(s.heap.push { cls:=.type "dict",data:=.dict #[] }).get? l = some ol:=Heap.get?_push_of_some _ hol
 unfold Builtin.«dict.__init__»
 refine wpAny_bind ?_
 unfold Builtin.Dict.selfAndRest
 refine wpAny_bind (wpAny_notOrdered_dict hT ?_)
 show wpAny _ _ (pure (s.heap.objs.size,[Value.ref l])) _ _ _
 refine wpAny_pure ?_
 show wpAny _ _ (Builtin.Dict.updateFrom "dict.__init__" s.heap.objs.size (.ref l) [] .none) _ _ _
 unfold Builtin.Dict.updateFrom
 refine wpAny_bind (wpAny_typeOf (T:="list") ⟨ol,hol1,hcl⟩ ?_)
 rw [if_pos (by decide)]
 refine wpAny_bind (zem hol1 hcl hdd hdl (by simp [hh]) fun h1 t1 k1=>?_)
 rw [if_pos (show (none:Option Value).isNone = true from rfl)]
 refine wpAny_bind (wpAny_rule ?_)
 have hl1:h1.IsList l items.toArray:=⟨ol,k1 _ _ hol1,hcl,nl,hdd⟩
 have hD1:h1.DictOfH (tupleKind (y8 P w)) s.heap.objs.size []:=by
  obtain ⟨ob,es,ep,q1,q2,q3,q4,q5,q6⟩:=hD
  exact ⟨ob,es,ep,k1 _ _ q1,q2,q3,q4,(fun x hx=>by cases hx),q6⟩
 have hz1:s.heap.objs.size < h1.objs.size:=Heap.lt_size (k1 _ _ (Heap.get?_push_size s.heap (o:={ cls:=.type "dict",data:=.dict #[] }) rfl))
 refine wpAny_bind (wpAny_pyIter_list hl1 ?_)
 have n1:l ≠ h1.objs.size:=Nat.ne_of_lt (Nat.lt_trans hlt hz1)
 have n3:s.heap.objs.size ∉ [h1.objs.size,l]:=fun z=>by
  rcases List.mem_cons.mp z with e | e
  ·exact Nat.ne_of_lt hz1 e
  ·exact Nat.ne_of_gt hlt (List.mem_singleton.mp e)
 have nw:∀ b:Addr,b < s.heap.objs.size->b ∉ [s.heap.objs.size,h1.objs.size]:=fun b hb z=>by
  rcases List.mem_cons.mp z with e | e
  ·exact Nat.ne_of_lt hb e
  ·exact Nat.ne_of_lt (Nat.lt_trans hb hz1) (List.mem_singleton.mp e)
 refine wpAny_pure ⟨plainId_quiet vc _,jO ((Walks.list (by simp [hh]) _ l n1 items.toArray).toS) (by show A.units + 1 + 2 < cLine; omega) s.heap.objs.size n3 tk (by simpa using hz) items.toArray.size 0 0 _ [] (by omega) (Nat.zero_le _) ⟨⟨_,Heap.get?_push_size _ rfl,rfl,rfl⟩,hl1.push _⟩ (Nat.le_refl _) ?_ ?_ (fun x hx=>by cases hx) (fun i=>nw _ (htk i)) ?_⟩
 ·obtain ⟨ob,es,ep,q1,q2,q3,q4,q5,q6⟩:=hD1
  exact ⟨ob,es,ep,Heap.get?_push_of_some _ q1,q2,q3,q4,(fun x hx=>by cases hx),q6⟩
 ·intro i v hp
  have kk:∀ b o,s.heap.get? b = some o->(h1.push { cls:=.type "list_iterator",data:=.fields #[.ref l,.int 0 0] }).get? b = some o:=fun b o e=>Heap.get?_push_of_some _ (k1 _ _ (Heap.get?_push_of_some _ e))
  obtain ⟨T,o,m,rfl,q1,q2,q3,o2,its,n,r1,r2,r3,r4⟩:=hv i v (by simpa using hp)
  exact ⟨T,o,m,rfl,nw _ (Heap.lt_size q1),kk _ _ q1,q2,q3,nw _ (htk i),o2,its,n,kk _ _ r1,r2,r3,r4⟩
 ·rintro ⟨h',g',d',tk',os'⟩ hm hS'
  have e1:g' = s.gens:=hm.gens
  have e2:d' = s.drawn:=hm.drawn
  have e3:os' = s.os:=hm.os
  subst e1 e2 e3
  rw [List.size_toArray] at hS'
  exact ⟨rfl,h h' tk' hS' fun b o e=>hm.heap b o (nw b (Heap.lt_size e)) (Heap.get?_push_of_some _ (k1 _ _ (Heap.get?_push_of_some _ e)))⟩
abbrev PV:=List SB × Addr × V
def zbU:PKA:=([],0,.none)
def zbP (ps:List PV) (kvs:List (List SB × V)):List (List SB × V):=ps.foldl (fun kv p=>yf kv p.1 p.2.2) kvs
def zbQ (qs:List PKA) (xs:List PKA):List PKA:=qs.foldl (fun xs q=>storedH xs q.1 q.2.1 q.2.2) xs
theorem zao:∀ (wH pre:List PKA) (xs:List PKA),zgc (fun i=>(pre ++ wH).getD i zbU) pre.length wH.length xs = zbQ wH xs
 | [],_,_=>rfl
 | q :: qs,pre,xs=>by
  show zgc _ (pre.length + 1) qs.length (storedH xs ((pre ++ q :: qs).getD pre.length zbU).1 ((pre ++ q :: qs).getD pre.length zbU).2.1 ((pre ++ q :: qs).getD pre.length zbU).2.2) = _
  have e:(pre ++ q :: qs).getD pre.length zbU = q:=by
   rw [List.getD_eq_getElem?_getD,List.getElem?_append_right (Nat.le_refl _),Nat.sub_self]
   rfl
  rw [e]
  have ih:=zao qs (pre ++ [q]) (storedH xs q.1 q.2.1 q.2.2)
  rw [List.append_assoc,List.length_append] at ih
  exact ih
def PQ (H:Hp) (p:PV) (q:PKA):Prop:=q.1 = p.1/\q.2.1 = p.2.1/\H p.2.1 = some (.tup (p.1.map sbV))/\zN p.2.2 q.2.2
theorem KB.fold {H:Hp}:∀ {ps:List PV} {qs:List PKA} {kvs:List (List SB × V)} {xs:List PKA},Paired (PQ H) ps qs->KB H kvs xs->KB H (zbP ps kvs) (zbQ qs xs)
 | _,_,_,_,.nil,k=>k
 | p :: ps,q :: qs,kvs,xs,.cons h t,k=>by
  obtain ⟨e1,e2,e3,e4⟩:=h
  have k2:KB H (yf kvs p.1 p.2.2) (storedH xs q.1 q.2.1 q.2.2):=by
   rw [e1,e2]
   exact k.put p.1 e3 e4
  have k3:=KB.fold t k2
  exact k3
def zge (H:Hp) (t:Addr) (p:PV):Prop:=H t = some (.tup [.ref p.2.1,p.2.2])/\H p.2.1 = some (.tup (p.1.map sbV))
theorem zcX {X:Cx} (hc:X.calm = true) (hu:X.A.units + 64 < cLine):y1 X (.type "dict") (fun xs H Q=>∃ (l:Addr) (ts:List Addr) (ps:List PV),xs = [.ref l]/\H l = some (.lst (ts.map V.ref))/\Paired (zge H) ts ps/\∀ (d:Addr) (o:HO),H d = none->DB X.prog X.w (upd H d o) d (zbP ps [])->Q (.ref d) (upd H d o)):=by
 intro pins s σ H xs us Q I r h
 obtain ⟨l,ts,ps,rfl,hl,hp,q⟩:=h
 obtain ⟨u,rfl,ru⟩:=wB r
 cases ru
 obtain ⟨its,rv,hpl,hz⟩:=I.list (SqL.of hl)
 have eits:=qm rv
 subst eits
 obtain ⟨qs,hqs,hob⟩:∃ qs:List PKA,Paired (PQ H) ps qs/\∀ (i:Nat) t,ts[i]? = some t->∃ q o m,qs[i]? = some q/\s.heap.get? t = some o/\o.cls = .type "tuple"/\o.data = .seq #[.ref q.2.1,q.2.2] m/\(tupleKind (y8 X.prog X.w)).is s.heap q.1 q.2.1:=by
  clear q hl hpl rv hz
  induction hp with
  | nil=>exact ⟨[],.nil,fun i t h=>by simp at h⟩
  | @cons t p ts ps h tl ih=>
   obtain ⟨qs,h1,h2⟩:=ih
   obtain ⟨g1,g2⟩:=h
   obtain ⟨_,vs,rr,o,o1,o2,n,o3⟩:=(show yi X.prog X.w H s.heap t (.tup [.ref p.2.1,p.2.2]) from I.hok t _ g1)
   obtain ⟨u1,u2,rfl,r1,r2⟩:=qp rr
   have r1:u1 = Value.ref p.2.1:=r1
   subst r1
   refine ⟨(p.1,p.2.1,u2) :: qs,.cons ⟨rfl,rfl,g2,r2⟩ h1,fun i t' ht=>?_⟩
   cases i with
   | zero=>
    cases ht
    exact ⟨(p.1,p.2.1,u2),o,n,rfl,o1,o2,o3,zcn I.hok g2⟩
   | succ i=>
    obtain ⟨q',o',m',e1,e2⟩:=h2 i t' (by simpa using ht)
    exact ⟨q',o',m',by simpa using e1,e2⟩
 have lq:qs.length = ts.length:=by rw [<- hqs.length,hp.length]
 refine jj (items:=ts.map Value.ref) (fun i=>qs.getD i zbU) (I.ok.hd hc) (by omega) hpl (by rw [List.length_map]; rw [List.length_map] at hz; exact hz) I.big (fun i v hv=>?_) (fun i=>?_) fun h' t hD hk=>?_
 ·rw [List.getElem?_map] at hv
  cases ht:ts[i]? with
  | none=>rw [ht] at hv; cases hv
  | some t=>
   rw [ht] at hv
   cases hv
   obtain ⟨q',o,m,e1,e2,e3,e4,e5⟩:=hob i t ht
   have e:qs.getD i zbU = q':=by rw [List.getD_eq_getElem?_getD,e1]; rfl
   rw [e]
   exact ⟨t,o,m,rfl,e2,e3,e4,e5⟩
 ·show (qs.getD i zbU).2.1 < s.heap.objs.size
  cases e:qs[i]? with
  | none=>
   rw [List.getD_eq_getElem?_getD,e]
   exact Nat.lt_of_le_of_lt (Nat.zero_le _) I.big
  | some q'=>
   rw [List.getD_eq_getElem?_getD,e]
   have hi:i < ts.length:=by rw [<- lq]; exact (List.getElem?_eq_some_iff.mp e).1
   obtain ⟨q2,o,m,e1,_,_,_,o2,its',n,r1,_⟩:=hob i ts[i] (List.getElem?_eq_getElem hi)
   rw [e] at e1
   cases e1
   exact Heap.lt_size r1
 ·rw [List.length_map,<- lq] at hD
  have ef:=zao qs [] []
  rw [List.nil_append,List.length_nil] at ef
  rw [ef] at hD
  have hfr:H s.heap.objs.size = none:=I.hok.fresh (Nat.le_refl _)
  have kb:KB H (zbP ps []) (zbQ qs []):=KB.fold hqs .nil
  obtain ⟨ob,es,ep,h1,h2,h3,h4,h5,h6⟩:=hD
  have hφ : dBφ X.prog X.w s.heap.objs.size (zbQ qs []) h':=⟨ob,es,ep,h1,h2,h3,h4,h6⟩
  refine ⟨.ref s.heap.objs.size,_,I.laid (t':=t) (o:=.ext (dBφ X.prog X.w s.heap.objs.size (zbQ qs []))) hk (Nat.le_refl _) ⟨hφ,⟨_,h1⟩,fun a b ha hab=>?_⟩,rfl,q _ _ hfr ⟨_,za,Paired.mapP kb fun _ _ z=>⟨z.1,by rw [zi (zf z.2.1 hfr)]; exact z.2.1,z.2.2⟩⟩⟩
  obtain ⟨ob',es',ep',g1,g2⟩:=ha
  exact ⟨ob',es',ep',hab _ g1,g2⟩
def zhO (P:Program) (w:World) (td ty:TE):TE:=fun σ H Q=>td σ H fun x H1=>ty σ H1 fun y H2=>∃ (a b:Addr) (kvs:List (List SB × V)) (k:List SB) (v:V),x = .ref a/\y = .ref b/\DB P w H2 a kvs/\H2 b = some (.tup (k.map sbV))/\zL kvs k = some v/\Q v H2
theorem zfg {X:Cx} {P:Program} {w:World} {o i:Expr} {td ty:TE} {pos:Pos} (hP:X.prog = P) (hw:X.w = w) (hu:X.A.units + 1 < cLine) (ho:PE X o td) (hi:PE X i ty) (hs:zhp i):PE X (.Subscript o i pos) (zhO P w td ty):=by
 subst hP
 subst hw
 refine ⟨?_⟩
 intro pins s σ H Q I h
 refine zas PySem.F.slot_dict_getitem.lookup hs (thn (ho pins s σ H _ I h) fun u s1 ⟨x,H1,I1,rx,q1⟩=>thn (hi pins s1 σ H1 _ I1 q1) fun iv s2 ⟨y,H2,I2,ry,a,b,kvs,k,v,ex,ey,db,eb,ev,q2⟩=>?_)
 subst ex
 subst ey
 obtain rfl:u = Value.ref a:=rx
 obtain rfl:iv = Value.ref b:=ry
 obtain ⟨xs,e,kb⟩:=db
 have dd:=zjH I2.hok e kb
 obtain ⟨w',hw',rw'⟩:=wl.some_of (v:=v) (o:=(atKey xs k).map (·.2)) (by rw [<- ev]; exact kb.val k)
 obtain ⟨p,hp,hp2⟩:=Option.map_eq_some_iff.mp hw'
 refine ⟨dd.typeIs,wpAny_getItem_heap (tupleKind_room_in1 hu) (zcn I2.hok eb) dd hp ?_⟩
 rw [hp2]
 exact ⟨v,H2,I2.tok _,rw',q2⟩
theorem zew {ps:List PV} {R:List SB->V->Prop}:∀ {kvs:List (List SB × V)},(∀ p ∈ ps,R p.1 p.2.2)->(∀ k v,zL kvs k = some v->R k v)->∀ k,(k ∈ ps.map (·.1)\/(zL kvs k).isSome = true)->∃ v,zL (zbP ps kvs) k = some v/\R k v:=by
 induction ps with
 | nil=>
  intro kvs _ h2 k hk
  rcases hk with hk | hk
  ·cases hk
  ·obtain ⟨v,hv⟩:=Option.isSome_iff_exists.mp hk
   exact ⟨v,hv,h2 k v hv⟩
 | cons p ps ih=>
  intro kvs h1 h2 k hk
  refine ih (kvs:=yf kvs p.1 p.2.2) (fun q hq=>h1 q (List.mem_cons_of_mem _ hq)) (fun k' v' hv=>?_) k ?_
  ·rw [wJ] at hv
   by_cases e:k' = p.1
   ·rw [if_pos e] at hv
    cases hv
    rw [e]
    exact h1 p List.mem_cons_self
   ·rw [if_neg e] at hv
    exact h2 k' v' hv
  ·by_cases e:k = p.1
   ·right
    rw [wJ,if_pos e]
    rfl
   ·rcases hk with hk | hk
    ·rw [List.map_cons] at hk
     rcases List.mem_cons.mp hk with hk | hk
     ·exact absurd hk e
     ·exact .inl hk
    ·right
     rw [wJ,if_neg e]
     exact hk
def zh9 (n:Bool):R2:=fun x y H Q=>∃ (a c:Addr) (xs:List V),x = .ref a/\y = .ref c/\H a = some (.lst xs)/\H c = some (.lst [])/\Q (.bl (n != xs.isEmpty)) H
theorem vZ {X:Cx} (hu:X.A.units + 64 < cLine):OpR X (compareOp .Eq) (zh9 false):=by
 intro pins s σ H x y v u Q I rx ry h
 obtain ⟨a,c,xs,rfl,rfl,ha,hc,q⟩:=h
 cases xs with
 | nil=>exact zaP hu pins s σ H _ _ v u Q I rx ry ⟨a,c,0,.lst [],fun _=>True,fun _=>True,rfl,rfl,by decide,zH.lst True.intro ha .nil,zH.lst True.intro hc .nil,q⟩
 | cons z zs=>exact zbz (by omega) pins s σ H _ _ v u Q I rx ry ⟨a,c,_,_,rfl,rfl,ha,hc,by simp,q⟩
theorem zdv {β : Type} {K:Frag} {a:Addr} {xs:List V} {bs:List β} {caps:List (Option Nat)} {g:TG} {tt:TT} {te:TE} {σ : L2.St} {H1:Hp} {Q:VK} {D:Addr} (R':Hp->Addr->β->Prop)
  (sR':∀ {H H' v r},R' H v r->zm H H'->R' H' v r) (uR':∀ {H v r D ys o},R' H v r->H D = some (.lst ys)->R' (upd H D o) v r)
  (ha:SqL K H1 a xs) (hl:xs.length = bs.length) (hn:bs.length<=500) (hD:H1 D = none)
  (hs:∀ (i:Nat) x b H (Qf:VK) (Qs:Hp->Prop),xs[i]? = some x->bs[i]? = some b->zm H1 H->(∀ v H',zm H H'->R' H' v b->Qf (.ref v) H')->
   g x (y0 caps σ) H fun σ2 H2=>tt σ2 H2 fun ok H3=>(ok = true->te σ2 H3 Qf)/\(ok = false->Qs H3))
  (hd:∀ vs H,zm H1 H->H D = some (.lst (vs.map V.ref))->Paired (R' H) vs bs->Q (.ref D) H):LCr (Itl K a) caps g tt te σ H1 Q D:=by
 refine ub (K:=K) (xs:=xs) (fun i ys H'=>∃ vs,ys = vs.map V.ref/\zm H1 H'/\H' D = some (.lst ys)/\Paired (R' H') vs (bs.take i)) ⟨[],rfl,zb hD _,za,.nil⟩ (fun i ys H' ⟨_,_,h,_⟩=>h.seq ha) ?_ ?_
 ·rintro i x ys H' hlt hx ⟨vs,rfl,sH,hDy,fv⟩
  have hi:i < bs.length:=by omega
  have hb:bs[i]? = some bs[i]:=List.getElem?_eq_getElem hi
  have nl:(vs.map V.ref).length<=i:=by
   rw [List.length_map,fv.length,List.length_take]
   omega
  refine hs i x _ H' _ _ hx hb sH (fun v H2 s2 r2=>?_)
  have s3:zm H1 (upd H2 D (.lst (vs.map V.ref ++ [.ref v]))):=fun b o z=>by
   rw [zi (zf z hD)]
   exact s2 _ _ (sH b o z)
  refine lcN.mk hlt (Nat.le_of_lt (zF (by omega))) (s2 _ _ hDy) nl ⟨vs ++ [v],by rw [List.map_append]; rfl,s3,za,?_⟩
  rw [List.take_succ_eq_append_getElem hi]
  exact Paired.snoc (Paired.imp' (fun w r' z=>uR' (sR' z s2) (s2 _ _ hDy)) fv) (uR' r2 (s2 _ _ hDy))
 ·rintro ys H ⟨vs,rfl,sH,hDy,fv⟩
  rw [hl,List.take_length] at fv
  exact hd vs H sH hDy fv
end L2
namespace K22
open PySem L2 PyProof.Rows
theorem zeu {k:Nat} (h:k < 5):yL k = decide (grp k = 0):=by rcases lt5 h with rfl | rfl | rfl | rfl | rfl <;> rfl
theorem zjg:∀ (rows:List Rw) {l l':Nat},l'<=l->ya l rows = true->ya l' rows = true
 | [],_,_,_,_=>rfl
 | r :: rs,l,l',hl,h=>by
  have h':(!xt l (grp r.k) && ya (grp r.k) rs) = true:=h
  show (!xt l' (grp r.k) && ya (grp r.k) rs) = true
  rw [Bool.and_eq_true,Bool.not_eq_true'] at h' |-
  refine ⟨?_,h'.2⟩
  have hb:=h'.1
  unfold xt at hb |-
  simp only [Bool.or_eq_false_iff,decide_eq_false_iff_not,Bool.and_eq_false_iff,beq_eq_false_iff_ne] at hb |-
  omega
theorem zbt:∀ (rows:List Rw) {l:Nat},0 < l->(∀ r ∈ rows,r.ok)->ya l rows = true->∀ r ∈ rows,yL r.k = false
 | [],_,_,_,_,r,hr=>by cases hr
 | x :: xs,l,hl,hok,h,r,hr=>by
  have h':(!xt l (grp x.k) && ya (grp x.k) xs) = true:=h
  rw [Bool.and_eq_true,Bool.not_eq_true'] at h'
  have hb:=h'.1
  unfold xt at hb
  simp only [Bool.or_eq_false_iff,decide_eq_false_iff_not] at hb
  have hg : 0 < grp x.k:=by omega
  rcases List.mem_cons.mp hr with rfl | hr
  ·rw [zeu (hok _ List.mem_cons_self).1,decide_eq_false (by omega)]
  ·exact zbt xs hg (fun r hr=>hok r (List.mem_cons_of_mem _ hr)) h'.2 r hr
theorem zfd {rows:List Rw} (h:∀ r ∈ rows,yL r.k = false):plN rows = 0:=by
 unfold plN
 rw [List.length_eq_zero_iff,List.filter_eq_nil_iff]
 exact fun r hr=>by rw [h r hr]; decide
theorem vN:∀ rows:List Rw,(∀ r ∈ rows,r.ok)->ya 0 rows = true->∃ A B,rows = A ++ B/\A.length = plN rows/\(∀ r ∈ A,grp r.k = 0)/\ya 0 B = true
 | [],_,_=>⟨[],[],rfl,rfl,(fun r hr=>by cases hr),rfl⟩
 | r :: rs,hok,h=>by
  have h':(!xt 0 (grp r.k) && ya (grp r.k) rs) = true:=h
  rw [Bool.and_eq_true,Bool.not_eq_true'] at h'
  by_cases hg:grp r.k = 0
  ·have h2:=h'.2
   rw [hg] at h2
   obtain ⟨A,B,e,hl,hA,hB⟩:=vN rs (fun x hx=>hok x (List.mem_cons_of_mem _ hx)) h2
   refine ⟨r :: A,B,by rw [e]; rfl,?_,fun x hx=>?_,hB⟩
   ·have hp:yL r.k = true:=by rw [zeu (hok r List.mem_cons_self).1,hg]; rfl
    unfold plN at hl |-
    rw [List.filter_cons,if_pos hp,List.length_cons,List.length_cons,hl]
   ·rcases List.mem_cons.mp hx with rfl | hx
    ·exact hg
    ·exact hA x hx
  ·refine ⟨[],r :: rs,rfl,?_,(fun x hx=>by cases hx),h⟩
   rw [zfd]
   ·rfl
   ·intro x hx
    rcases List.mem_cons.mp hx with rfl | hx
    ·rw [zeu (hok _ List.mem_cons_self).1,decide_eq_false hg]
    ·exact zbt rs (by omega) (fun x hx=>hok x (List.mem_cons_of_mem _ hx)) h'.2 x hx
theorem Paired.takeP {α β : Type} {R : α->β->Prop}:∀ {xs:List α} {ys:List β} (n:Nat),Paired R xs ys->Paired R (xs.take n) (ys.take n)
 | _,_,0,_=>.nil
 | _,_,_ + 1,.nil=>.nil
 | _,_,n + 1,.cons r t=>.cons r (Paired.takeP n t)
theorem Paired.dropP {α β : Type} {R : α->β->Prop}:∀ {xs:List α} {ys:List β} (n:Nat),Paired R xs ys->Paired R (xs.drop n) (ys.drop n)
 | _,_,0,r=>r
 | _,_,_ + 1,.nil=>.nil
 | _,_,n + 1,.cons _ t=>Paired.dropP n t
theorem Paired.appP {α β : Type} {R : α->β->Prop}:∀ {xs xs':List α} {ys ys':List β},Paired R xs ys->Paired R xs' ys'->Paired R (xs ++ xs') (ys ++ ys')
 | _,_,_,_,.nil,s=>s
 | _,_,_,_,.cons r t,s=>.cons r (Paired.appP t s)
def zhg (rows:List Rw) (r:Rw):List Rw:=rows.take (plN rows) ++ [r] ++ rows.drop (plN rows)
theorem zex {rows:List Rw} {bars:List Str} (V1:yR rows bars) {r:Rw} (hr:r ∈ rows) (hk:r.k = 0) (h23:rows.length<=23):yR (zhg rows r) bars:=by
 obtain ⟨A,B,e,hl,hA,hB⟩:=vN rows V1.ok V1.ord
 have ed:zhg rows r = A ++ [r] ++ B:=by
  unfold zhg
  rw [<- hl,e,List.take_left',List.drop_left' rfl]
  rfl
 rw [ed]
 have hg:grp r.k = 0:=by rw [hk]; rfl
 refine ⟨fun x hx=>?_,?_,V1.l60,?_,V1.bn,?_⟩
 ·rcases List.mem_append.mp hx with hx | hx
  ·rcases List.mem_append.mp hx with hx | hx
   ·exact V1.ok x (by rw [e]; exact List.mem_append_left _ hx)
   ·rw [List.mem_singleton.mp hx]; exact V1.ok r hr
  ·exact V1.ok x (by rw [e]; exact List.mem_append_right _ hx)
 ·rw [e,List.length_append] at h23
  rw [List.length_append,List.length_append,List.length_cons,List.length_nil]
  omega
 ·refine vX (g:=0) rfl (A ++ [r]) B 0 rfl (fun x hx=>?_) hB hB
  rcases List.mem_append.mp hx with hx | hx
  ·exact hA x hx
  ·rw [List.mem_singleton.mp hx]; exact hg
 ·have en:nms (A ++ [r] ++ B) = nms rows:=by
   rw [e,xA,xA,xA,v0,hk]
   simp [z5]
  rw [en]
  exact V1.nd
theorem zaU {k:Nat} (h:k < 5):inV (.str (kw k)) [.str "seat",.str "both"] = yL k:=zfW k h
theorem zeJ {R:Addr->Rw->Prop}:∀ {us:List Addr} {rows:List Rw},Paired R us rows->∀ (keep:Rw->Bool) (out:Addr->Rw->V),(((us.zip rows).filter fun p=>keep p.2).map fun p=>out p.1 p.2).length = (rows.filter keep).length
 | _,_,.nil,_,_=>rfl
 | _,_,.cons (a:=u) (b:=r) _ t,keep,out=>by
  have ih:=zeJ t keep out
  rw [List.length_map] at ih |-
  rw [List.zip_cons_cons,List.filter_cons,List.filter_cons]
  cases h:keep r
  ·simpa [h] using ih
  ·simpa [h] using ih
theorem zf9 {xs:List V} (h:xs ≠ []):xV xs (some (-1)) none = [xs.getLast h]:=by
 unfold xV
 rw [HT.zi9]
 have hl : 0 < xs.length:=List.length_pos_iff.mpr h
 have e:HT.sIx xs.length 0 (some (-1)) = xs.length - 1:=by
  show (if (-1:Int) < 0 then ((-1:Int) + (xs.length:Int)).toNat else min (-1:Int).toNat xs.length) = _
  rw [if_pos (by decide)]
  omega
 rw [e,List.drop_eq_getElem_cons (by omega),List.drop_of_length_le (by omega),List.getLast_eq_getElem]
 rw [show xs.length - (xs.length - 1) = 1 by omega]
 rfl
def zcf:Sp:=fun vs H Q _=>∃ (t la lb:Addr) (us:List Addr) (rows:List Rw) (bars:List Str),vs = [.ref t]/\H t = some (.tup [.ref la,.ref lb])/\H la = some (.lst (us.map V.ref))/\Paired (TAt H) us rows/\H lb = some (.lst (bars.map V.str))/\yR rows bars/\
 ∀ (t' la':Addr) (us':List Addr) (rows':List Rw) (H':Hp),zm H H'->H' t' = some (.tup [.ref la',.ref lb])->H' la' = some (.lst (us'.map V.ref))->Paired (TAt H') us' rows'->yR rows' bars->Q (.ref t') H'
theorem zgp:∀ k:Nat,k < 5->decide (V.str (kw k) = V.str "seat") = (k == 0):=by decide +kernel
section
variable {P:Program} {w:World} {K:Frag} {mg:Str->Option Value} {base:Heap} {f CF N:Addr} {fd:FuncData} {c:C5}
theorem jI:zu ["_law_told","_law_rows","_law_bars","_law_seats","_law_many"] ["_law_told"] (ze qE):=⟨rfl,rfl,rfl,by decide +kernel,rfl,by decide +kernel,by decide +kernel⟩
theorem zgS (F:Fun K "_law_doubled" "_law_doubled" qE f fd) (hlen:mg "len" = none):zE P w K mg base CX0 1 f fd ["_law_told"] zcf:=by
 refine F.ok jI (fun vs H Q E h=>?_) (fun cdv A outer s H vs Q E hr h=>?_)
 ·obtain ⟨t,la,lb,us,rows,bars,rfl,_⟩:=h
  rfl
 obtain ⟨t,la,lb,us,rows,bars,rfl,ht,hla,hu,hlb,V1,q⟩:=h
 have hU:=hr.units
 have l24:=V1.l24
 have lu:us.length = rows.length:=hu.length
 refine ⟨_,zd (uQ (pv 0) (yp rfl (zv (zn (i:=1) jI.nd rfl (Or.inl rfl)) (zv (zn (i:=2) jI.nd rfl (Or.inl rfl)) z7))))
  (zd (jM (i:=3) [] ["_law_one"] [none] jI.nd rfl (Or.inl rfl) rfl ⟨rfl,rfl,rfl,rfl⟩ (z6 (pv 1)) (zW 0) rfl rfl rfl
   (fun pins fp s H C=>⟨zn (i:=0) zcy rfl (Or.inl rfl) (.inr rfl),yq (zk zZ (zy (r:=uP K) zr (pv 0) zg (fun _ _=>rfl)) zl (zt _)),pv 0⟩))
  (zd (zw (i:=4) jI.nd rfl (Or.inl rfl) (cB zB hlen PySem.boot_len (ac (xp [] ["_law_one"] [none] rfl ⟨rfl,rfl,rfl,rfl⟩ (z6 (pv 1)) (zW 0) rfl rfl rfl
   (fun pins fp s H C=>⟨zn (i:=0) zcy rfl (Or.inl rfl) (.inr rfl),yq (zk (r:=rIn K false) zU (zy (r:=uP K) zr (pv 0) zg (fun _ _=>rfl)) (zM (ac zl (ac zl zc))) (by with_unfolding_all rfl)),pv 0⟩)) zc)))
  (zd (zI (PW.pt (xW (zk (vZ hU) (pv 3) (zM zc) (zt _)) (xH (zk zbx (cB zB hlen PySem.boot_len (ac (pv 1) zc)) zg (zt _))))) (zh (zA (pv 0))) zC)
  (zh (zA (zR (ac (zx yW (zx yW (z9 yw (pv 1) yx (yn (pv 4))) (z9 yw (pv 3) (yn (zje zhF zg)) yx)) (z9 yw (pv 1) (yn (pv 4)) yx)) (ac (pv 2) zc)))))))),?_⟩
 refine ⟨_,rfl,t,_,rfl,SqT.of ht,rfl,_,_,rfl,_,_,rfl,rfl,?_⟩
 refine ⟨_,rfl,la,rfl,⟨_,SqL.of hla⟩,fun D1 hD1=>?_⟩
 refine vE (K:=K) TAt (fun r=>r.k == 0) (fun u _=>.ref u) hD1 hla hu (by omega) (fun i u r H' Nn S hu' hr' tr sH n1 s1=>?_) (fun H1 s1 hS1=>?_)
 ·have rk:=V1.ok r (List.mem_of_getElem? hr')
  refine ⟨_,rfl,u,_,0,_,rfl,rfl,SqT.of (sH _ _ tr),xU rk.1,rfl,_,rfl,?_⟩
  rw [zgp _ rk.1]
  exact ⟨fun e=>⟨_,rfl,n1 _ (zm.refl _) e⟩,fun e=>s1 _ (zm.refl _) e⟩
 have hla1:=s1 _ _ hla
 have hu1:=zK s1 hu
 refine ⟨_,rfl,la,rfl,⟨_,SqL.of hla1⟩,fun D hD=>?_⟩
 refine vE (K:=K) TAt (fun r=>yL r.k) (fun u _=>.ref u) hD hla1 hu1 (by omega) (fun i u r H' Nn S hu' hr' tr sH n1 s1=>?_) (fun H2 s2 hD1'=>?_)
 ·have rk:=V1.ok r (List.mem_of_getElem? hr')
  have tu:=sH _ _ tr
  refine ⟨_,rfl,u,_,0,_,rfl,rfl,SqT.of tu,xU rk.1,zz2,fun l hl=>?_⟩
  have s2:=zb hl (.lst [.str "seat",.str "both"])
  refine ⟨l,_,rfl,.inl (SqL.of za),rfl,rfl,_,rfl,?_⟩
  rw [if_neg Bool.false_ne_true,zaU rk.1]
  exact ⟨fun e=>⟨_,rfl,n1 _ s2 e⟩,fun e=>s1 _ s2 e⟩
 obtain ⟨ys,hys,hDy⟩:∃ ys:List V,ys.length = plN rows/\H2 D = some (.lst ys):=⟨_,zeJ hu1 (fun r=>yL r.k) (fun u _=>.ref u),hD1'⟩
 refine ⟨D,ys,rfl,.inl (SqL.of hDy),?_⟩
 rw [hys]
 clear hys hDy hD1' ys
 have s12:=s1.trans s2
 have hS2:=s2 _ _ hS1
 refine ⟨_,rfl,zz0,fun l0 hl0=>?_⟩
 have s3:=zb hl0 (.lst [])
 have g3:upd H2 l0 (.lst []) l0 = some (.lst []):=za
 show zh9 false _ _ (upd H2 l0 (.lst [])) _
 generalize upd H2 l0 (.lst []) = H3 at s3 g3 |-
 have s13:=s12.trans s3
 have ht3:=s13 _ _ ht
 have hla3:=s13 _ _ hla
 have hu3:=zK s13 hu
 refine ⟨D1,l0,_,rfl,rfl,s3 _ _ hS2,g3,_,rfl,?_⟩
 generalize hzs:((us.zip rows).filter fun p=>p.2.k == 0) = zs at hS2
 cases hz:zs with
 | nil=>
  refine vF (by rfl) ?_
  refine xI ?_
  exact ⟨_,rfl,q t la us rows H3 s13 ht3 hla3 hu3 V1⟩
 | cons z0 zs0=>
  refine ud (by rfl) ?_
  refine ⟨_,rfl,la,_,rfl,.inl (SqL.of hla3),_,_,rfl,rfl,_,rfl,?_⟩
  by_cases h23:rows.length<=23
  rotate_left
  ·refine dT (by show ((us.map V.ref).length:Int) > 23; rw [List.length_map]; omega) ?_
   exact ⟨_,rfl,q t la us rows H3 s13 ht3 hla3 hu3 V1⟩
  refine dF (by show ¬ ((us.map V.ref).length:Int) > 23; rw [List.length_map]; omega) ?_
  rw [hz] at hzs hS2
  have hne:(z0 :: zs0) ≠ []:=List.cons_ne_nil _ _
  have hmem:(z0 :: zs0).getLast hne ∈ (us.zip rows).filter fun p=>p.2.k == 0:=by rw [hzs]; exact List.getLast_mem hne
  generalize hlast:(z0 :: zs0).getLast hne = pr at hmem
  obtain ⟨u,r⟩:=pr
  obtain ⟨hm1,hm2⟩:=List.mem_filter.mp hmem
  have hrm:r ∈ rows:=(List.of_mem_zip hm1).2
  have hrk:r.k = 0:=beq_iff_eq.mp hm2
  obtain ⟨j,hj,ej⟩:=List.getElem_of_mem hm1
  have ej2:(us.zip rows)[j]? = some (u,r):=by rw [<- ej]; exact List.getElem?_eq_getElem hj
  rw [List.getElem?_zip_eq_some] at ej2
  have tur:TAt H3 u r:=by
   obtain ⟨r2,hr2,tr2⟩:=yj hu3 ej2.1
   rw [ej2.2] at hr2
   cases hr2
   exact tr2
  have elast:xV ((z0 :: zs0).map fun p=>V.ref p.1) (some (-1)) none = [V.ref u]:=by
   rw [zf9 (by simp),List.getLast_map,hlast]
  have ln:plN rows<=24:=Nat.le_trans (List.length_filter_le _ _) l24
  refine ⟨_,rfl,_,rfl,_,rfl,la,_,rfl,SqL.of hla3,fun p4 hp4=>?_⟩
  rw [xl,<- List.map_take]
  have s4:=zb hp4 (.lst ((us.take (plN rows)).map V.ref))
  have g4:upd H3 p4 (.lst ((us.take (plN rows)).map V.ref)) p4 = some (.lst ((us.take (plN rows)).map V.ref)):=za
  generalize upd H3 p4 (.lst ((us.take (plN rows)).map V.ref)) = H4 at s4 g4 |-
  refine ⟨_,rfl,_,rfl,_,rfl,D1,_,rfl,SqL.of (s4 _ _ (s3 _ _ hS2)),fun p5 hp5=>?_⟩
  rw [show xV ((z0 :: zs0).map fun p=>V.ref p.1) (some (-1)) none = [V.ref u] from elast]
  have s5:=zb hp5 (.lst [.ref u])
  have g5:upd H4 p5 (.lst [.ref u]) p5 = some (.lst [.ref u]):=za
  generalize upd H4 p5 (.lst [.ref u]) = H5 at s5 g5 |-
  refine ⟨p4,p5,_,_,rfl,rfl,s5 _ _ g4,g5,ye (by rw [List.length_map,List.length_take]; show min (plN rows) us.length + 1<=1000; omega),fun p6 hp6=>?_⟩
  have s6:=zb hp6 (.lst ((us.take (plN rows)).map V.ref ++ [.ref u]))
  have g6:upd H5 p6 (.lst ((us.take (plN rows)).map V.ref ++ [.ref u])) p6 = some (.lst ((us.take (plN rows)).map V.ref ++ [.ref u])):=za
  generalize upd H5 p6 (.lst ((us.take (plN rows)).map V.ref ++ [.ref u])) = H6 at s6 g6 |-
  have s36:=s4.trans (s5.trans s6)
  refine ⟨_,rfl,_,rfl,_,rfl,la,_,rfl,SqL.of (s36 _ _ hla3),fun p7 hp7=>?_⟩
  rw [yN,<- List.map_drop]
  have s7:=zb hp7 (.lst ((us.drop (plN rows)).map V.ref))
  have g7:upd H6 p7 (.lst ((us.drop (plN rows)).map V.ref)) p7 = some (.lst ((us.drop (plN rows)).map V.ref)):=za
  generalize upd H6 p7 (.lst ((us.drop (plN rows)).map V.ref)) = H7 at s7 g7 |-
  refine ⟨p6,p7,_,_,rfl,rfl,s7 _ _ g6,g7,ye (by rw [List.length_append,List.length_map,List.length_map,List.length_take,List.length_drop]; show min (plN rows) us.length + 1 + (us.length - plN rows)<=1000; omega),fun p8 hp8=>?_⟩
  have s8:=zb hp8 (.lst ((us.take (plN rows)).map V.ref ++ [.ref u] ++ (us.drop (plN rows)).map V.ref))
  have g8:upd H7 p8 (.lst ((us.take (plN rows)).map V.ref ++ [.ref u] ++ (us.drop (plN rows)).map V.ref)) p8 = some (.lst ((us.take (plN rows) ++ [u] ++ us.drop (plN rows)).map V.ref)):=by rw [za,List.map_append,List.map_append]; rfl
  generalize upd H7 p8 (.lst ((us.take (plN rows)).map V.ref ++ [.ref u] ++ (us.drop (plN rows)).map V.ref)) = H8 at s8 g8 |-
  have s38:=s36.trans (s7.trans s8)
  refine ⟨_,rfl,zz2,fun t9 ht9=>?_⟩
  have s9:=zb ht9 (.tup [.ref p8,.ref lb])
  have s39:=s38.trans s9
  refine q t9 p8 _ (zhg rows r) _ (s13.trans s39) za (s9 _ _ g8) ?_ (zex V1 hrm hrk h23)
  have hu9:=zK s39 hu3
  exact Paired.appP (Paired.appP (Paired.takeP _ hu9) (.cons (s39 _ _ tur) .nil)) (Paired.dropP _ hu9)
end
def uO (r:Rw):List SB:=match r.k with
 | 0=>[.inl "seat",.inl r.z,.inr r.b] | 1=>[.inl "both",.inl r.z,.inr r.b] | 2=>[.inl "tail",.inl r.z] | 3=>[.inl "tag",.inl r.z,.inr r.b] | _=>[.inl "bag",.inl r.z]
theorem ze5 {r:Rw}:(uO r).map sbV = rv r:=by
 obtain ⟨k,z,b⟩:=r
 match k with
 | 0=>rfl
 | 1=>rfl
 | 2=>rfl
 | 3=>rfl
 | n + 4=>rfl
theorem zjy:∀ i:Nat,i < 5->∀ j:Nat,j < 5->kw i = kw j->i = j:=by decide +kernel
theorem zdh {r:Rw}:(uO r)[0]? = some (.inl (kw r.k)):=by
 obtain ⟨k,z,b⟩:=r
 match k with
 | 0=>rfl
 | 1=>rfl
 | 2=>rfl
 | 3=>rfl
 | n + 4=>rfl
theorem zdg {r:Rw}:(uO r)[1]? = some (.inl r.z):=by
 obtain ⟨k,z,b⟩:=r
 match k with
 | 0=>rfl
 | 1=>rfl
 | 2=>rfl
 | 3=>rfl
 | n + 4=>rfl
def sbB:Option SB->Bool
 | some (.inr b)=>b
 | _=>true
theorem zdi {r:Rw}:fr r.k r.b = sbB ((uO r)[2]?):=by
 obtain ⟨k,z,b⟩:=r
 match k with
 | 0=>rfl
 | 1=>rfl
 | 2=>rfl
 | 3=>rfl
 | n + 4=>rfl
theorem ze4 {c:C5} {H:Hp} {p:Addr} {r r':Rw} (h:uO r = uO r') (o:r.ok) (o':r'.ok) (hp:PAt c H p r'):PAt c H p r:=by
 have e1:kw r.k = kw r'.k:=by
  have h1:=zdh (r:=r)
  rw [h,zdh] at h1
  exact (Sum.inl.inj (Option.some.inj h1)).symm
 have e2:r.z = r'.z:=by
  have h1:=zdg (r:=r)
  rw [h,zdg] at h1
  exact (Sum.inl.inj (Option.some.inj h1)).symm
 have e3:fr r.k r.b = fr r'.k r'.b:=by rw [zdi,zdi,h]
 have ek:=zjy _ o.1 _ o'.1 e1
 obtain ⟨dx,hp⟩:=hp
 exact ⟨dx,by show H p = some (.ins (c.at r.k) dx (pf (kw r.k) (.str r.z) (fr r.k r.b))); rw [e3,e2,ek]; exact hp⟩
def TP (c:C5) (H:Hp) (t:Addr) (r:Rw):Prop:=∃ u p,H t = some (.tup [.ref u,.ref p])/\TAt H u r/\PAt c H p r
theorem TP.same {c:C5} {H H':Hp} {t:Addr} {r:Rw} (h:TP c H t r) (s:zm H H'):TP c H' t r:=by
 obtain ⟨u,p,h1,h2,h3⟩:=h
 exact ⟨u,p,s _ _ h1,s _ _ h2,h3.same s⟩
theorem TP.upd {c:C5} {H:Hp} {t D:Addr} {r:Rw} {ys:List V} {o:HO} (h:TP c H t r) (hD:H D = some (.lst ys)):TP c (upd H D o) t r:=by
 obtain ⟨u,p,h1,h2,h3⟩:=h
 refine ⟨u,p,?_,TAt.upd h2 hD,PAt.upd h3 hD⟩
 rw [zi (xC h1 hD (by intro z; cases z))]
 exact h1
theorem zdN {c:C5} {H:Hp} {ts:List Addr} {rows:List Rw} (h:Paired (TP c H) ts rows):(∀ r ∈ rows,r.ok)->∃ ps:List PV,Paired (zge H) ts ps/\ps.map (·.1) = rows.map uO/\∀ p ∈ ps,∃ r pa,r.ok/\p.1 = uO r/\p.2.2 = .ref pa/\PAt c H pa r:=by
 induction h with
 | nil=>exact fun _=>⟨[],.nil,rfl,fun p hp=>by cases hp⟩
 | @cons t r ts rows hd tl ih=>
  intro hok
  obtain ⟨ps,h1,h2,h3⟩:=ih fun x hx=>hok x (List.mem_cons_of_mem _ hx)
  obtain ⟨u,p,g1,g2,g3⟩:=hd
  refine ⟨(uO r,u,.ref p) :: ps,.cons ⟨g1,by rw [ze5]; exact g2⟩ h1,by rw [List.map_cons,List.map_cons,h2],fun q hq=>?_⟩
  rcases List.mem_cons.mp hq with rfl | hq
  ·exact ⟨r,p,hok r List.mem_cons_self,rfl,rfl,g3⟩
  ·exact h3 q hq
def zaA (c:C5) (CF:Addr):Sp:=fun vs H Q _=>∃ (t la lb:Addr) (al:Bool) (us:List Addr) (rows:List Rw) (bars:List Str),vs = [.ref t,.bl al]/\H t = some (.tup [.ref la,.ref lb])/\H la = some (.lst (us.map V.ref))/\Paired (TAt H) us rows/\H lb = some (.lst (bars.map V.str))/\yR rows bars/\
 ∀ (f:Addr) (H':Hp),zm H H'->vJ c CF H' f rows bars->Q (.ref f) H'
section
variable {P:Program} {w:World} {K:Frag} {mg:Str->Option Value} {base:Heap} {f CF N:Addr} {fd:FuncData} {c:C5}
theorem zjm:([Str.ofString "_law_one",Str.ofString "_law_alike",Str.ofString "_law_made_here"]:List Str).Nodup:=by decide +kernel
theorem zdd:zu ["_law_told","_law_alike","_law_made_here"] ["_law_told","_law_alike"] (ze uG):=⟨rfl,rfl,rfl,by decide +kernel,rfl,by decide +kernel,by decide +kernel⟩
theorem zfy {gF g1:Addr} {eF e1:FuncData} (F:Fun K "_law_made" "_law_made" uG f fd) (hdict:mg "dict" = none) (hlst:mg "list" = none) (mCF:mg "Form" = some (.ref CF)) (MF:Mk K CF gF) (GF:zE P w K mg base CX0 3 gF eF ["self","parameters","bars"] (zeX c CF)) (bF:zS K eF ["self","parameters","bars"] []) (cP:za8 P w K mg base 5 "parameter_of" g1 e1 ["told"] (zeV K c N)):zE P w K mg base CX0 6 f fd ["_law_told","_law_alike"] (zaA c CF):=by
 refine F.ok zdd (fun vs H Q E h=>?_) (fun cdv A outer s H vs Q E hr h=>?_)
 ·obtain ⟨t,la,lb,al,us,rows,bars,rfl,_⟩:=h
  rfl
 obtain ⟨t,la,lb,al,us,rows,bars,rfl,ht,hla,hu,hlb,V1,q⟩:=h
 have hr4:z8 4 _:=hr.mono (by decide)
 have hU:=hr.units
 have hu1:=qZ hr
 have lu:us.length = rows.length:=hu.length
 have l24:=V1.l24
 have l60:=V1.l60
 refine ⟨_,zd (zw (i:=2) zdd.nd rfl (Or.inr rfl) (cTy (zcX rfl hU) hdict PyProof.Rows.boot_dict (ac (xp [] ["_law_one"] [none] rfl ⟨rfl,rfl,rfl,rfl⟩ (z6 (zy zr (pv 0) zg (fun _ _=>rfl))) (zW 0) rfl rfl rfl
   (fun pins fp s H C=>⟨zn (i:=0) zcy rfl (Or.inl rfl) (.inr rfl),xz,zR (ac (pv 0) (ac (cE (E:=fun _ _ _=>False) cP zhx hr (ac (pv 0) zc)) zc))⟩)) zc)))
  (zh (zA (zdm MF GF hr4 rfl mCF bF .nil y7 (ac (xp ["_law_made_here","_law_alike"] ["_law_one","_law_alike","_law_made_here"] [none,some 1,some 2] rfl ⟨rfl,rfl,rfl,rfl⟩ (z6 (zy zr (pv 0) zg (fun _ _=>rfl))) (zW 0) rfl rfl rfl
   (fun pins fp s H C=>⟨zn (i:=0) zjm rfl (Or.inl rfl) (.inr rfl),xz,zbp (yr (pv 1)) (zfg (P:=P) (w:=w) rfl rfl hu1 (pv 2) (pv 0) (fun _ _=>rfl)) (cE (E:=fun _ _ _=>False) cP zhx hr (ac (pv 0) zc))⟩)) (ac (cTy yF hlst PyProof.Rows.boot_list (ac (zy zr (pv 0) zg (fun _ _=>rfl)) zc)) zc))))),?_⟩
 refine ⟨_,rfl,t,_,0,.ref la,rfl,rfl,SqT.of ht,rfl,la,rfl,⟨_,SqL.of hla⟩,fun D hD=>?_⟩
 refine zdv (K:=K) (bs:=rows) (TP c) TP.same TP.upd (SqL.of hla) (by rw [List.length_map,lu]) (by omega) hD (fun i x r H' Qf Qs hx hr' sH qf=>?_) fun ts H1 s1 e1 p1=>?_
 ·obtain ⟨u,hu',rfl⟩:=xm hx
  obtain ⟨r2,hr2',tr⟩:=yj hu hu'
  rw [hr'] at hr2'
  cases hr2'
  have rk:=V1.ok r (List.mem_of_getElem? hr')
  refine ⟨fun _=>?_,fun e=>Bool.noConfusion e⟩
  refine ⟨_,rfl,_,rfl,u,r.k,.str r.z,r.b,rfl,rk.1,sH _ _ tr,.inl ⟨r.z,rfl,jS rk.2⟩,fun _ p dx H2 s2 hp=>⟨zz2,fun t' ht'=>?_⟩,fun e=>absurd (show xq r.z = false from e) (by rw [rk.2]; decide)⟩
  have hp:PAt c H2 p r:=⟨dx,hp⟩
  have s3:=zb ht' (.tup [.ref u,.ref p])
  exact qf t' _ (s2.trans s3) ⟨u,p,za,(s2.trans s3) _ _ (sH _ _ tr),hp.same s3⟩
 obtain ⟨ps,hps,ekeys,hvals⟩:=zdN p1 V1.ok
 refine ⟨D,ts,ps,rfl,e1,hps,fun d o hd hdb=>?_⟩
 have s2:=zb hd o
 dsimp only [yZ]
 generalize upd H1 d o = H2 at s2 hdb |-
 have s12:=s1.trans s2
 have hla2:=s12 _ _ hla
 have hu2:=zK s12 hu
 have hlook:∀ r ∈ rows,∃ pa,zL (zbP ps []) (uO r) = some (.ref pa)/\PAt c H2 pa r:=fun r hr'=>by
  obtain ⟨v,hv,r',pa,ho',ek,ev,hp⟩:=zew (ps:=ps) (R:=fun k v=>∃ r pa,r.ok/\k = uO r/\v = .ref pa/\PAt c H2 pa r) (kvs:=[]) (fun p hp=>by
   obtain ⟨r',pa,a1,a2,a3,a4⟩:=hvals p hp
   exact ⟨r',pa,a1,a2,a3,a4.same s2⟩) (fun k v h=>by cases h) (uO r) (.inl (by rw [ekeys]; exact List.mem_map.mpr ⟨r,hr',rfl⟩))
  exact ⟨pa,by rw [hv,ev],ze4 ek (V1.ok r hr') ho' hp⟩
 refine ⟨_,rfl,t,_,0,.ref la,rfl,rfl,SqT.of (s12 _ _ ht),rfl,la,rfl,⟨_,SqL.of hla2⟩,fun D3 hD3=>?_⟩
 refine zdv (K:=K) (bs:=rows) (PAt c) PAt.same PAt.upd (SqL.of hla2) (by rw [List.length_map,lu]) (by omega) hD3 (fun i x r H' Qf Qs hx hr' sH qf=>?_) fun ps' H3 s3 e3 p3=>?_
 ·obtain ⟨u,hu',rfl⟩:=xm hx
  obtain ⟨r2,hr2',tr⟩:=yj hu2 hu'
  rw [hr'] at hr2'
  cases hr2'
  have hrm:=List.mem_of_getElem? hr'
  have rk:=V1.ok r hrm
  refine ⟨fun _=>?_,fun e=>Bool.noConfusion e⟩
  refine ⟨_,rfl,_,rfl,?_⟩
  cases al with
  | true=>
   refine xI ?_
   obtain ⟨pa,hv,hp⟩:=hlook r hrm
   exact ⟨_,rfl,_,rfl,d,u,_,uO r,.ref pa,rfl,rfl,hdb.same sH,by rw [ze5]; exact sH _ _ tr,hv,qf pa H' (zm.refl _) (hp.same sH)⟩
  | false=>
   refine yk ?_
   exact ⟨_,rfl,u,r.k,.str r.z,r.b,rfl,rk.1,sH _ _ tr,.inl ⟨r.z,rfl,jS rk.2⟩,fun _ o dx H5 s5 ho=>qf o H5 s5 ⟨dx,ho⟩,fun e=>absurd (show xq r.z = false from e) (by rw [rk.2]; decide)⟩
 have s13:=s12.trans s3
 refine ⟨_,rfl,t,_,1,.ref lb,rfl,rfl,SqT.of (s13 _ _ ht),rfl,lb,_,rfl,.inl (SqL.of (s13 _ _ hlb)),fun l2 hl2=>?_⟩
 have s4:=zb hl2 (.lst (bars.map V.str))
 have g2:upd H3 l2 (.lst (bars.map V.str)) l2 = some (.lst (bars.map V.str)):=za
 generalize upd H3 l2 (.lst (bars.map V.str)) = H4 at s4 g2 |-
 intro x dx hx hdx hne
 have smk:zm H4 (upd (upd H4 dx (.own x)) x (.ins CF dx [])):=yc hx hdx
 have hx1:upd (upd H4 dx (.own x)) x (.ins CF dx []) x = some (.ins CF dx []):=za
 generalize upd (upd H4 dx (.own x)) x (.ins CF dx []) = H5 at smk hx1 |-
 have s14:=s13.trans s4
 refine ⟨x,D3,dx,.ref l2,ps',rows,bars,rfl,hx1,smk _ _ (s4 _ _ e3),xu (s4.trans smk) p3,.inr ⟨l2,rfl,smk _ _ g2⟩,V1,fun H6 sx F6 L6=>?_⟩
 exact ⟨rfl,q x H6 (fun b' u e=>sx b' u (smk _ _ (s14 _ _ e)) (zf (s14 _ _ e) hx)) ⟨F6.at,by omega,by omega,V1.ok⟩⟩
end
def jD (K:Frag):Sp:=fun vs H Q _=>∃ (la:Addr) (vs':List V) (ct:List yv),vs = [.ref la]/\H la = some (.lst vs')/\Paired (zH K T' H 3) vs' (ct.map yC)/\ct.length<=100/\∀ (l:Addr) (ks:List V) (H':Hp),zm H H'->H l = none->H' l = some (.lst ks)->Paired (zH K T' H' 3) ks (ct.map yC)->Q (.ref l) H'
section
variable {P:Program} {w:World} {K:Frag} {mg:Str->Option Value} {base:Heap} {f:Addr} {fd:FuncData}
theorem jJ:zu ["_law_call","_law_copied_here","_law_item"] ["_law_call"] (ze wZ):=⟨rfl,rfl,rfl,by decide +kernel,rfl,by decide +kernel,by decide +kernel⟩
theorem zee (F:Fun K "_law_copied" "_law_copied" wZ f fd) (hlst:mg "list" = none):zE P w K mg base CX0 1 f fd ["_law_call"] (jD K):=by
 refine F.ok jJ (fun vs H Q E h=>?_) (fun cdv A outer s H vs Q E hr h=>?_)
 ·obtain ⟨la,vs',ct,rfl,_⟩:=h
  rfl
 obtain ⟨la,vs',ct,rfl,hla,hv,lc,q⟩:=h
 refine ⟨_,zd (zw (i:=1) jJ.nd rfl (Or.inl rfl) (zM zc))
  (zd (y9 PassesOwn.never rfl (z6 (pv 0)) (zn (i:=2) jJ.nd rfl (Or.inl rfl))
   (zh (zI (zk zU (zy zr (pv 2) zg (fun _ _=>rfl)) (zM (ac zl (ac zl zc))) (by with_unfolding_all rfl))
    (zh (zJ (yV PySem.F.plainAttrs_list PySem.F.slot_list_append PySem.F.type_list_append zQ (pv 1) (ac (zR (ac (zy zr (pv 2) zg (fun _ _=>rfl)) (ac (cTy yF hlst PyProof.Rows.boot_list (ac (zy zr (pv 2) zg (fun _ _=>rfl)) zc)) zc))) zc))))
    (zh (zJ (yV PySem.F.plainAttrs_list PySem.F.slot_list_append PySem.F.type_list_append zQ (pv 1) (ac (pv 2) zc)))))))
  (zh (zA (pv 1)))),?_⟩
 refine ⟨zz0,fun lh hlh=>?_⟩
 have s1:=zb hlh (.lst [])
 have g1:upd H lh (.lst []) lh = some (.lst []):=za
 dsimp only [yZ]
 generalize upd H lh (.lst []) = H1 at s1 g1 |-
 have lvs:vs'.length = ct.length:=by rw [hv.length,List.length_map]
 have hvn:Paired (zH K (fun b=>b ≠ lh) H 3) vs' (ct.map yC):=Paired.imp' (fun _ _ z=>wp (fun b _ o=>fun (e:b = lh)=>o (by rw [e]; exact hlh)) z) hv
 refine ⟨_,rfl,la,rfl,⟨_,SqL.of (s1 _ _ hla)⟩,wj (K:=K) (a:=la) (xs:=vs') (fun i σ H'=>∃ (ks:List V) (v2:Option V),σ = [some (.ref la),some (.ref lh),v2]/\zm H H'/\H' lh = some (.lst ks)/\Paired (zH K (fun b=>b ≠ lh) H' 3) ks ((ct.take i).map yC)) ⟨[],_,rfl,s1,g1,.nil⟩ (fun i σ H' _ ⟨_,_,_,sH,_⟩=>SqL.of (sH _ _ hla)) ?_ ?_⟩
 ·rintro i x σ H2 hx ⟨ks,v2,rfl,s2,elh,hk⟩
  obtain ⟨d,hd,hxs⟩:=Paired.get hvn hx
  obtain ⟨it,hit,rfl⟩:=zfV hd
  have hxs:=hxs.same s2
  have hi:i < ct.length:=(List.getElem?_eq_some_iff.mp hit).1
  have lks:ks.length<=i:=by rw [hk.length,List.length_map,List.length_take]; omega
  have fin:∀ (H5:Hp) (y:V),zm H2 H5->zH K (fun b=>b ≠ lh) H5 3 y (yC it)->∃ (ks':List V) (v2':Option V),([some (.ref la),some (.ref lh),some x]:L2.St) = [some (.ref la),some (.ref lh),v2']/\zm H (upd H5 lh (.lst (ks ++ [y])))/\upd H5 lh (.lst (ks ++ [y])) lh = some (.lst ks')/\Paired (zH K (fun b=>b ≠ lh) (upd H5 lh (.lst (ks ++ [y]))) 3) ks' ((ct.take (i + 1)).map yC):=fun H5 y s5 hy=>by
   have elh5:=s5 _ _ elh
   refine ⟨ks ++ [y],_,rfl,fun b u e=>by rw [zi (zf e hlh)]; exact (s2.trans s5) _ _ e,za,?_⟩
   rw [zdO hit,List.map_append]
   exact yE (Paired.imp' (fun _ _ z=>y3 elh5 (fun b o=>⟨o,o⟩) (z.same s5)) hk) (.cons (y3 elh5 (fun b o=>⟨o,o⟩) hy) .nil)
  have lst2:∀ (u:Addr) (wd:Str) (wH:List V),x = .ref u->SqT K H2 u (.str wd :: wH)->∀ (Qb:Bool->Hp->Prop),(∀ H3,zm H2 H3->Qb (inV (.str wd) [.str "row",.str "book"]) H3)->zeT (tOp (rIn K false) (tOp (uP K) (zhK 2) (tC (V.int 0))) (ziY (zc6 (tC (V.str "row")) (zc6 (tC (V.str "book")) zgj)))) [some (.ref la),some (.ref lh),some x] H2 Qb:=fun u wd wH ex hS Qb hq=>by
   refine ⟨_,rfl,u,_,0,.str wd,ex,rfl,hS,(xf (xs:=V.str wd :: wH) (j:=0) (v:=.str wd) rfl),zz2,fun l hl=>?_⟩
   refine ⟨l,_,rfl,.inl (SqL.of za),rfl,rfl,_,rfl,?_⟩
   rw [if_neg Bool.false_ne_true]
   exact hq _ (zb hl _)
  cases it with
  | one t=>
   obtain ⟨a,xs,ex,hS,hp⟩:=yy hxs
   cases hp with
   | cons p1 pr=>
    have e1:=yz p1
    subst e1
    refine lst2 a "one" _ ex hS _ fun H3 s3=>?_
    refine ud (by decide +kernel) ?_
    refine ⟨_,rfl,.inl ⟨rfl,_,SqL.of (s3 _ _ elh)⟩,_,rfl,lh,_,_,rfl,rfl,s3 _ _ elh,zF (by omega),?_⟩
    exact fin H3 x s3 (hxs.same s3)
  | named z t=>
   obtain ⟨a,xs,ex,hS,hp⟩:=yy hxs
   cases hp with
   | cons p1 pr=>
    have e1:=yz p1
    subst e1
    refine lst2 a "named" _ ex hS _ fun H3 s3=>?_
    refine ud (by decide +kernel) ?_
    refine ⟨_,rfl,.inl ⟨rfl,_,SqL.of (s3 _ _ elh)⟩,_,rfl,lh,_,_,rfl,rfl,s3 _ _ elh,zF (by omega),?_⟩
    exact fin H3 x s3 (hxs.same s3)
  | row ts=>
   obtain ⟨a,xs,ex,hS,hp⟩:=yy hxs
   cases hp with
   | cons p1 pr=>
    cases pr with
    | cons p2 pr2=>
     cases pr2
     have e1:=yz p1
     subst e1
     obtain ⟨b,bs,eb,_,hb,hbs⟩:=vS p2
     subst eb
     refine lst2 a "row" _ ex hS _ fun H3 s3=>?_
     refine vF (by decide +kernel) ?_
     have hS3:=s3.sqT hS
     refine ⟨_,rfl,.inl ⟨rfl,_,SqL.of (s3 _ _ elh)⟩,_,rfl,a,_,0,_,ex,rfl,hS3,rfl,_,rfl,a,_,1,_,ex,rfl,hS3,rfl,b,_,rfl,.inl (SqL.of (s3 _ _ hb)),fun l hl=>?_⟩
     have s4:=zb hl (.lst bs)
     have g4:upd H3 l (.lst bs) l = some (.lst bs):=za
     generalize upd H3 l (.lst bs) = H4 at s4 g4 |-
     refine ⟨zz2,fun t ht=>?_⟩
     have s5:=zb ht (.tup [.str "row",.ref l])
     have g5:upd H4 t (.tup [.str "row",.ref l]) t = some (.tup [.str "row",.ref l]):=za
     generalize upd H4 t (.tup [.str "row",.ref l]) = H5 at s5 g5 |-
     have s25:=s3.trans (s4.trans s5)
     refine ⟨lh,_,_,rfl,rfl,s25 _ _ elh,zF (by omega),?_⟩
     have nl:l ≠ lh:=fun e=>by rw [e,s3 _ _ elh] at hl; cases hl
     refine fin H5 (.ref t) s25 (.tup (SqT.of g5) (.cons .str (.cons (.lst nl (s5 _ _ g4) ?_) .nil)))
     rw [wU hbs]
     exact yB ts
  | book ps=>
   obtain ⟨a,xs,ex,hS,hp⟩:=yy hxs
   cases hp with
   | cons p1 pr=>
    cases pr with
    | cons p2 pr2=>
     cases pr2
     have e1:=yz p1
     subst e1
     obtain ⟨b,bs,eb,_,hb,hbs⟩:=vS p2
     subst eb
     refine lst2 a "book" _ ex hS _ fun H3 s3=>?_
     refine vF (by decide +kernel) ?_
     have hS3:=s3.sqT hS
     refine ⟨_,rfl,.inl ⟨rfl,_,SqL.of (s3 _ _ elh)⟩,_,rfl,a,_,0,_,ex,rfl,hS3,rfl,_,rfl,a,_,1,_,ex,rfl,hS3,rfl,b,_,rfl,.inl (SqL.of (s3 _ _ hb)),fun l hl=>?_⟩
     have s4:=zb hl (.lst bs)
     have g4:upd H3 l (.lst bs) l = some (.lst bs):=za
     generalize upd H3 l (.lst bs) = H4 at s4 g4 |-
     refine ⟨zz2,fun t ht=>?_⟩
     have s5:=zb ht (.tup [.str "book",.ref l])
     have g5:upd H4 t (.tup [.str "book",.ref l]) t = some (.tup [.str "book",.ref l]):=za
     generalize upd H4 t (.tup [.str "book",.ref l]) = H5 at s5 g5 |-
     have s25:=s3.trans (s4.trans s5)
     refine ⟨lh,_,_,rfl,rfl,s25 _ _ elh,zF (by omega),?_⟩
     have nl:l ≠ lh:=fun e=>by rw [e,s3 _ _ elh] at hl; cases hl
     exact fin H5 (.ref t) s25 (.tup (SqT.of g5) (.cons .str (.cons (.lst nl (s5 _ _ g4) (Paired.imp' (fun _ _ z=>z.same s25) hbs)) .nil)))
 ·rintro σ H2 ⟨ks,v2,rfl,s2,elh,hk⟩
  rw [lvs,List.take_length] at hk
  exact ⟨_,rfl,q lh ks H2 s2 hlh elh (Paired.imp' (fun _ _ z=>wp (fun _ _ _=>True.intro) z) hk)⟩
end
theorem zc3 {κ : Type} [DecidableEq κ] {kvs:List (κ × V)} {k k' : κ} {v:V}:zL (yf kvs k v) k' = if k' = k then some v else zL kvs k':=wJ kvs k k' v
theorem jR (r:Rw) (rs:List Rw):nms (r :: rs) = (if z5 r.k = true then [r.z] else []) ++ nms rs:=by
 have:=xA [r] rs
 rw [v0] at this
 exact this
theorem uj {z:Str}:∀ (rows:List Rw) (i:Nat) (acc:List (Key × V)),z ∉ nms rows->zL (yu i acc rows) (.inr z) = zL acc (.inr z)
 | [],_,_,_=>rfl
 | r :: rs,i,acc,h=>by
  rw [jR] at h
  have h2:z ∉ nms rs:=fun e=>h (List.mem_append_right _ e)
  show zL (yu (i + 1) _ rs) (.inr z) = _
  rw [uj rs (i + 1) _ h2]
  split
  next e=>
   rw [zc3,if_neg]
   intro e2
   rw [if_pos e] at h
   exact h (by rw [Sum.inr.inj e2]; exact List.mem_append_left _ (List.mem_singleton.mpr rfl))
  ·rfl
theorem wS {r:Rw} (hb:z5 r.k = true):∀ (rows:List Rw) (i j:Nat) (acc:List (Key × V)),rows[j]? = some r->(nms rows).Nodup->zL (yu i acc rows) (.inr r.z) = some (.int ((i + j:Nat):Int))
 | [],_,_,_,h,_=>by simp at h
 | y :: ys,i,0,acc,h,nd=>by
  have e:y = r:=by simpa using h
  subst e
  rw [jR,if_pos hb] at nd
  have hz:y.z ∉ nms ys:=(List.nodup_cons.mp nd).1
  show zL (yu (i + 1) (if z5 y.k = true then yf acc (.inr y.z) (.int i) else acc) ys) (.inr y.z) = _
  rw [uj ys (i + 1) _ hz,if_pos hb,zc3,if_pos rfl]
  rfl
 | y :: ys,i,j + 1,acc,h,nd=>by
  rw [jR] at nd
  have nd2:=(List.nodup_append.mp nd).2.1
  show zL (yu (i + 1) _ ys) (.inr r.z) = _
  rw [wS hb ys (i + 1) j _ (by simpa using h) nd2,show i + 1 + j = i + (j + 1) by omega]
theorem zgh {a b:List (Str × Nat)} {z:Str} {v:V} (h:zL (kvP a) (.inr z) = some v):zL (kvP (a ++ b)) (.inr z) = some v:=by
 unfold zL at h |-
 unfold kvP at h |-
 rw [List.map_append,List.find?_append]
 cases e:(a.map fun p=>((Sum.inr p.1:Key),V.int (p.2:Nat))).find? fun kv=>decide (kv.1 = .inr z) with
 | none=>rw [e] at h; cases h
 | some kv=>rw [e] at h; exact h
theorem zgg {a:List (Str × Nat)} {z:Str} {i:Nat} (h:(a.any fun p=>decide (p.1 = z)) = false):zL (kvP (a ++ [(z,i)])) (.inr z) = some (.int (i:Nat)):=by
 have e0:zL (kvP a) (.inr z) = none:=by
  rw [<- xZ] at h
  exact Option.not_isSome_iff_eq_none.mp (by rw [h]; exact Bool.false_ne_true)
 unfold zL at e0 |-
 unfold kvP at e0 |-
 rw [List.map_append,List.find?_append]
 cases e:(a.map fun p=>((Sum.inr p.1:Key),V.int (p.2:Nat))).find? fun kv=>decide (kv.1 = .inr z) with
 | none=>
  rw [Option.none_or,List.map_cons,List.find?_cons,decide_eq_true rfl]
  rfl
 | some kv=>rw [e] at e0; cases e0
theorem zap {z:Str} {v:V}:∀ (zs:List Str) (i:Nat) (acc:List (Str × Nat)),zL (kvP acc) (.inr z) = some v->zL (kvP (fpF i acc zs)) (.inr z) = some v
 | [],_,_,h=>h
 | y :: ys,i,acc,h=>by
  show zL (kvP (fpF (i + 1) (if (acc.any fun p=>decide (p.1 = y)) = true then acc else acc ++ [(y,i)]) ys)) _ = _
  split
  ·exact zap ys (i + 1) acc h
  ·exact zap ys (i + 1) _ (zgh h)
theorem zhl {acc:List (Str × Nat)} {z:Str}:(acc.any fun p=>decide (p.1 = z)) = decide (z ∈ acc.map (·.1)):=by
 rw [Bool.eq_iff_iff,List.any_eq_true,decide_eq_true_eq,List.mem_map]
 exact ⟨fun ⟨p,h1,h2⟩=>⟨p,h1,of_decide_eq_true h2⟩,fun ⟨p,h1,h2⟩=>⟨p,h1,decide_eq_true h2⟩⟩
theorem zfJ {rows:List Rw} {z:Str} (h:z ∈ nms rows):∃ (l:Nat) (r:Rw),rows[l]? = some r/\z5 r.k = true/\r.z = z:=by
 unfold nms at h
 obtain ⟨r,hr,rfl⟩:=List.mem_map.mp h
 rw [List.mem_filter] at hr
 obtain ⟨l,hl⟩:=List.mem_iff_getElem?.mp hr.1
 exact ⟨l,r,hl,hr.2,rfl⟩
theorem zeL {rows:List Rw} {bars:List Str} {many:Nat} {z:Str} (h:z ∉ bars) (hk:z ∉ nms rows):yT rows bars many z = if (zD 4 0 rows).isSome = true then none else some ("strange" : Str):=by
 have hv:=uj (z:=z) rows 0 [] hk
 have e1:yT.lastD' z rows = none:=by unfold yT.lastD'; rw [hv]; rfl
 unfold yT
 rw [if_neg h,e1]
theorem jd (kk:Nat):∀ (rows:List Rw) (i:Nat),(zD kk i rows).isSome = rows.any fun r=>decide (r.k = kk)
 | [],_=>rfl
 | r :: rs,i=>by
  show (if r.k = kk then some i else zD kk (i + 1) rs).isSome = (decide (r.k = kk) || rs.any _)
  by_cases h:r.k = kk
  ·rw [if_pos h,decide_eq_true h]; rfl
  ·rw [if_neg h,decide_eq_false h,Bool.false_or]; exact jd kk rs (i + 1)
def zaF (rows:List Rw):List Str:=rows.map fun r=>kw r.k
theorem zg4:∀ a,a < 5->∀ b,b < 5->kw a = kw b->a = b:=by decide +kernel
theorem zbe {rows:List Rw} (hok:∀ r ∈ rows,r.ok) {kk:Nat} (h:kk < 5):decide (kw kk ∈ zaF rows) = (zD kk 0 rows).isSome:=by
 rw [jd,Bool.eq_iff_iff,decide_eq_true_eq,List.any_eq_true]
 unfold zaF
 rw [List.mem_map]
 exact ⟨fun ⟨r,h1,h2⟩=>⟨r,h1,decide_eq_true (zg4 _ (hok r h1).1 _ h h2)⟩,fun ⟨r,h1,h2⟩=>⟨r,h1,by rw [of_decide_eq_true h2]⟩⟩
theorem zcQ:∀ (a b:List Str) (j:Nat) (acc:List (Str × Nat)),fpF j acc (a ++ b) = fpF (j + a.length) (fpF j acc a) b
 | [],_,_,_=>rfl
 | z :: zs,b,j,acc=>by
  show fpF (j + 1) _ (zs ++ b) = fpF (j + (zs.length + 1)) (fpF (j + 1) _ zs) b
  rw [zcQ zs b (j + 1),show j + 1 + zs.length = j + (zs.length + 1) by omega]
theorem zhD:∀ (zs:List Str) (j:Nat) (acc:List (Str × Nat)),(∀ p ∈ acc,p.2 < j)->∀ p ∈ fpF j acc zs,p.2 < j + zs.length
 | [],_,_,h,p,hp=>h p hp
 | z :: zs,j,acc,h,p,hp=>by
  have h2:=zhD zs (j + 1) _ (fun q hq=>?_) p hp
  ·rw [List.length_cons]; omega
  ·split at hq
   ·have:=h q hq; omega
   ·rcases List.mem_append.mp hq with hq | hq
    ·have:=h q hq; omega
    ·rw [List.mem_singleton.mp hq]; exact Nat.lt_succ_self _
theorem zb9 {zs:List Str} {i:Nat} {z:Str} (h:zs[i]? = some z):zs.take (i + 1) = zs.take i ++ [z]:=by
 have hi:i < zs.length:=(List.getElem?_eq_some_iff.mp h).1
 have e:zs[i] = z:=(List.getElem?_eq_some_iff.mp h).2
 rw [List.take_succ_eq_append_getElem hi,e]
theorem zdy {zs:List Str} {i:Nat} {z:Str} (h:zs[i]? = some z):fpF 0 [] (zs.take (i + 1)) = if ((fpF 0 [] (zs.take i)).any fun p=>decide (p.1 = z)) = true then fpF 0 [] (zs.take i) else fpF 0 [] (zs.take i) ++ [(z,i)]:=by
 have hi:i < zs.length:=(List.getElem?_eq_some_iff.mp h).1
 rw [zb9 h,zcQ]
 have el : 0 + (zs.take i).length = i:=by rw [List.length_take]; omega
 rw [el]
 rfl
theorem zf8 {zs:List Str} {i:Nat} {z:Str} (h:zs[i]? = some z):decide (zL (kvP (fpZ zs)) (.inr z) = some (.int (i:Nat))) = !((fpF 0 [] (zs.take i)).any fun p=>decide (p.1 = z)):=by
 have hi:i < zs.length:=(List.getElem?_eq_some_iff.mp h).1
 have e:fpZ zs = fpF (i + 1) (fpF 0 [] (zs.take (i + 1))) (zs.drop (i + 1)):=by
  unfold fpZ
  conv=>lhs; rw [<- List.take_append_drop (i + 1) zs,zcQ]
  rw [show 0 + (zs.take (i + 1)).length = i + 1 by rw [List.length_take]; omega]
 cases hb:(fpF 0 [] (zs.take i)).any fun p=>decide (p.1 = z) with
 | true=>
  have hs:(zL (kvP (fpF 0 [] (zs.take i))) (.inr z)).isSome = true:=by rw [xZ]; exact hb
  obtain ⟨v,hv⟩:=Option.isSome_iff_exists.mp hs
  obtain ⟨z',j,ez,ev,hm⟩:=jr hv
  have hj:=zhD (zs.take i) 0 [] (fun p hp=>by cases hp) _ hm
  rw [List.length_take] at hj
  have h2:=zdy h
  rw [hb,if_pos rfl] at h2
  have h3:=zap (z:=z) (v:=v) (zs.drop (i + 1)) (i + 1) (fpF 0 [] (zs.take (i + 1))) (by rw [h2]; exact hv)
  rw [e,h3,ev]
  refine decide_eq_false fun e2=>?_
  have:(j:Int) = (i:Int):=V.int.inj (Option.some.inj e2)
  have hj':j < 0 + min i zs.length:=hj
  omega
 | false=>
  have h2:=zdy h
  rw [hb,if_neg (by decide)] at h2
  have h3:=zap (z:=z) (v:=.int (i:Nat)) (zs.drop (i + 1)) (i + 1) (fpF 0 [] (zs.take (i + 1))) (by rw [h2]; exact zgg hb)
  rw [e,h3]
  exact decide_eq_true rfl
def ur (rows:List Rw) (bars:List Str) (many:Nat) (z:Str):Str:=(yT rows bars many z).getD ""
theorem za9 {rows:List Rw} {bars:List Str} {many:Nat} {z:Str} (nd:(nms rows).Nodup) (h:z ∉ bars) {l:Nat} {r:Rw} (hl:rows[l]? = some r) (hb:z5 r.k = true) (he:r.z = z):ur rows bars many z = if l < min many (plN rows) then "again" else "":=by
 have hv:=wS hb rows 0 l [] hl nd
 rw [he] at hv
 have e1:yT.lastD' z rows = some l:=by unfold yT.lastD'; rw [hv,Nat.zero_add]; rfl
 unfold ur yT
 rw [if_neg h,e1]
 show (if l < plN rows/\l < many then some ("again" : Str) else none).getD "" = _
 by_cases hc:l < plN rows/\l < many
 ·rw [if_pos hc,if_pos (by omega)]; rfl
 ·rw [if_neg hc,if_neg (by omega)]; rfl
theorem zdI {rows:List Rw} {bars:List Str} {many:Nat} {z:Str}:yT rows bars many z = if ur rows bars many z = "" then none else some (ur rows bars many z):=by
 unfold ur
 cases h:yT rows bars many z with
 | none=>rfl
 | some x=>
  have hx:x ≠ "":=by
   unfold yT at h
   split at h
   ·cases h; decide +kernel
   ·split at h
    ·split at h
     ·cases h
     ·cases h; decide +kernel
    ·split at h
     ·cases h; decide +kernel
     ·cases h
  rw [if_neg (show ¬ (some x).getD "" = "" from hx)]
  rfl
theorem zdw {r:Rw} {i many:Nat} {fk:List (Key × V)}:xx r i many fk = (!fr r.k r.b && !(yL r.k && decide (i < many)) && !(z5 r.k && (zL fk (.inr r.z)).isSome)):=by
 unfold xx vB
 by_cases h1:yL r.k = true/\i < many
 ·rw [if_pos h1,h1.1,decide_eq_true h1.2]
  have e:L2.eqT [.str "place",.int (i:Nat)] [.str "free"] = false:=rfl
  rw [e]
  simp
 ·rw [if_neg h1]
  have hn:(yL r.k && decide (i < many)) = false:=by
   cases hp:yL r.k with
   | false=>rfl
   | true=>exact decide_eq_false fun h=>h1 ⟨hp,h⟩
  rw [hn]
  by_cases h2:z5 r.k = true/\(zL fk (.inr r.z)).isSome = true
  ·rw [if_pos h2,h2.1,h2.2]
   have e:∀ v,L2.eqT [.str "name",v] [.str "free"] = false:=fun v=>by unfold L2.eqT; simp
   rw [e]
   simp
  ·rw [if_neg h2]
   have hn2:(z5 r.k && (zL fk (.inr r.z)).isSome) = false:=by
    cases hp:z5 r.k with
    | false=>rfl
    | true=>
     cases hq:(zL fk (.inr r.z)).isSome with
     | false=>rfl
     | true=>exact absurd ⟨hp,hq⟩ h2
   rw [hn2]
   have e:L2.eqT [.str "free"] [.str "free"] = true:=by unfold L2.eqT; simp [List.range_succ,eqV]
   rw [e]
   simp
theorem zbn {rows:List Rw} (hok:∀ r ∈ rows,r.ok) (ho:ya 0 rows = true) {i:Nat} {r:Rw} (h:rows[i]? = some r):yL r.k = decide (i < plN rows):=by
 obtain ⟨A,B,e,hl,hA,hB⟩:=vN rows hok ho
 have hn:plN rows = plN A + plN B:=by
  unfold plN
  rw [e,List.filter_append,List.length_append]
 have hA2:plN A = A.length:=by
  unfold plN
  rw [List.filter_eq_self.mpr fun x hx=>?_]
  rw [zeu (hok x (by rw [e]; exact List.mem_append_left _ hx)).1,hA x hx]
  rfl
 have hB2:plN B = 0:=by omega
 have hB3:∀ x ∈ B,yL x.k = false:=fun x hx=>by
  unfold plN at hB2
  rw [List.length_eq_zero_iff,List.filter_eq_nil_iff] at hB2
  have:=hB2 x hx
  simpa using this
 by_cases hi:i < plN rows
 ·rw [decide_eq_true hi]
  rw [e,List.getElem?_append_left (by omega)] at h
  have hm:=List.mem_of_getElem? h
  rw [zeu (hok r (by rw [e]; exact List.mem_append_left _ hm)).1,hA r hm]
  rfl
 ·rw [decide_eq_false hi]
  rw [e,List.getElem?_append_right (by omega)] at h
  exact hB3 r (List.mem_of_getElem? h)
end K22
namespace L2
open PySem PySem.Spec PyProof.Rows
section
variable {X:Cx}
theorem qd (bt:Nat->Nat->Bool):∀ k,argBest bt k<=k
 | 0=>Nat.le_refl _
 | k + 1=>by
  unfold argBest
  split
  ·exact Nat.le_refl _
  ·exact Nat.le_succ_of_le (qd bt k)
end
section
variable {prog:Program} {w:World} {A:Around} {E:Value->Shared->Prop} {s:Shared}
end
section
variable {X:Cx}
end
theorem zP.intsAre:∀ {ns:List Int} {us:List Value},zP (ns.map V.int) us->IntsAre us ns
 | [],_,h=>by cases h; exact .nil
 | n :: ns,_,h=>by
  cases h with
  | cons r t=>
   obtain ⟨k,rfl⟩:=r
   exact .cons n k (zP.intsAre t)
theorem IntsAre.vals:∀ {us:List Value} {ns:List Int},IntsAre us ns->zP (ns.map V.int) us
 | _,_,.nil=>.nil
 | _,_,.cons n t h=>.cons ⟨t,rfl⟩ (IntsAre.vals h)
section
variable {X:Cx}
theorem wA:y1 X (.builtin "sorted") (fun xs H Q=>∃ (p:Addr) (ns:List Int),xs = [.ref p]/\SqL X.K H p (ns.map V.int)/\ns.length < 64/\∀ (ns':List Int) (l:Addr),ns'.Perm ns->ns'.Pairwise (·<=·)->H l = none->Q (.ref l) (upd H l (.lst (ns'.map V.int)))):=by
 intro pins s σ H xs us Q I r h
 obtain ⟨p,ns,rfl,hS,h64,q⟩:=h
 obtain ⟨u,rfl,ru⟩:=wB r
 cases ru
 obtain ⟨its,rv,hp,hz⟩:=I.list hS
 have hlen:its.length = ns.length:=by rw [<- rv.length,List.length_map]
 refine sorted_ints hp.isList (zP.intsAre rv) (by omega) fun out ns' hI hperm hsort=>?_
 obtain ⟨e,he⟩:=sortedAll_at s.heap its out
 refine ⟨.ref (s.heap.objs.size + 1),_,I.laid (t':=s.toks) (o:=.lst (ns'.map V.int)) (fun b o hb=>sortedAll_old hb) (Nat.le_succ _) ⟨?_,out.toList,e,IntsAre.vals hI,by simpa using he⟩,rfl,q ns' _ hperm hsort (I.hok.fresh (Nat.le_succ _))⟩
 rw [List.length_map,hperm.length_eq]
 have : 1000<=sizeLine:=by decide
 omega
end
end L2
namespace K22
open PySem L2 PyProof.Rows
theorem xY:∀ {a b:List Int},a.Perm b->a.Pairwise (·<=·)->b.Pairwise (·<=·)->a = b
 | [],b,h,_,_=>(List.nil_perm.mp h).symm ▸ rfl
 | x :: xs,[],h,_,_=>by have:=h.length_eq; simp at this
 | x :: xs,y :: ys,h,ha,hb=>by
  have hx:x ∈ y :: ys:=h.mem_iff.mp List.mem_cons_self
  have hy:y ∈ x :: xs:=h.mem_iff.mpr List.mem_cons_self
  have e:x = y:=by
   have h1:y<=x:=by
    rcases List.mem_cons.mp hx with e | hx
    ·omega
    ·exact (List.pairwise_cons.mp hb).1 x hx
   have h2:x<=y:=by
    rcases List.mem_cons.mp hy with e | hy
    ·omega
    ·exact (List.pairwise_cons.mp ha).1 y hy
   omega
  subst e
  rw [xY (List.Perm.cons_inv h) (List.pairwise_cons.mp ha).2 (List.pairwise_cons.mp hb).2]
theorem uU {K:Frag} {H:Hp} {n:Nat}:∀ (zs:List Int),Paired (zH K T' H n) (zs.map V.int) (zs.map fun z=>Dt.int z)
 | []=>.nil
 | z :: zs=>.cons .int (uU zs)
def vO:Sp:=fun vs H Q _=>∃ i:Int,vs = [.int i]/\Q (.bl true) H
def ut (K:Frag):Sp:=fun vs H Q _=>∃ (a:Addr) (ns:List Int),vs = [.ref a]/\H a = some (.lst (ns.map V.int))/\ns.length < 64/\ns.Pairwise (·<=·)/\∀ H',zm H H'->Q (.bl true) H'
section
variable {P:Program} {w:World} {K:Frag} {mg:Str->Option Value} {base:Heap} {f CF:Addr} {fd:FuncData} {c:C5}
theorem zfB (F:Fun K "_law_is_int" "_law_is_int" uI f fd) (T:zhn K mg):zE P w K mg base CX0 1 f fd ["_law_found"] vO:=by
 refine F.ok zgt (fun vs H Q E h=>?_) (fun cdv A outer s H vs Q E hr h=>?_)
 ·obtain ⟨i,rfl,_⟩:=h
  rfl
 obtain ⟨i,rfl,q⟩:=h
 refine ⟨_,zh (zA (xO (zid (cB xF T.isi boot_isinstance (ac (pv 0) (ac (ve (v:=.ty "bool") rfl T.bool PyProof.Rows.boot_bool rfl) zc)))) (uS (cB xF T.isi boot_isinstance (ac (pv 0) (ac (ve (v:=.ty "int") rfl T.int PyProof.Rows.boot_int rfl) zc)))))),?_⟩
 refine ⟨_,rfl,_,_,_,_,rfl,.int i,zbI K,_,rfl,_,rfl,?_⟩
 refine xI ?_
 exact ⟨_,rfl,_,_,_,_,rfl,.int i,zcI K,q⟩
theorem zdR:zu ["_law_found"] ["_law_found"] (ze wa):=⟨rfl,rfl,rfl,by decide +kernel,rfl,by decide +kernel,by decide +kernel⟩
theorem zct {g:Addr} {gd:FuncData} (F:Fun K "_law_numbers" "_law_numbers" wa f fd) (T:zb2 mg) (hso:mg "sorted" = none) (cI:zp P w K mg base 1 "_law_is_int" g gd ["_law_found"] vO):zE P w K mg base CX0 2 f fd ["_law_found"] (ut K):=by
 refine F.ok zdR (fun vs H Q E h=>?_) (fun cdv A outer s H vs Q E hr h=>?_)
 ·obtain ⟨a,ns,rfl,_⟩:=h
  rfl
 obtain ⟨a,ns,rfl,ha,h64,hs,q⟩:=h
 have hU:=hr.units
 refine ⟨_,zh (zA (xO (cB xF T.isi boot_isinstance (ac (pv 0) (ac (ve (v:=.ty "list") rfl T.list PyProof.Rows.boot_list rfl) zc))) (xO (yb (zaP hU) (pv 0) (cB wA hso PyProof.Rows.boot_sorted (ac (pv 0) zc)) (zt _)) (uS (yb (vZ hU) (xp [] ["_law_one"] [none] rfl ⟨rfl,rfl,rfl,rfl⟩ (z6 (pv 0)) (zW 0) rfl rfl rfl
   (fun pins fp s H C=>⟨zn (i:=0) zcy rfl (Or.inl rfl) (.inr rfl),yq (xg (yr (cF cI hr (ac (pv 0) zc)))),pv 0⟩)) (zM zc) (zt _)))))),?_⟩
 refine ⟨_,rfl,_,_,_,_,rfl,.lst ha,uc K,_,rfl,?_⟩
 refine xI ?_
 refine ⟨_,rfl,_,rfl,a,ns,rfl,SqL.of ha,h64,fun ns' l hp hs' hl=>?_⟩
 have e:=xY hp hs' hs
 subst e
 have s1:=zb hl (.lst (ns'.map V.int))
 have e1:upd H l (.lst (ns'.map V.int)) l = some (.lst (ns'.map V.int)):=za
 generalize upd H l (.lst (ns'.map V.int)) = H1 at s1 e1 |-
 refine ⟨a,l,0,.lst (ns'.map fun z=>Dt.int z),fun _=>True,fun _=>True,rfl,rfl,by decide,.lst True.intro (s1 _ _ ha) (uU ns'),.lst True.intro e1 (uU ns'),_,rfl,?_⟩
 refine xI ?_
 refine ⟨_,rfl,a,rfl,⟨_,SqL.of (s1 _ _ ha)⟩,fun D hD=>?_⟩
 refine jW (K:=K) (xs:=ns'.map V.int) ns' (fun _=>false) (fun n=>V.int n) hD (SqL.of (s1 _ _ ha)) (by rw [List.length_map]) (by rw [List.length_map]; omega) (fun j x y H' Nn S hx hy sH nn1 ss1=>?_) (fun H2 s2 hD2=>?_)
 ·rw [List.getElem?_map,hy] at hx
  have hx:V.int y = x:=Option.some.inj hx
  subst hx
  refine ⟨_,rfl,y,rfl,_,rfl,?_⟩
  exact ⟨fun e=>Bool.noConfusion e,fun _=>ss1 _ (zm.refl _) rfl⟩
 rw [List.filter_eq_nil_iff.mpr (fun _ _=>by decide)] at hD2
 refine ⟨zz0,fun l0 hl0=>?_⟩
 have s3:=zb hl0 (.lst [])
 have g3:upd H2 l0 (.lst []) l0 = some (.lst []):=za
 show zh9 false _ _ (upd H2 l0 (.lst [])) _
 generalize upd H2 l0 (.lst []) = H3 at s3 g3 |-
 exact ⟨D,l0,_,rfl,rfl,s3 _ _ hD2,g3,q _ (s1.trans (s2.trans s3))⟩
end
theorem vh {zs:List Str} {z:Str}:(zL (kvP (fpZ zs)) (.inr z)).isSome = decide (z ∈ zs):=by
 rw [xZ,Bool.eq_iff_iff,decide_eq_true_eq]
 constructor
 ·intro h
  have key:∀ (zs:List Str) (i:Nat) (acc:List (Str × Nat)),((fpF i acc zs).any fun p=>decide (p.1 = z)) = true->(acc.any fun p=>decide (p.1 = z)) = true\/z ∈ zs:=by
   intro zs
   induction zs with
   | nil=>exact fun i acc h=>.inl h
   | cons y ys ih=>
    intro i acc h
    rcases ih (i + 1) _ h with h | h
    ·split at h
     ·exact .inl h
     ·rw [List.any_append,Bool.or_eq_true] at h
      rcases h with h | h
      ·exact .inl h
      ·right
       simp at h
       rw [h]
       exact List.mem_cons_self
    ·exact .inr (List.mem_cons_of_mem _ h)
  rcases key zs 0 [] h with h | h
  ·simp at h
  ·exact h
 ·exact fun h=>zcP zs 0 [] h
theorem zdA {zs:List Str} {z:Str}:z ∈ (fpZ zs).map (·.1) ↔ z ∈ zs:=by
 have h1:((fpZ zs).any fun p=>decide (p.1 = z)) = decide (z ∈ zs):=by rw [<- xZ,vh]
 rw [zhl,Bool.eq_iff_iff,decide_eq_true_eq,decide_eq_true_eq] at h1
 exact h1
theorem zc4 {rows:List Rw} {bars:List Str} {many:Nat} {zs:List Str}:jx rows bars many (fpZ zs) = [] ↔ ∀ z ∈ zs,yT rows bars many z = none:=by
 unfold jx
 rw [List.filterMap_eq_nil_iff]
 constructor
 ·intro h z hz
  obtain ⟨p,hp,rfl⟩:=List.mem_map.mp (zdA.mpr hz)
  have:=h p hp
  rwa [Option.map_eq_none_iff] at this
 ·intro h p hp
  rw [Option.map_eq_none_iff]
  exact h _ (zdA.mp (List.mem_map.mpr ⟨p,hp,rfl⟩))
theorem j8 {fk:List (Key × V)}:∀ (zs:List Str) (i:Nat),ji fk i zs = [] ↔ ∀ j z,zs[j]? = some z->zL fk (.inr z) = some (.int ((i + j:Nat):Int))
 | [],i=>by simp [ji]
 | y :: ys,i=>by
  show (if zL fk (.inr y) = some (.int (i:Nat)) then [] else [(("doubled" : Str),i)]) ++ ji fk (i + 1) ys = [] ↔ _
  rw [List.append_eq_nil_iff,j8 ys (i + 1)]
  constructor
  ·rintro ⟨h1,h2⟩ j z hj
   cases j with
   | zero=>
    have:y = z:=by simpa using hj
    subst this
    split at h1
    next e=>exact e
    ·cases h1
   | succ j=>
    have:=h2 j z (by simpa using hj)
    rw [this]
    congr 3
    omega
  ·intro h
   refine ⟨?_,fun j z hj=>?_⟩
   ·have h0:=h 0 y rfl
    rw [Nat.add_zero] at h0
    rw [if_pos h0]
   ·have:=h (j + 1) z (by simpa using hj)
    rw [this]
    congr 3
    omega
theorem fpT {zs:List Str} {z:Str}:((fpF 0 [] zs).any fun p=>decide (p.1 = z)) = decide (z ∈ zs):=by
 have:=vh (zs:=zs) (z:=z)
 rw [xZ] at this
 exact this
theorem zaZ {zs:List Str}:ji (kvP (fpZ zs)) 0 zs = [] ↔ zs.Nodup:=by
 rw [j8,List.nodup_iff_pairwise_ne]
 constructor
 ·intro h
  rw [List.pairwise_iff_getElem]
  intro i j hi hj hij e
  have h1:=zf8 (zs:=zs) (i:=j) (z:=zs[j]) (List.getElem?_eq_getElem hj)
  have h2:=h j _ (List.getElem?_eq_getElem hj)
  rw [Nat.zero_add] at h2
  rw [decide_eq_true h2,fpT] at h1
  have hm:zs[j] ∈ zs.take j:=by
   rw [<- e]
   rw [List.mem_iff_getElem]
   exact ⟨i,by rw [List.length_take]; omega,by rw [List.getElem_take]⟩
  rw [decide_eq_true hm] at h1
  cases h1
 ·intro h j z hj
  have h1:=zf8 hj
  rw [fpT] at h1
  have hn:z ∉ zs.take j:=by
   intro hm
   obtain ⟨i,hi,e⟩:=List.mem_iff_getElem.mp hm
   rw [List.length_take] at hi
   rw [List.getElem_take] at e
   have hjl:j < zs.length:=(List.getElem?_eq_some_iff.mp hj).1
   have:=(List.pairwise_iff_getElem.mp h) i j (by omega) hjl (by omega)
   rw [List.getElem?_eq_getElem hjl] at hj
   exact this (e.trans (Option.some.inj hj).symm)
  rw [decide_eq_false hn] at h1
  rw [Nat.zero_add]
  exact of_decide_eq_true h1
theorem zbs {rows:List Rw} {many:Nat}:vw rows many = [] ↔ ((zD 2 0 rows).isSome = true\/many<=plN rows):=by
 unfold vw
 split
 next h=>simp [h]
 next h=>
  rw [List.map_eq_nil_iff,List.range_eq_nil]
  constructor
  ·intro e; right; omega
  ·rintro (e | e)
   ·exact absurd e h
   ·omega
theorem uX {many:Nat} {fk:List (Key × V)}:∀ (rows:List Rw) (i:Nat),wE many fk i rows = [] ↔ ∀ j r,rows[j]? = some r->xx r (i + j) many fk = false
 | [],i=>by simp [wE]
 | y :: ys,i=>by
  show (if xx y i many fk = true then [(("lacking" : Str),i)] else []) ++ wE many fk (i + 1) ys = [] ↔ _
  rw [List.append_eq_nil_iff,uX ys (i + 1)]
  constructor
  ·rintro ⟨h1,h2⟩ j z hj
   cases j with
   | zero=>
    have:y = z:=by simpa using hj
    subst this
    split at h1
    ·cases h1
    next e=>exact Bool.eq_false_iff.mpr e
   | succ j=>
    have:=h2 j z (by simpa using hj)
    rw [show i + (j + 1) = i + 1 + j by omega]
    exact this
  ·intro h
   refine ⟨?_,fun j z hj=>?_⟩
   ·have:=h 0 y rfl
    rw [Nat.add_zero] at this
    rw [if_neg (by rw [this]; decide)]
   ·have:=h (j + 1) z (by simpa using hj)
    rw [show i + 1 + j = i + (j + 1) by omega]
    exact this
theorem zeM {rows:List Rw} {bars:List Str} {many:Nat} {z:Str} (V1:yR rows bars) {l:Nat} {r:Rw} (hl:rows[l]? = some r) (hb:z5 r.k = true) (he:r.z = z) (hn:¬ (l < plN rows/\l < many)):yT rows bars many z = none:=by
 have nd:(nms rows).Nodup:=(List.nodup_append.mp V1.nd).1
 have hm:z ∈ nms rows:=by
  unfold nms
  exact List.mem_map.mpr ⟨r,List.mem_filter.mpr ⟨List.mem_of_getElem? hl,hb⟩,he⟩
 have hz:z ∉ bars:=fun h=>(List.nodup_append.mp V1.nd).2.2 z hm z h rfl
 rw [zdI,za9 nd hz hl hb he,if_neg (show ¬ l < min many (plN rows) by omega),if_pos rfl]
theorem zf2 {rows:List Rw} {bars names:List Str} {many:Nat} (h1:names.Nodup) (h2:(zD 2 0 rows).isSome = true\/many<=plN rows) (h3:∀ z ∈ names,yT rows bars many z = none) (h4:∀ (i:Nat) (r:Rw),rows[i]? = some r->fr r.k r.b = true\/(yL r.k = true/\i < many)\/(z5 r.k = true/\r.z ∈ names)):vy rows bars many names = []:=by
 unfold vy
 rw [List.append_eq_nil_iff,List.append_eq_nil_iff,List.append_eq_nil_iff,zaZ,zbs,zc4,uX]
 refine ⟨⟨⟨h1,h2⟩,h3⟩,fun i r hr=>?_⟩
 rw [zdw,vh,Nat.zero_add]
 rcases h4 i r hr with h | ⟨h,h'⟩ | ⟨h,h'⟩
 ·rw [h]; rfl
 ·rw [h,decide_eq_true h']; simp
 ·rw [h,decide_eq_true h']; simp
def tnK (many more:Int) (y:Rw × Nat):Bool:=(decide (y.1.k = 1) && decide (many<=(y.2:Int)) || decide (y.1.k = 3)) && (!y.1.b || decide (xa more (y.2:Int) % 2 = 0))
def tnF (rows:List Rw) (many more:Int):List Str:=(rows.zipIdx.filter (tnK many more)).map fun y=>y.1.z
theorem uq {rows:List Rw} {i:Nat} {r:Rw} (h:rows[i]? = some r):rows.zipIdx[i]? = some (r,i):=by
 rw [List.getElem?_zipIdx,h]
 simp
theorem zb6 {rows:List Rw} {y:Rw × Nat} (h:y ∈ rows.zipIdx):rows[y.2]? = some y.1:=by
 obtain ⟨i,hi⟩:=List.mem_iff_getElem?.mp h
 rw [List.getElem?_zipIdx] at hi
 cases hr:rows[i]? with
 | none=>rw [hr] at hi; cases hi
 | some r=>
  rw [hr] at hi
  have:(r,0 + i) = y:=Option.some.inj hi
  subst this
  rw [Nat.zero_add]
  exact hr
theorem zeQ {rows:List Rw} {many more:Int} {z:Str}:z ∈ tnF rows many more ↔ ∃ i r,rows[i]? = some r/\tnK many more (r,i) = true/\r.z = z:=by
 unfold tnF
 rw [List.mem_map]
 constructor
 ·rintro ⟨y,hy,rfl⟩
  obtain ⟨h1,h2⟩:=List.mem_filter.mp hy
  exact ⟨y.2,y.1,zb6 h1,h2,rfl⟩
 ·rintro ⟨i,r,hr,hk,rfl⟩
  exact ⟨(r,i),List.mem_filter.mpr ⟨List.mem_of_getElem? (uq hr),hk⟩,rfl⟩
theorem zeR {many more:Int} {y:Rw × Nat} (h:tnK many more y = true):z5 y.1.k = true:=by
 unfold tnK at h
 simp only [Bool.and_eq_true,Bool.or_eq_true,decide_eq_true_eq] at h
 rcases h.1 with h | h
 ·rw [h.1]; rfl
 ·rw [h]; rfl
theorem zeP {rows:List Rw} {many more:Int}:(tnF rows many more).Sublist (nms rows):=by
 have e:nms rows = (rows.zipIdx.filter fun y=>z5 y.1.k).map fun y=>y.1.z:=by
  unfold nms
  conv=>lhs; rw [<- List.zipIdx_map_fst 0 rows]
  rw [List.filter_map,List.map_map]
  rfl
 have e2:rows.zipIdx.filter (tnK many more) = (rows.zipIdx.filter fun y=>z5 y.1.k).filter (tnK many more):=by
  rw [List.filter_filter]
  refine List.filter_congr fun y _=>?_
  cases h:tnK many more y with
  | false=>rfl
  | true=>rw [zeR h]; rfl
 unfold tnF
 rw [e,e2]
 exact List.Sublist.map _ List.filter_sublist
theorem zhI {rows:List Rw} {many more:Int}:(tnF rows many more).length<=rows.length:=by
 unfold tnF
 rw [List.length_map]
 exact Nat.le_trans (List.length_filter_le _ _) (by rw [List.length_zipIdx]; exact Nat.le_refl _)
theorem zfc {rows:List Rw} {bars:List Str} (V1:yR rows bars):rows.filter (fun r=>yL r.k) = rows.take (plN rows):=by
 obtain ⟨A,B,e,hl,hA,hB⟩:=vN rows V1.ok V1.ord
 have hA2:A.filter (fun r=>yL r.k) = A:=List.filter_eq_self.mpr fun x hx=>by
  rw [zeu (V1.ok x (by rw [e]; exact List.mem_append_left _ hx)).1,hA x hx]
  rfl
 have hB2:B.filter (fun r=>yL r.k) = []:=List.filter_eq_nil_iff.mpr fun x hx=>by
  obtain ⟨i,hi⟩:=List.mem_iff_getElem?.mp hx
  have:=zbn V1.ok V1.ord (i:=A.length + i) (r:=x) (by rw [e,List.getElem?_append_right (by omega)]; rw [Nat.add_sub_cancel_left]; exact hi)
  rw [this,hl,decide_eq_false (by omega)]
  decide
 rw [<- hl]
 conv=>lhs; rw [e]
 conv=>rhs; rw [e]
 rw [List.filter_append,hA2,hB2,List.append_nil,List.take_left' rfl]
theorem zei {rows:List Rw} {bars:List Str} (V1:yR rows bars) {M M':Nat} {more:Int} {st names:List Str} (hM:M<=plN rows) (hM':M' = M\/(M = plN rows/\M<=M'/\(zD 2 0 rows).isSome = true)) (hlow:∀ (i:Nat) (r:Rw),rows[i]? = some r->r.k = 0->r.b = false->i < M)
  (hst:st = []\/((zD 4 0 rows).isSome = true/\st.Nodup/\∀ z ∈ st,z ∉ nms rows/\z ∉ bars)) (hp:names.Perm (tnF rows (M:Nat) more ++ st)):vy rows bars M' names = []:=by
 have nd:(nms rows).Nodup:=(List.nodup_append.mp V1.nd).1
 have nt:(tnF rows (M:Nat) more).Nodup:=List.Sublist.nodup zeP nd
 refine zf2 ?_ ?_ (fun z hz=>?_) (fun i r hr=>?_)
 ·rw [hp.nodup_iff]
  rcases hst with rfl | ⟨_,h1,h2⟩
  ·rw [List.append_nil]; exact nt
  ·exact List.nodup_append.mpr ⟨nt,h1,fun a ha b hb e=>(h2 b hb).1 (e ▸ zeP.subset ha)⟩
 ·rcases hM' with h | h
  ·right; omega
  ·exact .inl h.2.2
 ·rcases List.mem_append.mp (hp.mem_iff.mp hz) with h | h
  ·obtain ⟨i,r,hr,hk,he⟩:=zeQ.mp h
   refine zeM V1 hr (zeR hk) he ?_
   rintro ⟨h1,h2⟩
   have h3:=zbn V1.ok V1.ord hr
   rw [decide_eq_true h1] at h3
   unfold tnK at hk
   simp only [Bool.and_eq_true,Bool.or_eq_true,decide_eq_true_eq] at hk
   rcases hk.1 with hk | hk
   ·have:=hk.2
    omega
   ·rw [hk] at h3
    cases h3
  ·rcases hst with rfl | ⟨h0,h1,h2⟩
   ·cases h
   ·rw [zeL (h2 z h).2 (h2 z h).1,h0,if_pos rfl]
 ·cases hf:fr r.k r.b with
  | true=>exact .inl rfl
  | false=>
   right
   have rk:=V1.ok r (List.mem_of_getElem? hr)
   have hb:r.b = false/\r.k ≠ 2/\r.k ≠ 4:=by
    have h5:∀ k,k < 5->∀ b,fr k b = false->b = false/\k ≠ 2/\k ≠ 4:=by decide +kernel
    exact h5 r.k rk.1 r.b hf
   have hp3:∀ {i:Nat},rows[i]? = some r->tnK (M:Nat) more (r,i) = true->r.z ∈ names:=fun {i} hr hk=>hp.mem_iff.mpr (List.mem_append_left _ (zeQ.mpr ⟨i,r,hr,hk,rfl⟩))
   have k5:=rk.1
   by_cases k0:r.k = 0
   ·left
    refine ⟨by rw [k0]; rfl,?_⟩
    have:=hlow i r hr k0 hb.1
    omega
   ·by_cases k1:r.k = 1
    ·by_cases hi:i < M
     ·left
      exact ⟨by rw [k1]; rfl,by omega⟩
     ·right
      refine ⟨by rw [k1]; rfl,hp3 hr ?_⟩
      unfold tnK
      simp only [k1,hb.1,decide_eq_true (show ((M:Nat):Int)<=(i:Int) by omega)]
      rfl
    ·have k3:r.k = 3:=by omega
     right
     refine ⟨by rw [k3]; rfl,hp3 hr ?_⟩
     unfold tnK
     simp only [k3,hb.1]
     simp
def zat:Sp:=fun vs H Q _=>∃ (t la lb:Addr) (many more:Int) (us:List Addr) (rows:List Rw),vs = [.ref t,.int many,.int more]/\H t = some (.tup [.ref la,.ref lb])/\H la = some (.lst (us.map V.ref))/\Paired (TAt H) us rows/\(∀ r ∈ rows,r.ok)/\rows.length<=24/\∀ (l:Addr) (H':Hp),zm H H'->H l = none->H' l = some (.lst ((tnF rows many more).map V.str))->Q (.ref l) H'
theorem zhi:∀ k:Nat,k < 5->decide (V.str (kw k) = V.str "both") = decide (k = 1):=by decide +kernel
theorem zeS:∀ k:Nat,k < 5->decide (V.str (kw k) = V.str "tag") = decide (k = 3):=by decide +kernel
theorem zjx {x:V} {k:Nat} {b:Bool} (h:k = 1\/k = 3):atI (jL k x b) 2 = some (.bl b):=by rcases h with rfl | rfl <;> rfl
section
variable {P:Program} {w:World} {K:Frag} {mg:Str->Option Value} {base:Heap} {f CF:Addr} {fd:FuncData} {c:C5}
theorem jm:zu ["_law_told","_law_many","_law_more","_law_names","_law_at","_law_one"] ["_law_told","_law_many","_law_more"] (ze ux):=⟨rfl,rfl,rfl,by decide +kernel,rfl,by decide +kernel,by decide +kernel⟩
theorem zfp {g1:Addr} {d1:FuncData} (F:Fun K "_law_told_names" "_law_told_names" ux f fd) (hen:mg "enumerate" = none) (cM:zp P w K mg base 1 "_law_mix" g1 d1 ["_law_cell_here","_law_k"] jA):zE P w K mg base CX0 2 f fd ["_law_told","_law_many","_law_more"] zat:=by
 refine F.ok jm (fun vs H Q E h=>?_) (fun cdv A outer s H vs Q E hr h=>?_)
 ·obtain ⟨t,la,lb,many,more,us,rows,rfl,_⟩:=h
  rfl
 obtain ⟨t,la,lb,many,more,us,rows,rfl,ht,hla,hu,hok,l24,q⟩:=h
 refine ⟨_,zd (zw (i:=3) jm.nd rfl (Or.inl rfl) (zM zc))
  (zd (y9 PassesOwn.never rfl (xc rfl hen (ac (zy zr (pv 0) zg (fun _ _=>rfl)) zc)) (yp rfl (zv (zn (i:=4) jm.nd rfl (Or.inl rfl)) (zv (zn (i:=5) jm.nd rfl (Or.inl rfl)) z7)))
   (zh (zI (PW.pt (xW (PW.pt (xn (zk zZ (zy zr (pv 5) zg (fun _ _=>rfl)) zl (zt _)) (yQ (zk zhy (pv 4) (pv 1) (zt _))))) (xH (zk zZ (zy zr (pv 5) zg (fun _ _=>rfl)) zl (zt _)))))
    (zh (zI (PW.pt (xW (xg (yr (zy zr (pv 5) zg (fun _ _=>rfl)))) (xH (zk zZ (zx yd (cF cM hr (ac (pv 2) (ac (pv 4) zc))) zg) zg (zt _)))))
     (zh (zJ (yV PySem.F.plainAttrs_list PySem.F.slot_list_append PySem.F.type_list_append zQ (pv 3) (ac (zy zr (pv 5) zg (fun _ _=>rfl)) zc)))) zC)) zC)))
  (zh (zA (pv 3)))),?_⟩
 refine ⟨zz0,fun l hl=>?_⟩
 have s1:=zb hl (.lst [])
 have g1:upd H l (.lst []) l = some (.lst []):=za
 dsimp only [yZ]
 generalize upd H l (.lst []) = H1 at s1 g1 |-
 have lu:us.length = rows.length:=hu.length
 refine ⟨_,rfl,t,_,0,.ref la,rfl,rfl,SqT.of (s1 _ _ ht),rfl,la,rfl,⟨_,SqL.of (s1 _ _ hla)⟩,wk (K:=K) (a:=la) (xs:=us.map V.ref) (fun i σ H'=>∃ (zs:List Str) (v4 v5:Option V),σ = [some (.ref t),some (.int many),some (.int more),some (.ref l),v4,v5]/\zm H H'/\H' l = some (.lst (zs.map V.str))/\zs = ((rows.zipIdx.take i).filter (tnK many more)).map fun y=>y.1.z) ⟨[],_,_,rfl,s1,g1,rfl⟩ (fun i σ H' _ ⟨_,_,_,_,sH,_⟩=>SqL.of (sH _ _ hla)) ?_ ?_⟩
 ·rintro i x tn σ H2 hx ⟨zs,v4,v5,rfl,s2,e2,l2⟩ htn
  obtain ⟨u,hu',rfl⟩:=xm hx
  obtain ⟨r,hr',tr⟩:=yj hu hu'
  have rk:=hok r (List.mem_of_getElem? hr')
  have hi:i < 24:=by have:=(List.getElem?_eq_some_iff.mp hr').1; omega
  have sp:=zb htn (.tup [.int (i:Nat),.ref u])
  refine ⟨tn,_,rfl,SqT.of za,rfl,_,_,rfl,_,_,rfl,rfl,?_⟩
  have s3:=s2.trans sp
  have e3:=sp _ _ e2
  generalize upd H2 tn (.tup [.int (i:Nat),.ref u]) = H3 at sp s3 e3 |-
  have tu:H3 u = some (.tup (jL r.k (.str r.z) r.b)):=s3 _ _ tr
  have tk:rows.zipIdx.take (i + 1) = rows.zipIdx.take i ++ [(r,i)]:=by
   have h:=uq hr'
   have hi':=(List.getElem?_eq_some_iff.mp h).1
   rw [List.take_succ_eq_append_getElem hi',(List.getElem?_eq_some_iff.mp h).2]
  have lzs:zs.length<=24:=by
   rw [l2,List.length_map]
   refine Nat.le_trans (List.length_filter_le _ _) ?_
   rw [List.length_take]
   omega
  have skip:tnK many more (r,i) = false->∀ H',zm H H'->H' l = some (.lst (zs.map V.str))->∃ (zs':List Str) (v4 v5:Option V),[some (V.ref t),some (.int many),some (.int more),some (.ref l),some (.int (i:Nat)),some (.ref u)] = [some (V.ref t),some (.int many),some (.int more),some (.ref l),v4,v5]/\zm H H'/\H' l = some (.lst (zs'.map V.str))/\zs' = ((rows.zipIdx.take (i + 1)).filter (tnK many more)).map fun y=>y.1.z:=fun hk H' sH e=>⟨zs,_,_,rfl,sH,e,by rw [tk,List.filter_append,List.filter_cons,hk,if_neg Bool.false_ne_true,List.filter_nil,List.append_nil]; exact l2⟩
  have add:tnK many more (r,i) = true->∃ (zs':List Str) (v4 v5:Option V),[some (V.ref t),some (.int many),some (.int more),some (.ref l),some (.int (i:Nat)),some (.ref u)] = [some (V.ref t),some (.int many),some (.int more),some (.ref l),v4,v5]/\zm H (upd H3 l (.lst (zs.map V.str ++ [.str r.z])))/\upd H3 l (.lst (zs.map V.str ++ [.str r.z])) l = some (.lst (zs'.map V.str))/\zs' = ((rows.zipIdx.take (i + 1)).filter (tnK many more)).map fun y=>y.1.z:=fun hk=>⟨zs ++ [r.z],_,_,rfl,fun b o e=>by rw [zi (zf e hl)]; exact s3 _ _ e,by rw [za,List.map_append]; rfl,by rw [tk,List.filter_append,List.filter_cons,hk,if_pos rfl,List.filter_nil,List.map_append,<- l2]; rfl⟩
  have lz:(zs.map V.str).length < sizeLine:=zF (by rw [List.length_map]; omega)
  have tke:tnK many more (r,i) = ((decide (r.k = 1) && decide (many<=((i:Nat):Int)) || decide (r.k = 3)) && (!r.b || decide (xa more ((i:Nat):Int) % 2 = 0))):=rfl
  refine ⟨_,rfl,u,_,0,_,rfl,rfl,SqT.of tu,xU rk.1,rfl,_,rfl,?_⟩
  rw [zhi r.k rk.1]
  by_cases k1:r.k = 1
  ·refine dT k1 ?_
   refine ⟨_,rfl,_,rfl,_,_,rfl,rfl,_,rfl,?_⟩
   by_cases hm:many<=((i:Nat):Int)
   ·refine dT hm ?_
    refine ⟨_,rfl,u,_,2,_,rfl,rfl,SqT.of tu,zjx (.inl k1),_,rfl,?_⟩
    cases hb:r.b with
    | false=>
     refine xI ?_
     exact ⟨_,rfl,.inl ⟨rfl,_,SqL.of e3⟩,_,rfl,u,_,1,_,rfl,rfl,SqT.of tu,zcC,l,_,_,rfl,rfl,e3,lz,add (by rw [tke,k1,decide_eq_true hm,hb]; rfl)⟩
    | true=>
     refine yk ?_
     refine ⟨_,rfl,_,rfl,more,_,rfl,_,_,rfl,rfl,zp2,rfl,_,rfl,?_⟩
     by_cases h2:xa more ((i:Nat):Int) % 2 = 0
     ·refine dT (congrArg V.int h2) ?_
      exact ⟨_,rfl,.inl ⟨rfl,_,SqL.of e3⟩,_,rfl,u,_,1,_,rfl,rfl,SqT.of tu,zcC,l,_,_,rfl,rfl,e3,lz,add (by rw [tke,k1,decide_eq_true hm,h2]; simp)⟩
     ·refine dF (fun e=>h2 (V.int.inj e)) ?_
      exact skip (by rw [tke,hb,decide_eq_false h2]; simp) _ s3 e3
   ·refine dF hm ?_
    refine ⟨_,rfl,u,_,0,_,rfl,rfl,SqT.of tu,xU rk.1,rfl,_,rfl,?_⟩
    rw [zeS r.k rk.1]
    refine dF (by omega) ?_
    exact skip (by rw [tke,k1,decide_eq_false hm]; simp) _ s3 e3
  ·refine dF k1 ?_
   refine ⟨_,rfl,u,_,0,_,rfl,rfl,SqT.of tu,xU rk.1,rfl,_,rfl,?_⟩
   rw [zeS r.k rk.1]
   by_cases k3:r.k = 3
   ·refine dT k3 ?_
    refine ⟨_,rfl,u,_,2,_,rfl,rfl,SqT.of tu,zjx (.inr k3),_,rfl,?_⟩
    cases hb:r.b with
    | false=>
     refine xI ?_
     exact ⟨_,rfl,.inl ⟨rfl,_,SqL.of e3⟩,_,rfl,u,_,1,_,rfl,rfl,SqT.of tu,zcC,l,_,_,rfl,rfl,e3,lz,add (by rw [tke,k3,hb]; simp)⟩
    | true=>
     refine yk ?_
     refine ⟨_,rfl,_,rfl,more,_,rfl,_,_,rfl,rfl,zp2,rfl,_,rfl,?_⟩
     by_cases h2:xa more ((i:Nat):Int) % 2 = 0
     ·refine dT (congrArg V.int h2) ?_
      exact ⟨_,rfl,.inl ⟨rfl,_,SqL.of e3⟩,_,rfl,u,_,1,_,rfl,rfl,SqT.of tu,zcC,l,_,_,rfl,rfl,e3,lz,add (by rw [tke,k3,h2]; simp)⟩
     ·refine dF (fun e=>h2 (V.int.inj e)) ?_
      exact skip (by rw [tke,hb,decide_eq_false h2]; simp) _ s3 e3
   ·refine dF k3 ?_
    exact skip (by rw [tke,decide_eq_false k1,decide_eq_false k3]; rfl) _ s3 e3
 ·rintro σ H2 ⟨zs,v4,v5,rfl,s2,e2,l2⟩
  refine ⟨_,rfl,q l H2 s2 hl ?_⟩
  rw [e2,l2,List.length_map,lu,show rows.length = rows.zipIdx.length by rw [List.length_zipIdx],List.take_length]
  rfl
end
end K22
namespace L2
open PySem PySem.Spec PyProof.Rows
section
variable {X:Cx}
theorem vH (g:Nat->Int):∀ k i,i<=k->g i<=g (argBest (fun i j=>decide (g i > g j)) k)
 | 0,i,h=>by
  have:i = 0:=by omega
  subst this
  exact Int.le_refl _
 | k + 1,i,h=>by
  unfold argBest
  by_cases hb:g (k + 1) > g (argBest (fun i j=>decide (g i > g j)) k)
  ·rw [if_pos (decide_eq_true hb)]
   by_cases hi:i = k + 1
   ·subst hi; exact Int.le_refl _
   ·have:=vH g k i (by omega)
    omega
  ·rw [if_neg (by rw [decide_eq_false hb]; decide)]
   by_cases hi:i = k + 1
   ·subst hi; omega
   ·exact vH g k i (by omega)
theorem zeE (hc:X.calm = true):y1 X (.builtin "max") (fun xs H Q=>∃ (p:Addr) (ns:List Int),xs = [.ref p]/\SqL X.K H p (ns.map V.int)/\ns ≠ []/\∀ m ∈ ns,(∀ n ∈ ns,n<=m)->Q (.int m) H):=by
 intro pins s σ H xs us Q I r h
 obtain ⟨p,ns,rfl,hS,hne,q⟩:=h
 obtain ⟨u,rfl,ru⟩:=wB r
 cases ru
 obtain ⟨its,rv,hp,hz⟩:=I.list hS
 have hlen:its.length = ns.length:=by rw [<- rv.length,List.length_map]
 have hlt:p < s.heap.objs.size:=by obtain ⟨_,e,_⟩:=hp.isList; exact Heap.lt_size e
 have hpne:p ≠ s.heap.objs.size:=Nat.ne_of_lt hlt
 have hn0 : 0 < ns.length:=List.length_pos_iff.mpr hne
 have hval:∀ (i:Nat) (v:Value),its.toArray[i]? = some v->∃ t,v = .int (ns.getD i 0) t:=fun i v hP=>by
  have hv:its[i]? = some v:=by simpa using hP
  have hi:i < ns.length:=by rw [<- hlen]; exact (List.getElem?_eq_some_iff.mp hv).1
  obtain ⟨u',e1,t,e2⟩:=rv.get (i:=i) (x:=V.int ns[i]) (by rw [List.getElem?_map,List.getElem?_eq_getElem hi]; rfl)
  rw [hv] at e1
  cases e1
  refine ⟨t,?_⟩
  rw [e2,List.getD_eq_getElem?_getD,List.getElem?_eq_getElem hi]
  rfl
 refine call_max_walk (wpAny_pyIter_list hp.isList ?_)
 refine ⟨s.heap.objs.size,_,_,_,_,_,_,rfl,Walks.list (A:=X.A.in1) (I.ok.hd hc) s.heap.objs.size p hpne its.toArray,⟨⟨_,Heap.get?_push_size _ rfl,rfl,rfl⟩,hp.isList.push _⟩,fun b hb=>?_,by rw [List.size_toArray,hlen]; exact hn0,CmpOf.ints_gt (fun i=>ns.getD i 0) hval,fun v h' tk hP hk=>?_⟩
 ·show b < (s.heap.push _).objs.size
  rw [Heap.size_push]
  rcases List.mem_cons.mp hb with rfl | hb
  ·exact Nat.lt_succ_self _
  ·rcases List.mem_cons.mp hb with rfl | hb
   ·exact Nat.lt_succ_of_lt hlt
   ·cases hb
 ·obtain ⟨t,rfl⟩:=hval _ _ hP
  have hb:=qd (fun i j=>decide (ns.getD i 0 > ns.getD j 0)) (its.toArray.size - 1)
  have hg:=vH (fun i=>ns.getD i 0) (its.toArray.size - 1)
  generalize argBest (fun i j=>decide (ns.getD i 0 > ns.getD j 0)) (its.toArray.size - 1) = k at hb hP hg |-
  rw [List.size_toArray,hlen] at hb hg
  have hkl:k < ns.length:=by omega
  have ek:ns.getD k 0 = ns[k]:=by rw [List.getD_eq_getElem?_getD,List.getElem?_eq_getElem hkl]; rfl
  refine ⟨.int (ns.getD k 0),H,I.kept (old_kept hk),⟨t,rfl⟩,q _ ?_ fun n hn=>?_⟩
  ·rw [ek]
   exact List.getElem_mem hkl
  ·obtain ⟨i,hi,rfl⟩:=List.mem_iff_getElem.mp hn
   have:=hg i (by omega)
   rw [List.getD_eq_getElem?_getD,List.getElem?_eq_getElem hi] at this
   exact this
end
end L2
namespace K22
open PySem L2 PyProof.Rows
theorem zc2 {α : Type} {R:Addr->α->Prop} {us:List Addr} {ms:List α} (h:Paired R us ms) (g : α->V):(((us.zip ms).filter fun _=>true).map fun p=>g p.2) = ms.map g:=by
 induction h with
 | nil=>rfl
 | cons r t ih=>
  rw [List.zip_cons_cons,List.filter_cons,if_pos rfl,List.map_cons,List.map_cons,ih]
def uu (K:Frag):Sp:=fun vs H Q _=>∃ (t la lb pa:Addr) (cell more:Int) (us:List Addr) (rows:List Rw) (bars pool:List Str),vs = [.ref t,.ref pa,.int cell,.int more]/\H t = some (.tup [.ref la,.ref lb])/\H la = some (.lst (us.map V.ref))/\Paired (TAt H) us rows/\H lb = some (.lst (bars.map V.str))/\yR rows bars/\H pa = some (.lst (pool.map V.str))/\pool.length = 26/\pool.Nodup/\Builtin.Int.intBits cell<=1048600/\Builtin.Int.intBits more<=1048600/\
 ∀ (p l1 l2:Addr) (ts:List Int) (ys:List V) (ps:List (Str × Int)) (H':Hp),zm H H'->H' p = some (.tup [.ref l1,.ref l2])->H' l1 = some (.lst (ts.map V.int))->H' l2 = some (.lst ys)->Paired (zH K T' H' 1) ys (ps.map xb)->ts.length<=30->ps.length<=50->vy rows bars ts.length (ps.map (·.1)) = []->Q (.ref p) H'
theorem zeK {R:Addr->Rw->Prop} {us:List Addr} {rows:List Rw} (h:Paired R us rows):(((us.zip rows).filter fun p=>z5 p.2.k).map fun p=>V.str p.2.z) = (nms rows).map V.str:=by
 unfold nms
 induction h with
 | nil=>rfl
 | @cons u r us rows _ _ ih=>
  cases hk:z5 r.k
  ·rw [List.zip_cons_cons,List.filter_cons,if_neg (by rw [hk]; decide),ih,List.filter_cons,if_neg (by rw [hk]; decide)]
  ·rw [List.zip_cons_cons,List.filter_cons,if_pos hk,List.map_cons,ih,List.filter_cons,if_pos hk]
   rfl
theorem zg2 (rows:List Rw):(nms rows).length<=rows.length:=by
 unfold nms
 rw [List.length_map]
 exact List.length_filter_le _ _
theorem zca {pool sh:List Str} {g:Str × Nat->Bool} (hp:pool.Nodup):((pool.zipIdx.filter fun y=>decide (y.1 ∉ sh) && g y).map fun y=>y.1).Nodup/\(∀ z ∈ (pool.zipIdx.filter fun y=>decide (y.1 ∉ sh) && g y).map fun y=>y.1,z ∉ sh)/\((pool.zipIdx.filter fun y=>decide (y.1 ∉ sh) && g y).map fun y=>y.1).length<=pool.length:=by
 have e:(pool.zipIdx.map fun y=>y.1) = pool:=List.zipIdx_map_fst 0 pool
 have sb:((pool.zipIdx.filter fun y=>decide (y.1 ∉ sh) && g y).map fun y=>y.1).Sublist pool:=by
  conv=>rhs; rw [<- e]
  exact List.Sublist.map _ List.filter_sublist
 refine ⟨sb.nodup hp,fun z hz=>?_,sb.length_le⟩
 obtain ⟨y,hy,rfl⟩:=List.mem_map.mp hz
 have:=(List.mem_filter.mp hy).2
 rw [Bool.and_eq_true] at this
 exact of_decide_eq_true this.1
theorem jw {R:Addr->Rw->Prop}:∀ {us:List Addr} {rows:List Rw},Paired R us rows->∀ (keep:Rw->Bool),∃ us':List Addr,(((us.zip rows).filter fun p=>keep p.2).map fun p=>V.ref p.1) = us'.map V.ref/\Paired R us' (rows.filter keep)
 | _,_,.nil,_=>⟨[],rfl,.nil⟩
 | _,_,.cons (a:=u) (b:=r) h t,keep=>by
  obtain ⟨us',e,p⟩:=jw t keep
  cases hk:keep r
  ·refine ⟨us',?_,?_⟩
   ·rw [List.zip_cons_cons,List.filter_cons,if_neg (by rw [hk]; decide)]; exact e
   ·rw [List.filter_cons,if_neg (by rw [hk]; decide)]; exact p
  ·refine ⟨u :: us',?_,?_⟩
   ·rw [List.zip_cons_cons,List.filter_cons,if_pos hk,List.map_cons,e]; rfl
   ·rw [List.filter_cons,if_pos hk]; exact .cons h p
theorem zbh:∀ k:Nat,k < 5->decide (V.str (kw k) = V.str "seat") = decide (k = 0):=by decide +kernel
theorem zjv {x:V} {k:Nat} {b:Bool} (h:k = 0):atI (jL k x b) 2 = some (.bl b):=by subst h; rfl
section
variable {P:Program} {w:World} {K:Frag} {mg:Str->Option Value} {base:Heap} {f CF:Addr} {fd:FuncData} {c:C5}
theorem zju:([Str.ofString "_law_at",Str.ofString "_law_one"]:List Str).Nodup:=by decide +kernel
theorem zfL:([Str.ofString "_law_k",Str.ofString "_law_name",Str.ofString "_law_more",Str.ofString "_law_shut"]:List Str).Nodup:=by decide +kernel
theorem zke:([Str.ofString "_law_k",Str.ofString "_law_cell_here"]:List Str).Nodup:=by decide +kernel
theorem zhA:([Str.ofString "_law_k",Str.ofString "_law_name",Str.ofString "_law_more"]:List Str).Nodup:=by decide +kernel
theorem wC:zu ["_law_told","_law_pool_here","_law_cell_here","_law_more","_law_sorts","_law_places","_law_low","_law_many","_law_names","_law_shut","_law_turn","_law_things"] ["_law_told","_law_pool_here","_law_cell_here","_law_more"] (ze wc):=⟨rfl,rfl,rfl,by decide +kernel,rfl,by decide +kernel,by decide +kernel⟩
theorem zcv {g1 g2 g3:Addr} {d1 d2 d3:FuncData} (F:Fun K "_law_fitting" "_law_fitting" wc f fd) (U:zb2 mg) (cM:zp P w K mg base 1 "_law_mix" g1 d1 ["_law_cell_here","_law_k"] jA) (cT:zp P w K mg base 2 "_law_thing" g2 d2 ["_law_cell_here","_law_k"] zau) (cN:zp P w K mg base 2 "_law_told_names" g3 d3 ["_law_told","_law_many","_law_more"] zat):zE P w K mg base CX0 3 f fd ["_law_told","_law_pool_here","_law_cell_here","_law_more"] (uu K):=by
 refine F.ok wC (fun vs H Q E h=>?_) (fun cdv A outer s H vs Q E hr h=>?_)
 ·obtain ⟨t,la,lb,pa,cell,more,us,rows,bars,pool,rfl,_⟩:=h
  rfl
 obtain ⟨t,la,lb,pa,cell,more,us,rows,bars,pool,rfl,ht,hla,hu,hlb,V1,hpa,l26,npool,b1,b2,q⟩:=h
 have hr1:z8 1 _:=hr.mono (by decide)
 have l24:=V1.l24
 have hok:=V1.ok
 refine ⟨_,zd (jM (i:=4) [] ["_law_one"] [none] wC.nd rfl (Or.inl rfl) rfl ⟨rfl,rfl,rfl,rfl⟩ (z6 (zy zr (pv 0) zg (fun _ _=>rfl))) (zW 0) rfl rfl rfl
   (fun pins fp s H C=>⟨zn (i:=0) zcy rfl (Or.inl rfl) (.inr rfl),xz,zy (r:=uP K) zr (pv 0) zg (fun _ _=>rfl)⟩))
  (zd (jM (i:=5) [] ["_law_one"] [none] wC.nd rfl (Or.inl rfl) rfl ⟨rfl,rfl,rfl,rfl⟩ (z6 (zy zr (pv 0) zg (fun _ _=>rfl))) (zW 0) rfl rfl rfl
   (fun pins fp s H C=>⟨zn (i:=0) zcy rfl (Or.inl rfl) (.inr rfl),yq (zk (r:=rIn K false) zU (zy (r:=uP K) zr (pv 0) zg (fun _ _=>rfl)) (zM (ac zl (ac zl zc))) (by with_unfolding_all rfl)),pv 0⟩))
  (zd (zw (i:=6) wC.nd rfl (Or.inl rfl) (cB (zeE rfl) U.max boot_max (ac (zx yW (zM (ac zg zc)) (xp [] ["_law_at","_law_one"] [none,none] rfl ⟨rfl,rfl,rfl,rfl⟩ (xc rfl U.en (ac (pv 5) zc)) (y4 (K:=K) (n:=2) 0 1) rfl rfl rfl
   (fun pins fp s H C=>⟨yp rfl (zv (zn (i:=0) zju rfl (Or.inl rfl) (.inr rfl)) (zv (zn (i:=1) zju rfl (Or.inl rfl) (.inr rfl)) z7)),yq (PW.pt (xn (zk zZ (zy (r:=uP K) zr (pv 1) zg (fun _ _=>rfl)) zl (zt _)) (yQ (xg (yr (zy (r:=uP K) zr (pv 1) zg (fun _ _=>rfl))))))),zx yt (pv 0) zg⟩))) zc)))
  (zd (zw (i:=7) wC.nd rfl (Or.inl rfl) (zx yt (pv 6) (zx yd (pv 2) (zx yt (zx jP (cB zB U.len PySem.boot_len (ac (pv 5) zc)) (pv 6)) zg))))
  (zd (zw (i:=8) wC.nd rfl (Or.inl rfl) (cF cN hr (ac (pv 0) (ac (pv 7) (ac (pv 3) zc)))))
  (zd (zI (PW.pt (xn (zk zU zl (pv 4) (by with_unfolding_all rfl)) (yQ (zk zZ (pv 7) (cB zB U.len PySem.boot_len (ac (pv 5) zc)) (zt _))))) (zh (zw (i:=7) wC.nd rfl (Or.inl rfl) (zx yt (pv 7) (zx yd (zx xK (pv 2) zg) zg)))) zC)
  (zd (zI (zk zU zl (pv 4) (by with_unfolding_all rfl))
   (zd (zw (i:=9) wC.nd rfl (Or.inr rfl) (zx yW (xp [] ["_law_one"] [none] rfl ⟨rfl,rfl,rfl,rfl⟩ (z6 (zy zr (pv 0) zg (fun _ _=>rfl))) (zW 0) rfl rfl rfl
    (fun pins fp s H C=>⟨zn (i:=0) zcy rfl (Or.inl rfl) (.inr rfl),yq (zk (r:=rIn K false) zU (zy (r:=uP K) zr (pv 0) zg (fun _ _=>rfl)) (zM (ac zl (ac zl zc))) (by with_unfolding_all rfl)),zy (r:=uP K) zr (pv 0) zg (fun _ _=>rfl)⟩)) (zy zr (pv 0) zg (fun _ _=>rfl))))
   (zh (zw (i:=8) wC.nd rfl (Or.inl rfl) (zx yW (pv 8) (xp ["_law_shut","_law_more"] ["_law_k","_law_name","_law_more","_law_shut"] [none,none,some 3,some 9] rfl ⟨rfl,rfl,rfl,rfl⟩ (xc rfl U.en (ac (pv 1) zc)) (y4 (K:=K) (n:=2) 0 1) rfl rfl rfl
    (fun pins fp s H C=>⟨yp rfl (zv (zn (i:=0) zfL rfl (Or.inl rfl) (.inr rfl)) (zv (zn (i:=1) zfL rfl (Or.inl rfl) (.inr rfl)) z7)),yq (PW.pt (xn (zk (r:=rIn K true) vY (pv 1) (pv 3) (by with_unfolding_all rfl)) (yQ (zk zZ (zx yd (cF cM hr1 (ac (pv 2) (ac (zx yt (pv 0) zg) zc))) zg) zg (zt _))))),pv 1⟩)))))) zC)
  (zd (zw (i:=10) wC.nd rfl (Or.inl rfl) (zx yd (pv 3) (zx yt (cB zB U.len PySem.boot_len (ac (pv 8) zc)) zg)))
  (zd (zw (i:=8) wC.nd rfl (Or.inl rfl) (zx yW (z9 yw (pv 8) (yn (pv 10)) yx) (z9 yw (pv 8) yx (yn (pv 10)))))
  (zd (jM (i:=11) ["_law_cell_here"] ["_law_k","_law_cell_here"] [none,some 2] wC.nd rfl (Or.inl rfl) rfl ⟨rfl,rfl,rfl,rfl⟩ (vd rfl U.range (ac (pv 7) zc)) (zW 0) rfl rfl rfl
   (fun pins fp s H C=>⟨zn (i:=0) zke rfl (Or.inl rfl) (.inr rfl),xz,cF cT hr (ac (pv 1) (ac (pv 0) zc))⟩))
  (zh (zA (zR (ac (pv 11) (ac (xp ["_law_more"] ["_law_k","_law_name","_law_more"] [none,none,some 3] rfl ⟨rfl,rfl,rfl,rfl⟩ (xc rfl U.en (ac (pv 8) zc)) (y4 (K:=K) (n:=2) 0 1) rfl rfl rfl
   (fun pins fp s H C=>⟨yp rfl (zv (zn (i:=0) zhA rfl (Or.inl rfl) (.inr rfl)) (zv (zn (i:=1) zhA rfl (Or.inl rfl) (.inr rfl)) z7)),xz,zR (ac (pv 1) (ac (cF cT hr (ac (pv 2) (ac (pv 0) zc))) zc))⟩)) zc)))))))))))))),?_⟩
 refine ⟨_,rfl,t,_,0,.ref la,rfl,rfl,SqT.of ht,rfl,la,rfl,⟨_,SqL.of hla⟩,fun Ds hDs=>?_⟩
 refine vE (K:=K) TAt (fun _=>true) (fun _ r=>.str (kw r.k)) hDs hla hu (by omega) (fun i u r H' Nn S hu' hr' tr sH n1 s1'=>?_) (fun H1 s1 hDs1=>?_)
 ·have rk:=hok r (List.mem_of_getElem? hr')
  refine ⟨fun _=>?_,fun e=>Bool.noConfusion e⟩
  exact ⟨_,rfl,u,_,0,_,rfl,rfl,SqT.of (sH _ _ tr),xU rk.1,n1 _ (zm.refl _) rfl⟩
 have hDs1:H1 Ds = some (.lst ((zaF rows).map V.str)):=by rw [hDs1,zc2 hu (fun r=>V.str (kw r.k)),zaF,List.map_map]; rfl
 refine ⟨_,rfl,t,_,0,.ref la,rfl,rfl,SqT.of (s1 _ _ ht),rfl,la,rfl,⟨_,SqL.of (s1 _ _ hla)⟩,fun Dp hDp=>?_⟩
 refine vE (K:=K) TAt (fun r=>yL r.k) (fun u _=>.ref u) hDp (s1 _ _ hla) (zK s1 hu) (by omega) (fun i u r H' Nn S hu' hr' tr sH n1 s1'=>?_) (fun H2 s2 hDp2=>?_)
 ·have rk:=hok r (List.mem_of_getElem? hr')
  have tu:=sH _ _ tr
  refine ⟨_,rfl,u,_,0,_,rfl,rfl,SqT.of tu,xU rk.1,zz2,fun l hl=>?_⟩
  have s2:=zb hl (.lst [.str "seat",.str "both"])
  refine ⟨l,_,rfl,.inl (SqL.of za),rfl,rfl,_,rfl,?_⟩
  rw [if_neg Bool.false_ne_true,zaU rk.1]
  exact ⟨fun e=>⟨_,rfl,n1 _ s2 e⟩,fun e=>s1' _ s2 e⟩
 have s02:=s1.trans s2
 obtain ⟨up,eup,hup⟩:=jw (zK s02 hu) (fun r=>yL r.k)
 rw [eup] at hDp2
 have lup:up.length<=24:=by rw [hup.length]; exact Nat.le_trans (List.length_filter_le _ _) l24
 have okp:∀ r ∈ rows.filter (fun r=>yL r.k),r.ok:=fun r h=>hok r (List.mem_filter.mp h).1
 rw [zfc V1] at hup okp
 have lupl:up.length = plN rows:=by
  rw [hup.length,List.length_take]
  have:plN rows<=rows.length:=List.length_filter_le _ _
  omega
 obtain ⟨rp,erp⟩:∃ rp,rp = rows.take (plN rows):=⟨_,rfl⟩
 rw [<- erp] at hup okp
 refine ⟨zz1,fun l0 hl0=>?_⟩
 have s3:=zb hl0 (.lst [.int 0])
 have e3:upd H2 l0 (.lst [.int 0]) l0 = some (.lst [.int 0]):=za
 have s03:=s02.trans s3
 have hDp3:=s3 _ _ hDp2
 have hup3:=zK s3 hup
 generalize upd H2 l0 (.lst [.int 0]) = H3 at s3 e3 s03 hDp3 hup3 |-
 refine ⟨_,rfl,Dp,rfl,⟨_,SqL.of hDp3⟩,fun Dl hDl=>?_⟩
 refine zaQ (K:=K) (xs:=up.map V.ref) rp.zipIdx (fun y=>decide (y.1.k = 0) && !y.1.b) (fun y=>V.int ((y.2:Nat) + 1)) hDl (SqL.of hDp3) (by rw [List.length_map,hup3.length,List.length_zipIdx]) (by rw [List.length_map]; omega) (fun i x y p H' Nn S hx hy hp sH n1 ss1=>?_) (fun H4 s4 hDl4=>?_)
 ·obtain ⟨u,hu',rfl⟩:=xm hx
  obtain ⟨r,hr',tr⟩:=yj hup3 hu'
  rw [List.getElem?_zipIdx,hr'] at hy
  have hy:(r,0 + i) = y:=Option.some.inj hy
  subst hy
  rw [Nat.zero_add] at n1 ss1
  have rk:=okp r (List.mem_of_getElem? hr')
  have sp:=zb hp (.tup [.int (i:Nat),.ref u])
  refine ⟨p,_,rfl,SqT.of za,rfl,_,_,rfl,_,_,rfl,rfl,?_⟩
  have tu:upd H' p (.tup [.int (i:Nat),.ref u]) u = some (.tup (jL r.k (.str r.z) r.b)):=sp _ _ (sH _ _ tr)
  generalize upd H' p (.tup [.int (i:Nat),.ref u]) = H5 at sp tu |-
  refine ⟨_,rfl,u,_,0,_,rfl,rfl,SqT.of tu,xU rk.1,rfl,_,rfl,?_⟩
  rw [zbh r.k rk.1]
  by_cases hk:r.k = 0
  ·refine dT hk ?_
   refine ⟨_,rfl,u,_,2,_,rfl,rfl,SqT.of tu,zjv hk,_,rfl,?_⟩
   have ek:(decide (r.k = 0) && !r.b) = !r.b:=by rw [decide_eq_true hk,Bool.true_and]
   exact ⟨fun e=>⟨_,rfl,_,_,rfl,rfl,n1 _ sp (by show (decide (r.k = 0) && !r.b) = true; rw [ek]; exact e)⟩,fun e=>ss1 _ sp (by show (decide (r.k = 0) && !r.b) = false; rw [ek]; exact e)⟩
  ·refine dF hk ?_
   exact ⟨fun e=>Bool.noConfusion e,fun _=>ss1 _ sp (by show (decide (r.k = 0) && !r.b) = false; rw [decide_eq_false hk,Bool.false_and])⟩
 obtain ⟨ns,ens,hns,lns,hin⟩:∃ ns:List Int,((rp.zipIdx.filter fun y=>decide (y.1.k = 0) && !y.1.b).map fun y=>V.int ((y.2:Nat) + 1)) = ns.map V.int/\(∀ n ∈ ns,0<=n/\n<=(up.length:Int))/\ns.length<=24/\(∀ (i:Nat) (r:Rw),rp[i]? = some r->r.k = 0->r.b = false->((i:Nat):Int) + 1 ∈ ns):=by
  refine ⟨(rp.zipIdx.filter fun y=>decide (y.1.k = 0) && !y.1.b).map fun y=>(((y.2:Nat) + 1:Int)),by rw [List.map_map]; rfl,fun n hn=>?_,?_,fun i r hr h1 h2=>?_⟩
  ·obtain ⟨y,hy,rfl⟩:=List.mem_map.mp hn
   have:=(List.mem_zipIdx' (List.mem_filter.mp hy).1).1
   have h2:=hup.length
   omega
  ·rw [List.length_map]
   refine Nat.le_trans (List.length_filter_le _ _) ?_
   rw [List.length_zipIdx,<- hup.length]
   exact lup
  ·exact List.mem_map.mpr ⟨(r,i),List.mem_filter.mpr ⟨List.mem_of_getElem? (uq hr),by show (decide (r.k = 0) && !r.b) = true; rw [decide_eq_true h1,h2]; rfl⟩,rfl⟩
 rw [ens] at hDl4
 refine ⟨l0,Dl,_,_,rfl,rfl,s4 _ _ e3,hDl4,ye (by rw [List.length_map]; show 1 + ns.length<=1000; omega),fun lm hlm=>?_⟩
 have s5:=zb hlm (.lst ([.int 0] ++ ns.map V.int))
 have e5:upd H4 lm (.lst ([.int 0] ++ ns.map V.int)) lm = some (.lst ((0 :: ns).map V.int)):=za
 generalize upd H4 lm (.lst ([.int 0] ++ ns.map V.int)) = H5 at s5 e5 |-
 refine ⟨lm,0 :: ns,rfl,SqL.of e5,List.cons_ne_nil _ _,fun low hlow hge=>?_⟩
 have hlw : 0<=low/\low<=(up.length:Int):=by
  rcases List.mem_cons.mp hlow with rfl | h
  ·exact ⟨by decide,by omega⟩
  ·exact hns low h
 have s35:=s4.trans s5
 have s05:=s03.trans s35
 have hDp5:=s35 _ _ hDp3
 have hDs5:=(s2.trans (s3.trans s35)) _ _ hDs1
 have hlo:∀ (i:Nat) (r:Rw),rows[i]? = some r->r.k = 0->r.b = false->((i:Nat):Int) + 1<=low:=fun i r hr h1 h2=>by
  have h3:=zbn V1.ok V1.ord hr
  rw [h1] at h3
  have h4:i < plN rows:=of_decide_eq_true h3.symm
  have h5:rp[i]? = some r:=by rw [erp,List.getElem?_take_of_lt h4]; exact hr
  exact hge _ (List.mem_cons_of_mem _ (hin i r h5 h1 h2))
 clear hlow hns lns ens hDl4 e5 e3 hDp3 hup3 hup okp hge hin
 refine ⟨_,rfl,_,rfl,_,rfl,Dp,_,rfl,.inl (SqL.of hDp5),_,rfl,_,_,rfl,rfl,_,_,rfl,rfl,_,_,rfl,rfl,?_,_,_,rfl,rfl,?_⟩
 ·rw [List.length_map]
  omega
 obtain ⟨M,hM,hM0,hM1⟩:∃ M:Nat,((M:Nat):Int) = low + cell % (((up.map V.ref).length:Int) - low + 1)/\low<=(M:Int)/\M<=plN rows:=by
  rw [List.length_map]
  have h0:=Int.emod_nonneg cell (show (up.length:Int) - low + 1 ≠ 0 by omega)
  have h1:=Int.emod_lt_of_pos cell (show 0 < (up.length:Int) - low + 1 by omega)
  obtain ⟨M,hM⟩:=Int.eq_ofNat_of_zero_le (show 0<=low + cell % ((up.length:Int) - low + 1) by omega)
  exact ⟨M,hM.symm,by omega,by omega⟩
 refine ⟨_,rfl,_,rfl,_,rfl,t,la,lb,(M:Nat),more,us,rows,(by rw [hM]; rfl),s05 _ _ ht,s05 _ _ hla,zK s05 hu,hok,l24,fun ln H6 s6 nln hln=>?_⟩
 have s06:=s05.trans s6
 have hDp6:=s6 _ _ hDp5
 have hDs6:=s6 _ _ hDs5
 dsimp only [yZ]
 refine yP (fun σ' H'=>∃ M':Nat,σ' = [some (.ref t),some (.ref pa),some (.int cell),some (.int more),some (.ref Ds),some (.ref Dp),some (.int low),some (.int (M':Nat)),some (.ref ln),none,none,none]/\H' = H6/\M'<=30/\(M' = M\/(M = plN rows/\M<=M'/\(zD 2 0 rows).isSome = true))) ?_ (fun key=>?_)
 rotate_left
 ·have hpl:plN rows<=rows.length:=List.length_filter_le _ _
  refine ⟨_,rfl,Ds,_,rfl,.inl (SqL.of hDs6),rfl,xP,_,rfl,?_⟩
  refine qk (fun ht1=>?_) (fun _=>?_)
  ·refine ⟨_,rfl,_,rfl,Dp,_,rfl,.inl (SqL.of hDp6),rfl,_,rfl,?_⟩
   rw [if_neg Bool.false_ne_true,x6] at ht1
   have ht2:=zbe hok (kk:=2) (by decide)
   rw [show kw 2 = "tail" from rfl,ht1] at ht2
   refine qk (fun hm1=>?_) (fun _=>?_)
   ·have hm2:=V.int.inj (of_decide_eq_true hm1)
    rw [<- hM,List.length_map,lupl] at hm2
    refine ⟨_,rfl,_,rfl,_,_,rfl,rfl,⟨by decide,by decide⟩,_,_,rfl,rfl,(by show (0:Int) < 7; decide),_,_,rfl,rfl,?_⟩
    have h0:=Int.emod_nonneg (cell / 30) (show (7:Int) ≠ 0 by decide)
    have h1:=Int.emod_lt_of_pos (cell / 30) (show (0:Int) < 7 by decide)
    exact key _ _ ⟨(((M:Nat):Int) + cell / 30 % 7).toNat,by rw [<- hM,show ((((M:Nat):Int) + cell / 30 % 7).toNat:Int) = ((M:Nat):Int) + cell / 30 % 7 by omega]; rfl,rfl,by omega,.inr ⟨by omega,by omega,ht2.symm⟩⟩
   ·exact key _ _ ⟨M,by rw [<- hM]; rfl,rfl,by omega,.inl rfl⟩
  ·exact key _ _ ⟨M,by rw [<- hM]; rfl,rfl,by omega,.inl rfl⟩
 clear hM
 rintro σ7 H7 ⟨M',rfl,rfl,hM30,hMM⟩
 generalize htn:tnF rows (M:Nat) more = tn at hln
 have ltn:tn.length<=24:=by
  rw [<- htn]
  exact Nat.le_trans zhI l24
 refine yP (fun σ' H'=>∃ (ln':Addr) (zs':List Str) (v9:Option V),σ' = [some (.ref t),some (.ref pa),some (.int cell),some (.int more),some (.ref Ds),some (.ref Dp),some (.int low),some (.int (M':Nat)),some (.ref ln'),v9,none,none]/\zm H7 H'/\H' ln' = some (.lst (zs'.map V.str))/\zs'.length<=50/\∃ st,zs' = tn ++ st/\(st = []\/((zD 4 0 rows).isSome = true/\st.Nodup/\∀ z ∈ st,z ∉ nms rows/\z ∉ bars))) ?_ (fun key=>?_)
 rotate_left
 ·refine ⟨_,rfl,Ds,_,rfl,.inl (SqL.of hDs6),rfl,xP,_,rfl,?_⟩
  refine qk (fun hb1=>?_) (fun _=>?_)
  ·rw [if_neg Bool.false_ne_true,x6] at hb1
   have hb2:=zbe hok (kk:=4) (by decide)
   rw [show kw 4 = "bag" from rfl,hb1] at hb2
   refine ⟨_,rfl,t,_,0,.ref la,rfl,rfl,SqT.of (s06 _ _ ht),rfl,la,rfl,⟨_,SqL.of (s06 _ _ hla)⟩,fun Db hDb=>?_⟩
   refine vE (K:=K) TAt (fun r=>z5 r.k) (fun _ r=>.str r.z) hDb (s06 _ _ hla) (zK s06 hu) (by omega) (fun i u r H' Nn S hu' hr' tr sH n1 s1'=>?_) (fun H8 s8 hDb8=>?_)
   ·have rk:=hok r (List.mem_of_getElem? hr')
    have tu:=sH _ _ tr
    refine ⟨_,rfl,u,_,0,_,rfl,rfl,SqT.of tu,xU rk.1,zz2,fun l hl=>?_⟩
    have s2':=zb hl (.lst [.str "both",.str "tag"])
    have tu2:=s2' _ _ tu
    refine ⟨l,_,rfl,.inl (SqL.of za),rfl,rfl,_,rfl,?_⟩
    rw [if_neg Bool.false_ne_true,show inV (V.str (kw r.k)) [.str "both",.str "tag"] = z5 r.k from ug r.k rk.1]
    exact ⟨fun e=>⟨_,rfl,u,_,1,_,rfl,rfl,SqT.of tu2,zcC,n1 _ s2' e⟩,fun e=>s1' _ s2' e⟩
   have enb:H8 Db = some (.lst ((nms rows).map V.str)):=by rw [hDb8,zeK (zK s06 hu)]
   have lnb:=zg2 rows
   have s08:=s06.trans s8
   have l60:=V1.l60
   refine ⟨_,rfl,t,_,1,.ref lb,rfl,rfl,SqT.of (s08 _ _ ht),rfl,Db,lb,_,_,rfl,rfl,enb,s08 _ _ hlb,ye (by rw [List.length_map,List.length_map]; omega),fun lsh hlsh=>?_⟩
   have s9:=zb hlsh (.lst ((nms rows).map V.str ++ bars.map V.str))
   have e9:upd H8 lsh (.lst ((nms rows).map V.str ++ bars.map V.str)) lsh = some (.lst ((nms rows ++ bars).map V.str)):=by rw [za,List.map_append]
   dsimp only [yZ]
   generalize upd H8 lsh (.lst ((nms rows).map V.str ++ bars.map V.str)) = H9 at s9 e9 |-
   obtain ⟨sh,esh0⟩:∃ sh,sh = nms rows ++ bars:=⟨_,rfl⟩
   rw [<- esh0] at e9
   have s79:=s8.trans s9
   have s09:=s06.trans s79
   refine ⟨_,rfl,_,rfl,pa,rfl,⟨_,SqL.of (s09 _ _ hpa)⟩,fun Dn hDn=>?_⟩
   refine zaQ (K:=K) (xs:=pool.map V.str) pool.zipIdx (fun y=>decide (y.1 ∉ sh) && decide (xa more ((y.2:Int) + 50) % 5 = 0)) (fun y=>V.str y.1) hDn (SqL.of (s09 _ _ hpa)) (by rw [List.length_map,List.length_zipIdx]) (by rw [List.length_map]; omega) (fun i x y p H' Nn S hx hy hp sH n1 ss1=>?_) (fun H10 s10 hDn10=>?_)
   ·obtain ⟨z,hz,rfl⟩:=strs_at hx
    rw [List.getElem?_zipIdx,hz] at hy
    have hy:(z,0 + i) = y:=Option.some.inj hy
    subst hy
    rw [Nat.zero_add] at n1 ss1
    have sp:=zb hp (.tup [.int (i:Nat),.str z])
    refine ⟨p,_,rfl,SqT.of za,rfl,_,_,rfl,_,_,rfl,rfl,?_⟩
    have esh:=sp _ _ (sH _ _ e9)
    generalize upd H' p (.tup [.int (i:Nat),.str z]) = H11 at sp esh |-
    refine ⟨_,rfl,_,rfl,lsh,_,rfl,.inl (SqL.of esh),rfl,xP,_,rfl,?_⟩
    by_cases hz1:z ∈ sh
    ·refine ud (by rw [if_pos rfl,x6,decide_eq_true hz1]; rfl) ?_
     refine ⟨fun e=>Bool.noConfusion e,fun _=>ss1 _ sp ?_⟩
     show (decide (z ∉ sh) && _) = false
     rw [decide_eq_false (fun h=>h hz1)]
     rfl
    ·refine vF (by rw [if_pos rfl,x6,decide_eq_false hz1]; rfl) ?_
     refine ⟨_,rfl,_,rfl,_,_,rfl,rfl,_,_,rfl,_,_,rfl,rfl,(by show (0:Int) < 5; decide),rfl,_,rfl,?_⟩
     refine ⟨fun e=>⟨_,rfl,n1 _ sp ?_⟩,fun e=>ss1 _ sp ?_⟩
     ·show (decide (z ∉ sh) && decide (xa more ((i:Int) + 50) % 5 = 0)) = true
      rw [decide_eq_true hz1,Bool.true_and]
      exact decide_eq_true (V.int.inj (of_decide_eq_true e))
     ·show (decide (z ∉ sh) && decide (xa more ((i:Int) + 50) % 5 = 0)) = false
      rw [decide_eq_true hz1,Bool.true_and]
      exact decide_eq_false fun h=>of_decide_eq_false e (congrArg V.int h)
   obtain ⟨o1,o2,o3⟩:=zca (sh:=sh) (g:=fun y=>decide (xa more ((y.2:Int) + 50) % 5 = 0)) npool
   have hDn10:H10 Dn = some (.lst (((pool.zipIdx.filter fun y=>decide (y.1 ∉ sh) && decide (xa more ((y.2:Int) + 50) % 5 = 0)).map fun y=>y.1).map V.str)):=by rw [hDn10,List.map_map]; rfl
   generalize ((pool.zipIdx.filter fun y=>decide (y.1 ∉ sh) && decide (xa more ((y.2:Int) + 50) % 5 = 0)).map fun y=>y.1) = np at o1 o2 o3 hDn10
   have s710:=s79.trans s10
   refine ⟨ln,Dn,_,_,rfl,rfl,s710 _ _ hln,hDn10,ye (by rw [List.length_map,List.length_map]; omega),fun l2 hl2=>?_⟩
   have s11:=zb hl2 (.lst (tn.map V.str ++ np.map V.str))
   exact key _ _ ⟨l2,tn ++ np,_,rfl,s710.trans s11,by rw [za,List.map_append],by rw [List.length_append]; omega,np,rfl,.inr ⟨hb2.symm,o1,fun z hz=>⟨fun h=>o2 z hz (by rw [esh0]; exact List.mem_append_left _ h),fun h=>o2 z hz (by rw [esh0]; exact List.mem_append_right _ h)⟩⟩⟩
  ·exact key _ _ ⟨ln,tn,_,rfl,zm.refl _,hln,by omega,[],by rw [List.append_nil],.inl rfl⟩
 clear hln nln
 rintro σ8 H8 ⟨ln',zs',v9,rfl,s8,hln',lz',st,est,hst⟩
 have s08:=s06.trans s8
 refine ⟨_,rfl,_,rfl,ln',_,rfl,.inl (SqL.of hln'),_,_,rfl,rfl,_,_,rfl,rfl,(by show (0:Int) < ((zs'.map V.str).length:Int) + 1; omega),?_⟩
 have j0 : 0<=more % (((zs'.map V.str).length:Int) + 1):=Int.emod_nonneg _ (by omega)
 obtain ⟨j,hj⟩:=Int.eq_ofNat_of_zero_le j0
 refine ⟨_,rfl,_,rfl,_,rfl,ln',_,rfl,SqL.of hln',fun p1 hp1=>?_⟩
 rw [show xV (zs'.map V.str) (some (more % (((zs'.map V.str).length:Int) + 1))) none = (zs'.drop j).map V.str by rw [hj]; exact (yN).trans (List.map_drop ..).symm]
 have s9:=zb hp1 (.lst ((zs'.drop j).map V.str))
 have e9:upd H8 p1 (.lst ((zs'.drop j).map V.str)) p1 = some (.lst ((zs'.drop j).map V.str)):=za
 generalize upd H8 p1 (.lst ((zs'.drop j).map V.str)) = H9 at s9 e9 |-
 refine ⟨_,rfl,_,rfl,_,rfl,ln',_,rfl,SqL.of (s9 _ _ hln'),fun p2 hp2=>?_⟩
 rw [show xV (zs'.map V.str) none (some (more % (((zs'.map V.str).length:Int) + 1))) = (zs'.take j).map V.str by rw [hj]; exact (xl).trans (List.map_take ..).symm]
 have s10:=zb hp2 (.lst ((zs'.take j).map V.str))
 have e10:upd H9 p2 (.lst ((zs'.take j).map V.str)) p2 = some (.lst ((zs'.take j).map V.str)):=za
 generalize upd H9 p2 (.lst ((zs'.take j).map V.str)) = H10 at s10 e10 |-
 refine ⟨p1,p2,_,_,rfl,rfl,s10 _ _ e9,e10,ye (by rw [List.length_map,List.length_map,List.length_drop,List.length_take]; omega),fun l3 hl3=>?_⟩
 have s11:=zb hl3 (.lst ((zs'.drop j).map V.str ++ (zs'.take j).map V.str))
 have e11:upd H10 l3 (.lst ((zs'.drop j).map V.str ++ (zs'.take j).map V.str)) l3 = some (.lst ((zs'.drop j ++ zs'.take j).map V.str)):=by rw [za,List.map_append]
 have hpm:(zs'.drop j ++ zs'.take j).Perm (tnF rows (M:Nat) more ++ st):=by
  refine List.perm_append_comm.trans ?_
  rw [List.take_append_drop,htn,est]
 have lz:(zs'.drop j ++ zs'.take j).length<=50:=by rw [List.length_append,List.length_drop,List.length_take]; omega
 dsimp only [yZ]
 generalize upd H10 l3 (.lst ((zs'.drop j).map V.str ++ (zs'.take j).map V.str)) = H11 at s11 e11 |-
 generalize zs'.drop j ++ zs'.take j = zz at e11 lz hpm
 have s011:=s08.trans (s9.trans (s10.trans s11))
 refine ⟨_,rfl,(M':Nat),rfl,by omega,by omega,fun D1 hD1=>?_⟩
 rw [show (((M':Nat):Int)).toNat = M' by omega]
 refine jX (n:=M') (fun i ys H'=>zm H11 H'/\H' D1 = some (.lst ys)/\ys = ((List.range i).map fun (k:Nat)=>wn cell ((0:Int) + (k:Int))).map V.int) ⟨zb hD1 _,za,rfl⟩ ?_ ?_
 ·rintro i ys H' hi ⟨sH,hDy,ey⟩
  refine ⟨fun _=>?_,fun e=>Bool.noConfusion e⟩
  refine ⟨_,rfl,_,rfl,cell,_,rfl,b1,?_⟩
  have ly:ys.length = i:=by rw [ey,List.length_map,List.length_map,List.length_range]
  exact lcN.mk hi (ye (by omega)) hDy (Nat.le_of_eq ly) ⟨fun b' u e=>by rw [zi (zf e hD1)]; exact sH _ _ e,za,by rw [ey,List.range_succ,List.map_append,List.map_append]; rfl⟩
 rintro ys1 H12 ⟨s12,hD12,ey1⟩
 have e12:=s12 _ _ e11
 refine ⟨_,rfl,_,rfl,l3,rfl,⟨_,SqL.of e12⟩,fun D2 hD2=>?_⟩
 refine zfP (K:=K) (m:=1) (xs:=zz.map V.str) (fun k=>xb (zz.getD k "",wn more (k:Int))) hD2 (SqL.of e12) (by rw [List.length_map]; omega) (fun k x pt H' Qf Qs hx hp sH qf=>?_) (fun vs2 H13 s13 hD2v hp2=>?_)
 ·obtain ⟨z,hz,rfl⟩:=strs_at hx
  have sp:=zb hp (.tup [.int (k:Nat),.str z])
  refine ⟨pt,_,rfl,SqT.of za,rfl,_,_,rfl,_,_,rfl,rfl,fun _=>?_,fun e=>Bool.noConfusion e⟩
  generalize upd H' pt (.tup [.int (k:Nat),.str z]) = H4' at sp |-
  refine ⟨_,rfl,_,rfl,_,rfl,more,_,rfl,b2,zz2,fun u hu=>?_⟩
  have s5:=zb hu (.tup [.str z,.int (wn more (k:Nat))])
  refine qf _ _ (sp.trans s5) (.tup (SqT.of za) ?_)
  rw [show zz.getD k "" = z by rw [List.getD_eq_getElem?_getD,hz]; rfl]
  exact .cons .str (.cons .int .nil)
 refine ⟨zz2,fun tt htt=>?_⟩
 have s14:=zb htt (.tup [.ref D1,.ref D2])
 have eN:(((List.range (zz.map V.str).length).map fun k=>(zz.getD k "",wn more (k:Int))).map (·.1)) = zz:=by
  rw [List.map_map,List.length_map]
  refine List.ext_getElem? fun k=>?_
  rw [List.getElem?_map]
  by_cases hk:k < zz.length
  ·rw [List.getElem?_range hk,List.getElem?_eq_getElem hk]
   show some (zz.getD k "") = _
   rw [List.getD_eq_getElem?_getD,List.getElem?_eq_getElem hk]
   rfl
  ·rw [List.getElem?_eq_none (show (List.range zz.length).length<=k by rw [List.length_range]; omega),List.getElem?_eq_none (show zz.length<=k by omega)]
   rfl
 refine q tt D1 D2 ((List.range M').map fun (k:Nat)=>wn cell ((0:Int) + (k:Int))) vs2 ((List.range (zz.map V.str).length).map fun k=>(zz.getD k "",wn more (k:Int))) _ (s011.trans (s12.trans (s13.trans s14))) za ?_ (s14 _ _ hD2v) ?_ (by rw [List.length_map,List.length_range]; exact hM30) (by rw [List.length_map,List.length_range,List.length_map]; exact lz) ?_
 ·rw [<- ey1]
  exact s14 _ _ (s13 _ _ hD12)
 ·rw [List.map_map]
  exact Paired.imp' (fun _ _ z=>(wp (fun _ _ _=>True.intro) z).same s14) hp2
 ·rw [eN,List.length_map,List.length_range]
  refine zei V1 hM1 hMM (fun i r hr h1 h2=>?_) hst hpm
  have:=hlo i r hr h1 h2
  omega
end
inductive En where
 | one (wd:Str) (n:Nat)
 | many (wd:Str) (ns:List Nat)
 | free
def yI (ns:List Nat):List Int:=ns.map fun (j:Nat)=>(j:Int)
def enD:En->Dt
 | .one wd n=>.tup [.str wd,.int (n:Nat)]
 | .many wd ns=>.tup [.str wd,.lst ((yI ns).map Dt.int)]
 | .free=>.tup [.str "free"]
def vq (K:Frag) (ok:Addr->Prop) (H:Hp) (x:V):En->Prop
 | .one wd n=>∃ u,x = .ref u/\SqT K H u [.str wd,.int (n:Nat)]
 | .many wd ns=>∃ u l,x = .ref u/\SqT K H u [.str wd,.ref l]/\ok l/\H l = some (.lst ((yI ns).map V.int))
 | .free=>∃ u,x = .ref u/\SqT K H u [.str "free"]
theorem vq.same {K:Frag} {ok:Addr->Prop} {H H':Hp} {x:V} {e:En} (h:vq K ok H x e) (s:zm H H'):vq K ok H' x e:=by
 cases e with
 | one wd n=>obtain ⟨u,e,h⟩:=h; exact ⟨u,e,s.sqT h⟩
 | many wd ns=>obtain ⟨u,l,e,h,o,hl⟩:=h; exact ⟨u,l,e,s.sqT h,o,s _ _ hl⟩
 | free=>obtain ⟨u,e,h⟩:=h; exact ⟨u,e,s.sqT h⟩
theorem zhd {K:Frag} {ok:Addr->Prop} {H:Hp} {x:V} {e:En} (h:zH K ok H 2 x (enD e)):vq K ok H x e:=by
 cases e with
 | one wd n=>
  obtain ⟨a,xs,rfl,hS,r⟩:=yy h
  cases r with
  | cons h1 r=>
   cases r with
   | cons h2 r=>
    cases r
    obtain rfl:=yz h1
    obtain rfl:=wN h2
    exact ⟨a,rfl,hS⟩
 | many wd ns=>
  obtain ⟨a,xs,rfl,hS,r⟩:=yy h
  cases r with
  | cons h1 r=>
   cases r with
   | cons h2 r=>
    cases r
    obtain rfl:=yz h1
    rcases h2 with h2 | ⟨a2,xs2,ds2,e1,e2,_⟩ | ⟨a2,xs2,ds2,rfl,e2,o,hl,r2⟩
    ·rename_i b
     cases b <;> exact h2.elim
    ·cases e2
    ·cases e2
     exact ⟨a,a2,rfl,hS,o,by rw [hl,wU r2]⟩
 | free=>
  obtain ⟨a,xs,rfl,hS,r⟩:=yy h
  cases r with
  | cons h1 r=>
   cases r
   obtain rfl:=yz h1
   exact ⟨a,rfl,hS⟩
def plL (rows:List Rw) (M:Nat):List Nat:=(List.range (M - plN rows)).map fun i=>plN rows + i
def enF (rows:List Rw) (M:Nat) (zs:List Str) (i:Nat):En:=
 if zD 2 0 rows = some i then .many "places" (plL rows M)
 else if zD 4 0 rows = some i then .many "names" (xj rows (fpZ zs))
 else match rows[i]? with
  | some r=>if yL r.k = true/\i < M then .one "place" i else if z5 r.k = true/\r.z ∈ zs then .one "name" (zs.findIdx fun y=>decide (y = r.z)) else .free
  | none=>.free
theorem zbO:∀ (zs:List Str) (i:Nat) (acc:List (Str × Nat)),(∀ z ∈ zs,(acc.any fun p=>decide (p.1 = z)) = false)->zs.Nodup->fpF i acc zs = acc ++ zs.zipIdx i
 | [],_,acc,_,_=>by
  show acc = acc ++ []
  rw [List.append_nil]
 | z :: zs,i,acc,h,nd=>by
  show fpF (i + 1) _ zs = _
  rw [h z List.mem_cons_self,if_neg Bool.false_ne_true,zbO zs (i + 1) _ (fun y hy=>?_) (List.nodup_cons.mp nd).2,List.append_assoc]
  ·rfl
  ·rw [List.any_append,h y (List.mem_cons_of_mem _ hy),Bool.false_or]
   have:z ≠ y:=fun e=>(List.nodup_cons.mp nd).1 (e ▸ hy)
   simp [this]
theorem zac {zs:List Str} (h:zs.Nodup):fpZ zs = zs.zipIdx:=by
 unfold fpZ
 rw [zbO zs 0 [] (fun _ _=>rfl) h]
 rfl
theorem zaV {zs:List Str} {z:Str} (h:z ∈ zs):zs[zs.findIdx fun y=>decide (y = z)]? = some z:=by
 have hl:(zs.findIdx fun y=>decide (y = z)) < zs.length:=List.findIdx_lt_length_of_exists ⟨z,h,decide_eq_true rfl⟩
 rw [List.getElem?_eq_getElem hl]
 have:=List.findIdx_getElem (p:=fun y=>decide (y = z)) (xs:=zs) (w:=hl)
 rw [of_decide_eq_true this]
theorem zeg {zs:List Str} (h:zs.Nodup) {i j:Nat} {z:Str} (hi:zs[i]? = some z) (hj:zs[j]? = some z):i = j:=by
 have li:=(List.getElem?_eq_some_iff.mp hi).1
 have lj:=(List.getElem?_eq_some_iff.mp hj).1
 have e:zs[i] = zs[j]:=by rw [(List.getElem?_eq_some_iff.mp hi).2,(List.getElem?_eq_some_iff.mp hj).2]
 have hp:=List.pairwise_iff_getElem.mp (List.nodup_iff_pairwise_ne.mp h)
 rcases Nat.lt_trichotomy i j with h1 | h1 | h1
 ·exact absurd e (hp i j li lj h1)
 ·exact h1
 ·exact absurd e.symm (hp j i lj li h1)
theorem ziF {rows:List Rw} {M:Nat} {zs:List Str} {i:Nat} (hi:i < rows.length) (nd:zs.Nodup):zbR rows M (fpZ zs) i = enD (enF rows M zs i):=by
 unfold zbR enF
 split
 ·show Dt.tup [.str "places",.lst ((L2.yY (plN rows) (M - plN rows)).map Dt.int)] = Dt.tup [.str "places",.lst ((yI (plL rows M)).map Dt.int)]
  unfold yI plL L2.yY
  simp only [List.map_map]
  rfl
 ·split
  ·rfl
  ·rw [List.getElem?_eq_getElem hi]
   show Dt.tup ((vB rows[i] i M (kvP (fpZ zs))).map vD) = enD (if yL rows[i].k = true/\i < M then .one "place" i else if z5 rows[i].k = true/\rows[i].z ∈ zs then .one "name" (zs.findIdx fun y=>decide (y = rows[i].z)) else .free)
   unfold vB
   by_cases h1:yL rows[i].k = true/\i < M
   ·rw [if_pos h1,if_pos h1]; rfl
   ·rw [if_neg h1,if_neg h1]
    by_cases h2:z5 rows[i].k = true/\rows[i].z ∈ zs
    ·have h3:z5 rows[i].k = true/\(zL (kvP (fpZ zs)) (.inr rows[i].z)).isSome = true:=⟨h2.1,by rw [vh]; exact decide_eq_true h2.2⟩
     rw [if_pos h3,if_pos h2]
     have hv:=(j8 zs 0).mp (zaZ.mpr nd) _ _ (zaV h2.2)
     rw [hv,Nat.zero_add]
     rfl
    ·have h3:¬ (z5 rows[i].k = true/\(zL (kvP (fpZ zs)) (.inr rows[i].z)).isSome = true):=fun h=>h2 ⟨h.1,by have:=h.2; rw [vh] at this; exact of_decide_eq_true this⟩
     rw [if_neg h3,if_neg h2]; rfl
theorem zbL {rows:List Rw} {bars:List Str} (V1:yR rows bars) {p:Str × Nat}:wP rows p = true ↔ p.1 ∉ nms rows:=by
 unfold wP
 constructor
 ·intro h hm
  obtain ⟨l,r,hl,hb,he⟩:=zfJ hm
  have:=wS hb rows 0 l [] hl (List.nodup_append.mp V1.nd).1
  rw [he] at this
  rw [this] at h
  cases h
 ·intro h
  rw [uj rows 0 [] h]
  rfl
theorem uV {rows:List Rw} {zs:List Str} (nd:zs.Nodup):(xj rows (fpZ zs)).Sublist (List.range zs.length):=by
 unfold xj
 rw [zac nd,List.range_eq_range',<- List.zipIdx_map_snd 0 zs]
 exact List.Sublist.map _ List.filter_sublist
theorem qR {rows:List Rw} {bars zs:List Str} (V1:yR rows bars) (nd:zs.Nodup) {j:Nat}:j ∈ xj rows (fpZ zs) ↔ ∃ z,zs[j]? = some z/\z ∉ nms rows:=by
 unfold xj
 rw [zac nd,List.mem_map]
 constructor
 ·rintro ⟨p,hp,rfl⟩
  obtain ⟨h1,h2⟩:=List.mem_filter.mp hp
  refine ⟨p.1,?_,(zbL V1).mp h2⟩
  obtain ⟨i,hi⟩:=List.mem_iff_getElem?.mp h1
  rw [List.getElem?_zipIdx] at hi
  cases hr:zs[i]? with
  | none=>rw [hr] at hi; cases hi
  | some r=>
   rw [hr] at hi
   have:(r,0 + i) = p:=Option.some.inj hi
   subst this
   rw [Nat.zero_add]
   exact hr
 ·rintro ⟨z,hz,hn⟩
  refine ⟨(z,j),List.mem_filter.mpr ⟨?_,(zbL V1).mpr hn⟩,rfl⟩
  refine List.mem_of_getElem? (i:=j) ?_
  rw [List.getElem?_zipIdx,hz]
  simp
theorem zfl:∀ (rs:List Rw) {l:Nat},ya l rs = true->∀ x ∈ rs,l<=grp x.k
 | [],_,_,x,hx=>by cases hx
 | y :: ys,l,h,x,hx=>by
  have h':(!xt l (grp y.k) && ya (grp y.k) ys) = true:=h
  rw [Bool.and_eq_true,Bool.not_eq_true'] at h'
  have hb:l<=grp y.k:=by
   have:=h'.1
   unfold xt at this
   rw [Bool.or_eq_false_iff,decide_eq_false_iff_not] at this
   omega
  rcases List.mem_cons.mp hx with rfl | hx
  ·exact hb
  ·have:=zfl ys h'.2 x hx
   omega
theorem zii (rs:List Rw) {l:Nat} (hl:l = 1\/l = 3) (h:ya l rs = true) (x:Rw) (hx:x ∈ rs):l < grp x.k:=by
 cases rs with
 | nil=>cases hx
 | cons y ys=>
  have h':(!xt l (grp y.k) && ya (grp y.k) ys) = true:=h
  rw [Bool.and_eq_true,Bool.not_eq_true'] at h'
  have hb:l < grp y.k:=by
   have:=h'.1
   unfold xt at this
   rw [Bool.or_eq_false_iff,decide_eq_false_iff_not] at this
   have h2:grp y.k ≠ l:=fun e=>by
    have h3:=this.2
    rw [e] at h3
    rcases hl with rfl | rfl
    ·exact absurd h3 (by decide)
    ·exact absurd h3 (by decide)
   omega
  rcases List.mem_cons.mp hx with rfl | hx
  ·exact hb
  ·have:=zfl ys h'.2 x hx
   omega
theorem xR {kk:Nat} (hk:kk = 2\/kk = 4):∀ (rows:List Rw) (i l j:Nat) {r:Rw},ya l rows = true->rows[j]? = some r->r.k = kk->zD kk i rows = some (i + j)
 | [],_,_,_,_,_,h,_=>by simp at h
 | y :: ys,i,l,j,r,ho,hj,hr=>by
  have h':(!xt l (grp y.k) && ya (grp y.k) ys) = true:=ho
  rw [Bool.and_eq_true] at h'
  show (if y.k = kk then some i else zD kk (i + 1) ys) = _
  cases j with
  | zero=>
   have:y = r:=by simpa using hj
   subst this
   rw [if_pos hr]; rfl
  | succ j=>
   have hj':ys[j]? = some r:=by simpa using hj
   rw [if_neg,xR hk ys (i + 1) _ j h'.2 hj' hr]
   ·congr 1; omega
   ·intro e
    have hg:grp y.k = 1\/grp y.k = 3:=by rw [e]; rcases hk with rfl | rfl <;> decide
    have:=zii ys hg h'.2 r (List.mem_of_getElem? hj')
    rw [e,hr] at this
    omega
theorem xQ {kk:Nat}:∀ (rows:List Rw) (i j:Nat),zD kk i rows = some j->∃ m r,j = i + m/\rows[m]? = some r/\r.k = kk
 | [],_,_,h=>by cases h
 | y :: ys,i,j,h=>by
  have h:(if y.k = kk then some i else zD kk (i + 1) ys) = some j:=h
  split at h
  next e=>cases h; exact ⟨0,y,rfl,rfl,e⟩
  ·obtain ⟨m,r,h1,h2,h3⟩:=xQ ys (i + 1) j h
   exact ⟨m + 1,r,by omega,by simpa using h2,h3⟩
theorem zaY {rows:List Rw} {bars:List Str} (V1:yR rows bars) {M:Nat} {zs:List Str} {i:Nat} {r:Rw} (hr:rows[i]? = some r) (h:r.k = 2):enF rows M zs i = .many "places" (plL rows M):=by
 unfold enF
 have:=xR (.inl rfl) rows 0 0 i V1.ord hr h
 rw [Nat.zero_add] at this
 rw [if_pos this]
theorem zcS {rows:List Rw} {bars:List Str} (V1:yR rows bars) {M:Nat} {zs:List Str} {i:Nat} {r:Rw} (hr:rows[i]? = some r) (h:r.k = 4):enF rows M zs i = .many "names" (xj rows (fpZ zs)):=by
 unfold enF
 have:=xR (.inr rfl) rows 0 0 i V1.ord hr h
 rw [Nat.zero_add] at this
 have n2:¬ zD 2 0 rows = some i:=fun e=>by
  obtain ⟨m,r',h1,h2,h3⟩:=xQ rows 0 i e
  rw [Nat.zero_add] at h1
  subst h1
  rw [hr] at h2
  cases h2
  omega
 rw [if_neg n2,if_pos this]
theorem j5 {rows:List Rw} {M:Nat} {zs:List Str} {i:Nat} {r:Rw} (hr:rows[i]? = some r) (h2:r.k ≠ 2) (h4:r.k ≠ 4):enF rows M zs i = if yL r.k = true/\i < M then .one "place" i else if z5 r.k = true/\r.z ∈ zs then .one "name" (zs.findIdx fun y=>decide (y = r.z)) else .free:=by
 unfold enF
 have n:∀ kk,r.k ≠ kk->¬ zD kk 0 rows = some i:=fun kk hk e=>by
  obtain ⟨m,r',e1,e2,e3⟩:=xQ rows 0 i e
  rw [Nat.zero_add] at e1
  subst e1
  rw [hr] at e2
  cases e2
  exact hk e3
 rw [if_neg (n 2 h2),if_neg (n 4 h4),hr]
structure Fit (rows:List Rw) (bars:List Str) (M:Nat) (zs:List Str):Prop where
 nd:zs.Nodup
 ov:(zD 2 0 rows).isSome = true\/M<=plN rows
 un:∀ z ∈ zs,yT rows bars M z = none
 la:∀ (j:Nat) (r:Rw),rows[j]? = some r->xx r j M (kvP (fpZ zs)) = false
theorem ziE {rows:List Rw} {bars:List Str} {M:Nat} {zs:List Str} (h:vy rows bars M zs = []):Fit rows bars M zs:=by
 unfold vy at h
 rw [List.append_eq_nil_iff,List.append_eq_nil_iff,List.append_eq_nil_iff,zaZ,zbs,zc4,uX] at h
 obtain ⟨⟨⟨h1,h2⟩,h3⟩,h4⟩:=h
 exact ⟨h1,h2,h3,fun j r hr=>by have:=h4 j r hr; rwa [Nat.zero_add] at this⟩
def enP:En->List Nat
 | .one wd n=>if wd = "place" then [n] else []
 | .many wd ns=>if wd = "places" then ns else []
 | .free=>[]
def enN:En->List Nat
 | .one wd n=>if wd = "name" then [n] else []
 | .many wd ns=>if wd = "names" then ns else []
 | .free=>[]
theorem jN {L:List Nat} {n:Nat} (nd:L.Nodup) (h:∀ x,x ∈ L ↔ x < n):L.Perm (List.range n):=by
 rw [List.perm_iff_count]
 intro a
 rw [nd.count,List.nodup_range.count]
 by_cases ha:a < n
 ·rw [if_pos ((h a).mpr ha),if_pos (List.mem_range.mpr ha)]
 ·rw [if_neg (fun e=>ha ((h a).mp e)),if_neg (fun e=>ha (List.mem_range.mp e))]
theorem zdl {rows:List Rw} {M x:Nat}:x ∈ plL rows M ↔ plN rows<=x/\x < M:=by
 unfold plL
 rw [List.mem_map]
 constructor
 ·rintro ⟨i,hi,rfl⟩
  rw [List.mem_range] at hi
  omega
 ·rintro ⟨h1,h2⟩
  exact ⟨x - plN rows,List.mem_range.mpr (by omega),by omega⟩
theorem zfe {rows:List Rw} {M:Nat}:(plL rows M).Pairwise (· < ·):=by
 unfold plL
 rw [List.pairwise_map]
 exact List.Pairwise.imp (fun h=>by omega) (List.pairwise_lt_range (n:=M - plN rows))
theorem uh {rows:List Rw} {bars:List Str} (V1:yR rows bars) {M:Nat} {zs:List Str} {i x:Nat} {r:Rw} (hr:rows[i]? = some r):x ∈ enP (enF rows M zs i) ↔ (r.k = 2/\plN rows<=x/\x < M)\/(x = i/\i < plN rows/\i < M):=by
 have hp:=zbn V1.ok V1.ord hr
 by_cases h2:r.k = 2
 ·rw [zaY V1 hr h2]
  show x ∈ (if ("places" : Str) = "places" then plL rows M else []) ↔ _
  rw [if_pos rfl,zdl]
  rw [h2] at hp
  have:¬ i < plN rows:=of_decide_eq_false hp.symm
  constructor
  ·exact fun h=>.inl ⟨h2,h⟩
  ·rintro (h | h)
   ·exact h.2
   ·omega
 ·by_cases h4:r.k = 4
  ·rw [zcS V1 hr h4]
   show x ∈ (if ("names" : Str) = "places" then xj rows (fpZ zs) else []) ↔ _
   rw [if_neg (by decide +kernel)]
   rw [h4] at hp
   have:¬ i < plN rows:=of_decide_eq_false hp.symm
   constructor
   ·intro h; cases h
   ·rintro (h | h)
    ·omega
    ·omega
  ·rw [j5 hr h2 h4]
   by_cases c:yL r.k = true/\i < M
   ·rw [if_pos c]
    show x ∈ (if ("place" : Str) = "place" then [i] else []) ↔ _
    rw [if_pos rfl,List.mem_singleton]
    have:i < plN rows:=of_decide_eq_true (hp.symm.trans c.1)
    constructor
    ·exact fun e=>.inr ⟨e,this,c.2⟩
    ·rintro (h | h)
     ·exact absurd h.1 h2
     ·exact h.1
   ·rw [if_neg c]
    have hn:¬ ((r.k = 2/\plN rows<=x/\x < M)\/(x = i/\i < plN rows/\i < M)):=by
     rintro (h | h)
     ·exact h2 h.1
     ·exact c ⟨by rw [hp]; exact decide_eq_true h.2.1,h.2.2⟩
    have he:¬ x ∈ enP (if z5 r.k = true/\r.z ∈ zs then En.one "name" (zs.findIdx fun y=>decide (y = r.z)) else .free):=by
     split
     ·show ¬ x ∈ (if ("name" : Str) = "place" then [zs.findIdx fun y=>decide (y = r.z)] else [])
      rw [if_neg (by decide +kernel)]
      exact List.not_mem_nil
     ·exact List.not_mem_nil
    exact ⟨fun h=>absurd h he,fun h=>absurd h hn⟩
theorem ui {rows:List Rw} {bars:List Str} (V1:yR rows bars) {M:Nat} {zs:List Str} (F:Fit rows bars M zs) {i x:Nat} {r:Rw} (hr:rows[i]? = some r):x ∈ enN (enF rows M zs i) ↔ ∃ z,zs[x]? = some z/\((r.k = 4/\z ∉ nms rows)\/(z5 r.k = true/\r.z = z)):=by
 by_cases h2:r.k = 2
 ·rw [zaY V1 hr h2]
  show x ∈ (if ("places" : Str) = "names" then plL rows M else []) ↔ _
  rw [if_neg (by decide +kernel)]
  constructor
  ·intro h; cases h
  ·rintro ⟨z,hz,h | h⟩
   ·omega
   ·rw [h2] at h; cases h.1
 ·by_cases h4:r.k = 4
  ·rw [zcS V1 hr h4]
   show x ∈ (if ("names" : Str) = "names" then xj rows (fpZ zs) else []) ↔ _
   rw [if_pos rfl,qR V1 F.nd]
   constructor
   ·rintro ⟨z,hz,h⟩; exact ⟨z,hz,.inl ⟨h4,h⟩⟩
   ·rintro ⟨z,hz,h | h⟩
    ·exact ⟨z,hz,h.2⟩
    ·rw [h4] at h; cases h.1
  ·rw [j5 hr h2 h4]
   by_cases c:yL r.k = true/\i < M
   ·rw [if_pos c]
    show x ∈ (if ("place" : Str) = "name" then [i] else []) ↔ _
    rw [if_neg (by decide +kernel)]
    constructor
    ·intro h; cases h
    ·rintro ⟨z,hz,h | h⟩
     ·exact absurd h.1 h4
     ·have hu:=F.un z (List.mem_of_getElem? hz)
      have hp:=zbn V1.ok V1.ord hr
      have hi:i < plN rows:=of_decide_eq_true (hp.symm.trans c.1)
      have hm:z ∈ nms rows:=by
       unfold nms
       exact List.mem_map.mpr ⟨r,List.mem_filter.mpr ⟨List.mem_of_getElem? hr,h.1⟩,h.2⟩
      have hb:z ∉ bars:=fun hb=>(List.nodup_append.mp V1.nd).2.2 z hm z hb rfl
      have hw:=za9 (many:=M) (List.nodup_append.mp V1.nd).1 hb hr h.1 h.2
      rw [if_pos (show i < min M (plN rows) by omega)] at hw
      unfold ur at hw
      rw [hu] at hw
      exact absurd hw (by decide +kernel)
   ·rw [if_neg c]
    by_cases d:z5 r.k = true/\r.z ∈ zs
    ·rw [if_pos d]
     show x ∈ (if ("name" : Str) = "name" then [zs.findIdx fun y=>decide (y = r.z)] else []) ↔ _
     rw [if_pos rfl,List.mem_singleton]
     constructor
     ·rintro rfl
      exact ⟨r.z,zaV d.2,.inr ⟨d.1,rfl⟩⟩
     ·rintro ⟨z,hz,h | h⟩
      ·exact absurd h.1 h4
      ·exact zeg F.nd (by rw [hz,h.2]) (zaV d.2)
    ·rw [if_neg d]
     constructor
     ·intro h; cases h
     ·rintro ⟨z,hz,h | h⟩
      ·exact absurd h.1 h4
      ·exact absurd ⟨h.1,h.2 ▸ List.mem_of_getElem? hz⟩ d
theorem ziR {rows:List Rw} {bars:List Str} (V1:yR rows bars) {M:Nat} {zs:List Str} (F:Fit rows bars M zs):((List.range rows.length).flatMap fun i=>enP (enF rows M zs i)).Perm (List.range M):=by
 have hpl:plN rows<=rows.length:=List.length_filter_le _ _
 refine jN ?_ fun x=>?_
 ·rw [List.nodup_iff_pairwise_ne,List.pairwise_flatMap]
  refine ⟨fun i hi=>?_,?_⟩
  ·cases e:enF rows M zs i with
   | one wd n=>
    show List.Pairwise _ (if wd = "place" then [n] else [])
    split
    ·exact List.pairwise_singleton _ _
    ·exact .nil
   | many wd ns=>
    show List.Pairwise _ (if wd = "places" then ns else [])
    split
    next hw=>
     subst hw
     have:ns = plL rows M:=by
      unfold enF at e
      split at e
      ·cases e; rfl
      ·split at e
       ·injection e with e1 e2; exact absurd e1 (by decide +kernel)
       ·split at e
        ·split at e
         ·cases e
         ·split at e <;> cases e
        ·cases e
     rw [this]
     exact List.Pairwise.imp (fun h=>Nat.ne_of_lt h) zfe
    ·exact .nil
   | free=>exact .nil
  ·rw [List.pairwise_iff_getElem]
   intro a b ha hb hab x hx y hy e
   subst e
   rw [List.length_range] at ha hb
   rw [List.getElem_range] at hx hy
   rw [uh V1 (List.getElem?_eq_getElem ha)] at hx
   rw [uh V1 (List.getElem?_eq_getElem hb)] at hy
   rcases hx with hx | hx
   ·rcases hy with hy | hy
    ·have h1:=xR (.inl rfl) rows 0 0 a V1.ord (List.getElem?_eq_getElem ha) hx.1
     have h2:=xR (.inl rfl) rows 0 0 b V1.ord (List.getElem?_eq_getElem hb) hy.1
     rw [h1] at h2
     have:=Option.some.inj h2
     omega
    ·omega
   ·rcases hy with hy | hy
    ·omega
    ·omega
 ·rw [List.mem_flatMap]
  constructor
  ·rintro ⟨i,hi,hx⟩
   rw [uh V1 (List.getElem?_eq_getElem (List.mem_range.mp hi))] at hx
   omega
  ·intro hx
   by_cases h:x < plN rows
   ·exact ⟨x,List.mem_range.mpr (by omega),(uh V1 (List.getElem?_eq_getElem (by omega))).mpr (.inr ⟨rfl,h,hx⟩)⟩
   ·rcases F.ov with ho | ho
    ·obtain ⟨j,hj⟩:=Option.isSome_iff_exists.mp ho
     obtain ⟨m,r,e1,e2,e3⟩:=xQ rows 0 j hj
     refine ⟨m,List.mem_range.mpr (List.getElem?_eq_some_iff.mp e2).1,(uh V1 e2).mpr (.inl ⟨e3,by omega,hx⟩)⟩
    ·omega
theorem ziS {rows:List Rw} {bars:List Str} (V1:yR rows bars) {M:Nat} {zs:List Str} (F:Fit rows bars M zs):((List.range rows.length).flatMap fun i=>enN (enF rows M zs i)).Perm (List.range zs.length):=by
 refine jN ?_ fun x=>?_
 ·rw [List.nodup_iff_pairwise_ne,List.pairwise_flatMap]
  refine ⟨fun i hi=>?_,?_⟩
  ·cases e:enF rows M zs i with
   | one wd n=>
    show List.Pairwise _ (if wd = "name" then [n] else [])
    split
    ·exact List.pairwise_singleton _ _
    ·exact .nil
   | many wd ns=>
    show List.Pairwise _ (if wd = "names" then ns else [])
    split
    next hw=>
     subst hw
     have:ns = xj rows (fpZ zs):=by
      unfold enF at e
      split at e
      ·injection e with e1 e2; exact absurd e1 (by decide +kernel)
      ·split at e
       ·cases e; rfl
       ·split at e
        ·split at e
         ·cases e
         ·split at e <;> cases e
        ·cases e
     rw [this]
     exact List.nodup_iff_pairwise_ne.mp ((uV F.nd).nodup List.nodup_range)
    ·exact .nil
   | free=>exact .nil
  ·rw [List.pairwise_iff_getElem]
   intro a b ha hb hab x hx y hy e
   subst e
   rw [List.length_range] at ha hb
   rw [List.getElem_range] at hx hy
   rw [ui V1 F (List.getElem?_eq_getElem ha)] at hx
   rw [ui V1 F (List.getElem?_eq_getElem hb)] at hy
   obtain ⟨z,hz,hx⟩:=hx
   obtain ⟨z',hz',hy⟩:=hy
   rw [hz] at hz'
   cases hz'
   have nm:∀ {i:Nat} (hi:i < rows.length),z5 rows[i].k = true->rows[i].z = z->z ∈ nms rows:=fun {i} hi h1 h2=>by
    unfold nms
    exact List.mem_map.mpr ⟨rows[i],List.mem_filter.mpr ⟨List.getElem_mem hi,h1⟩,h2⟩
   rcases hx with hx | hx
   ·rcases hy with hy | hy
    ·have h1:=xR (.inr rfl) rows 0 0 a V1.ord (List.getElem?_eq_getElem ha) hx.1
     have h2:=xR (.inr rfl) rows 0 0 b V1.ord (List.getElem?_eq_getElem hb) hy.1
     rw [h1] at h2
     have:=Option.some.inj h2
     omega
    ·exact hx.2 (nm hb hy.1 hy.2)
   ·rcases hy with hy | hy
    ·exact hy.2 (nm ha hx.1 hx.2)
    ·have d1:=wS hx.1 rows 0 a [] (List.getElem?_eq_getElem ha) (List.nodup_append.mp V1.nd).1
     have d2:=wS hy.1 rows 0 b [] (List.getElem?_eq_getElem hb) (List.nodup_append.mp V1.nd).1
     rw [hx.2] at d1
     rw [hy.2,d1] at d2
     have:=V.int.inj (Option.some.inj d2)
     omega
 ·rw [List.mem_flatMap]
  constructor
  ·rintro ⟨i,hi,hx⟩
   rw [ui V1 F (List.getElem?_eq_getElem (List.mem_range.mp hi))] at hx
   obtain ⟨z,hz,_⟩:=hx
   exact (List.getElem?_eq_some_iff.mp hz).1
  ·intro hx
   have hz:zs[x]? = some zs[x]:=List.getElem?_eq_getElem hx
   by_cases hm:zs[x] ∈ nms rows
   ·obtain ⟨l,r,hl,hb,he⟩:=zfJ hm
    exact ⟨l,List.mem_range.mpr (List.getElem?_eq_some_iff.mp hl).1,(ui V1 F hl).mpr ⟨_,hz,.inr ⟨hb,he⟩⟩⟩
   ·have hu:=F.un zs[x] (List.getElem_mem hx)
    have hb:zs[x] ∉ bars:=fun hb=>by
     unfold yT at hu
     rw [if_pos hb] at hu
     cases hu
    rw [zeL hb hm] at hu
    split at hu
    next ho=>
     obtain ⟨j,hj⟩:=Option.isSome_iff_exists.mp ho
     obtain ⟨m,r,e1,e2,e3⟩:=xQ rows 0 j hj
     exact ⟨m,List.mem_range.mpr (List.getElem?_eq_some_iff.mp e2).1,(ui V1 F e2).mpr ⟨_,hz,.inl ⟨e3,hm⟩⟩⟩
    ·cases hu
def zjc (K:Frag):List V->Hp->VK->Prop:=fun xs H Q=>∃ p ys,xs = [.ref p]/\(SqL K H p ys\/SqT K H p ys)/\Q (.int ys.length) H
theorem zeG {X:Cx} {K:Frag} (e:X.K = K):y1 X (.builtin "len") (zjc K):=by subst e; exact zB
def jC (K:Frag):Sp:=fun vs H Q _=>∃ (u la ln:Addr) (x:V) (i M:Nat) (us:List Addr) (rows:List Rw) (r:Rw) (bars zs:List Str) (ok:Addr->Prop),vs = [.ref u,.int (i:Nat),x,.ref la,.ref ln]/\TAt H u r/\rows[i]? = some r/\H la = some (.lst (us.map V.ref))/\Paired (TAt H) us rows/\yR rows bars/\H ln = some (.lst (zs.map V.str))/\zs.length<=50/\M<=30/\Fit rows bars M zs/\vq K ok H x (enF rows M zs i)/\∀ H',zm H H'->Q (.bl true) H'
theorem ziz:∀ k:Nat,k < 5->k ≠ 2->k ≠ 4->inV (.str (kw k)) [.str "seat",.str "both",.str "tag"] = true:=by decide +kernel
theorem vM:∀ k:Nat,k < 5->decide (V.str (kw k) = V.str "tail") = decide (k = 2):=by decide +kernel
theorem za4:∀ k:Nat,k < 5->decide (V.str (kw k) = V.str "bag") = decide (k = 4):=by decide +kernel
theorem zjw {x:V} {k:Nat} {b:Bool} (h5:k < 5) (h2:k ≠ 2) (h4:k ≠ 4):atI (jL k x b) 2 = some (.bl b):=by
 have:k = 0\/k = 1\/k = 3:=by omega
 rcases this with rfl | rfl | rfl <;> rfl
theorem zdt {ns:List Nat} (h:ns.Pairwise (· < ·)):(yI ns).Pairwise (·<=·):=by
 unfold yI
 rw [List.pairwise_map]
 exact List.Pairwise.imp (fun h=>by omega) h
theorem yl (ns:List Nat):(yI ns).length = ns.length:=by unfold yI; rw [List.length_map]
section
variable {P:Program} {w:World} {K:Frag} {mg:Str->Option Value} {base:Heap} {f CF:Addr} {fd:FuncData} {c:C5}
theorem zjk:([Str.ofString "_law_some"]:List Str).Nodup:=by decide +kernel
theorem zkf:([Str.ofString "_law_i",Str.ofString "_law_many"]:List Str).Nodup:=by decide +kernel
theorem zjp:([Str.ofString "_law_j",Str.ofString "_law_names",Str.ofString "_law_tellable"]:List Str).Nodup:=by decide +kernel
theorem jH:zu ["_law_one","_law_at","_law_entry_here","_law_told","_law_names","_law_many","_law_tellable"] ["_law_one","_law_at","_law_entry_here","_law_told","_law_names"] (ze wX):=⟨rfl,rfl,rfl,by decide +kernel,rfl,by decide +kernel,by decide +kernel⟩
theorem zec {g1 g2:Addr} {d1 d2:FuncData} (F:Fun K "_law_entry" "_law_entry" wX f fd) (U:zb2 mg) (T:zhn K mg) (cI:zp P w K mg base 1 "_law_is_int" g1 d1 ["_law_found"] vO) (cN:zp P w K mg base 2 "_law_numbers" g2 d2 ["_law_found"] (ut K)):zE P w K mg base CX0 3 f fd ["_law_one","_law_at","_law_entry_here","_law_told","_law_names"] (jC K):=by
 refine F.ok jH (fun vs H Q E h=>?_) (fun cdv A outer s H vs Q E hr h=>?_)
 ·obtain ⟨u,la,ln,x,i,M,us,rows,r,bars,zs,ok,rfl,_⟩:=h
  rfl
 obtain ⟨u,la,ln,x,i,M,us,rows,r,bars,zs,ok,rfl,hT,hri,hla,hu,V1,hln,lz,lM,FT,hE,q⟩:=h
 have hr1:z8 1 _:=hr.mono (by decide)
 have hU:=hr.units
 have l24:=V1.l24
 have hok:=V1.ok
 have rk:=hok r (List.mem_of_getElem? hri)
 refine ⟨_,zd (zw (i:=5) jH.nd rfl (Or.inr rfl) (cB zB U.len PySem.boot_len (ac (xp [] ["_law_some"] [none] rfl ⟨rfl,rfl,rfl,rfl⟩ (z6 (pv 3)) (zW 0) rfl rfl rfl
   (fun pins fp s H C=>⟨zn (i:=0) zjk rfl (Or.inl rfl) (.inr rfl),yq (zk (r:=rIn K false) zU (zy (r:=uP K) zr (pv 0) zg (fun _ _=>rfl)) (zM (ac zl (ac zl zc))) (by with_unfolding_all rfl)),pv 0⟩)) zc)))
  (zd (zI (PW.pt (xW (xg (yr (cB za3 T.isi boot_isinstance (ac (pv 2) (ac (ve (v:=.ty "tuple") rfl T.tuple PyProof.Rows.boot_tuple rfl) zc))))) (xH (zk zbw (cB zB U.len PySem.boot_len (ac (pv 2) zc)) zg (zt _)))))
   (zh (zA (xO (yb zU (zy zr (pv 0) zg (fun _ _=>rfl)) (zM (ac zl (ac zl (ac zl zc)))) (by with_unfolding_all rfl)) (xO (zy zr (pv 0) zg (fun _ _=>rfl)) (uS (yb (zby hU) (pv 2) (zR (ac zl zc)) (zt _))))))) zC)
  (zd (zI (zk zZ (zy zr (pv 0) zg (fun _ _=>rfl)) zl (zt _))
   (zh (zA (xO (yb zZ (zy zr (pv 2) zg (fun _ _=>rfl)) zl (zt _)) (xO (cF cN hr (ac (zy zr (pv 2) zg (fun _ _=>rfl)) zc)) (uS (yb (vZ hU) (xp ["_law_many"] ["_law_i","_law_many"] [none,some 5] rfl ⟨rfl,rfl,rfl,rfl⟩ (z6 (zy zr (pv 2) zg (fun _ _=>rfl))) (zW 0) rfl rfl rfl
    (fun pins fp s H C=>⟨zn (i:=0) zkf rfl (Or.inl rfl) (.inr rfl),yq (zk ja (pv 0) (pv 1) (zt _)),pv 0⟩)) (zM zc) (zt _))))))) zC)
  (zd (zI (zk zZ (zy zr (pv 0) zg (fun _ _=>rfl)) zl (zt _))
   (zd (zw (i:=6) jH.nd rfl (Or.inr rfl) (xp [] ["_law_some"] [none] rfl ⟨rfl,rfl,rfl,rfl⟩ (z6 (pv 3)) (zW 0) rfl rfl rfl
    (fun pins fp s H C=>⟨zn (i:=0) zjk rfl (Or.inl rfl) (.inr rfl),yq (zk (r:=rIn K false) zU (zy (r:=uP K) zr (pv 0) zg (fun _ _=>rfl)) (zM (ac zl (ac zl zc))) (by with_unfolding_all rfl)),zy (r:=uP K) zr (pv 0) zg (fun _ _=>rfl)⟩)))
   (zd (zI (PW.pt (xW (zk zbw (zy zr (pv 2) zg (fun _ _=>rfl)) zl (zt _)) (xH (xg (yr (cF cN hr (ac (zy zr (pv 2) zg (fun _ _=>rfl)) zc))))))) (zh (zA wD)) zC)
   (zh (zA (yb (vZ hU) (xp ["_law_tellable","_law_names"] ["_law_j","_law_names","_law_tellable"] [none,some 4,some 6] rfl ⟨rfl,rfl,rfl,rfl⟩ (z6 (zy zr (pv 2) zg (fun _ _=>rfl))) (zW 0) rfl rfl rfl
    (fun pins fp s H C=>⟨zn (i:=0) zjp rfl (Or.inl rfl) (.inr rfl),yq (PW.pt (xW (zk ja (pv 0) zg (zt _)) (xW (zk zhy (pv 0) (cB (zeG (K:=K) rfl) U.len PySem.boot_len (ac (pv 1) zc)) (zt _)) (xH (zk (r:=rIn K false) zU (zy (r:=zjd K) xr (pv 1) (pv 0) (fun _ _=>rfl)) (pv 2) (by with_unfolding_all rfl)))))),pv 0⟩)) (zM zc) (zt _)))))) zC)
  (zd (zI (zk zZ (zy zr (pv 2) zg (fun _ _=>rfl)) zl (zt _))
   (zh (zA (xO (yb zU (zy zr (pv 0) zg (fun _ _=>rfl)) (zM (ac zl (ac zl zc))) (by with_unfolding_all rfl)) (xO (cF cI hr1 (ac (zy zr (pv 2) zg (fun _ _=>rfl)) zc)) (uS (yb zZ (zy zr (pv 2) zg (fun _ _=>rfl)) (pv 1) (zt _))))))) zC)
  (zd (zI (PW.pt (xW (zk zbw (zy zr (pv 2) zg (fun _ _=>rfl)) zl (zt _)) (xW (zk zZ (zy zr (pv 0) zg (fun _ _=>rfl)) zl (zt _)) (xH (xg (yr (cF cI hr1 (ac (zy zr (pv 2) zg (fun _ _=>rfl)) zc)))))))) (zh (zA wD)) zC)
  (zh (zA (xO (yb zfm zg (zy zr (pv 2) zg (fun _ _=>rfl)) (zt _)) (xO (yb ja (zy zr (pv 2) zg (fun _ _=>rfl)) (cB zB U.len PySem.boot_len (ac (pv 4) zc)) (zt _)) (uS (yb zZ (zy xr (pv 4) (zy zr (pv 2) zg (fun _ _=>rfl)) (fun _ _=>rfl)) (zy zr (pv 0) zg (fun _ _=>rfl)) (zt _)))))))))))),?_⟩
 refine ⟨_,rfl,la,rfl,⟨_,SqL.of hla⟩,fun Ds hDs=>?_⟩
 refine vE (K:=K) TAt (fun r=>yL r.k) (fun u _=>.ref u) hDs hla hu (by omega) (fun i u r H' Nn S hu' hr' tr sH n1 s1'=>?_) (fun H1 s1 hDs1=>?_)
 ·have rk:=hok r (List.mem_of_getElem? hr')
  have tu:=sH _ _ tr
  refine ⟨_,rfl,u,_,0,_,rfl,rfl,SqT.of tu,xU rk.1,zz2,fun l hl=>?_⟩
  have s2:=zb hl (.lst [.str "seat",.str "both"])
  refine ⟨l,_,rfl,.inl (SqL.of za),rfl,rfl,_,rfl,?_⟩
  rw [if_neg Bool.false_ne_true,zaU rk.1]
  exact ⟨fun e=>⟨_,rfl,n1 _ s2 e⟩,fun e=>s1' _ s2 e⟩
 obtain ⟨up,eup,hup⟩:=jw hu (fun r=>yL r.k)
 rw [eup] at hDs1
 have lup:up.length = plN rows:=hup.length
 refine ⟨Ds,_,rfl,.inl (SqL.of hDs1),?_⟩
 have hT1:H1 u = some (.tup (jL r.k (.str r.z) r.b)):=s1 _ _ hT
 have hE1:=hE.same s1
 have hln1:=s1 _ _ hln
 have hla1:=s1 _ _ hla
 have hu1:=zK s1 hu
 have q1:∀ H',zm H1 H'->Q (.bl true) H':=fun H' sH=>q _ (s1.trans sH)
 dsimp only [yZ]
 rw [List.length_map,lup]
 clear hDs1 eup hup lup hE hT hln hla hu q
 by_cases k2:r.k = 2
 ·rw [zaY V1 hri k2] at hE1
  obtain ⟨ue,le,rfl,hue,_,hle⟩:=hE1
  refine ⟨_,rfl,ue,_,_,_,rfl,hue,yX K,_,rfl,?_⟩
  refine yk ?_
  refine ⟨_,rfl,ue,_,rfl,.inr hue,rfl,_,rfl,?_⟩
  refine yk ?_
  refine ⟨_,rfl,u,_,0,_,rfl,rfl,SqT.of hT1,xU rk.1,rfl,_,rfl,?_⟩
  rw [vM r.k rk.1]
  refine dT k2 ?_
  refine ⟨_,rfl,ue,_,0,_,rfl,rfl,hue,rfl,rfl,_,rfl,?_⟩
  refine xI ?_
  have lpl:(plL rows M).length<=30:=by unfold plL; rw [List.length_map,List.length_range]; omega
  refine ⟨_,rfl,ue,_,1,_,rfl,rfl,hue,rfl,le,yI (plL rows M),rfl,hle,by rw [yl]; omega,zdt zfe,fun H2 s2=>⟨_,rfl,?_⟩⟩
  refine xI ?_
  refine ⟨_,rfl,ue,_,1,_,rfl,rfl,s2.sqT hue,rfl,le,rfl,⟨_,SqL.of (s2 _ _ hle)⟩,fun D hD=>?_⟩
  refine jW (K:=K) (xs:=(yI (plL rows M)).map V.int) (plL rows M) (fun _=>false) (fun n=>V.int (n:Nat)) hD (SqL.of (s2 _ _ hle)) (by rw [List.length_map,yl]) (by rw [List.length_map,yl]; omega) (fun j x y H' Nn S hx hy sH nn1 ss1=>?_) (fun H3 s3 hD3=>?_)
  ·unfold yI at hx
   rw [List.getElem?_map,List.getElem?_map,hy] at hx
   have hx:V.int (y:Nat) = x:=Option.some.inj hx
   subst hx
   refine ⟨_,rfl,_,rfl,_,_,rfl,rfl,_,rfl,?_⟩
   have:¬ ((y:Nat):Int) < ((plN rows:Nat):Int):=by
    have:=(zdl.mp (List.mem_of_getElem? hy)).1
    omega
   exact ⟨fun e=>absurd (of_decide_eq_true e) this,fun _=>ss1 _ (zm.refl _) rfl⟩
  rw [List.filter_eq_nil_iff.mpr (fun _ _=>by decide)] at hD3
  refine ⟨zz0,fun l0 hl0=>?_⟩
  have s4:=zb hl0 (.lst [])
  exact ⟨D,l0,_,rfl,rfl,s4 _ _ hD3,za,q1 _ (s2.trans (s3.trans s4))⟩
 by_cases k4:r.k = 4
 ·rw [zcS V1 hri k4] at hE1
  obtain ⟨ue,le,rfl,hue,_,hle⟩:=hE1
  refine ⟨_,rfl,ue,_,_,_,rfl,hue,yX K,_,rfl,?_⟩
  refine yk ?_
  refine ⟨_,rfl,ue,_,rfl,.inr hue,rfl,_,rfl,?_⟩
  refine yk ?_
  refine ⟨_,rfl,u,_,0,_,rfl,rfl,SqT.of hT1,xU rk.1,rfl,_,rfl,?_⟩
  rw [vM r.k rk.1]
  refine dF k2 ?_
  refine ⟨_,rfl,u,_,0,_,rfl,rfl,SqT.of hT1,xU rk.1,rfl,_,rfl,?_⟩
  rw [za4 r.k rk.1]
  refine dT k4 ?_
  refine ⟨_,rfl,la,rfl,⟨_,SqL.of hla1⟩,fun Db hDb=>?_⟩
  refine vE (K:=K) TAt (fun r=>z5 r.k) (fun _ r=>.str r.z) hDb hla1 hu1 (by omega) (fun i u r H' Nn S hu' hr' tr sH n1 s1'=>?_) (fun H2 s2 hDb2=>?_)
  ·have rk:=hok r (List.mem_of_getElem? hr')
   have tu:=sH _ _ tr
   refine ⟨_,rfl,u,_,0,_,rfl,rfl,SqT.of tu,xU rk.1,zz2,fun l hl=>?_⟩
   have s2':=zb hl (.lst [.str "both",.str "tag"])
   have tu2:=s2' _ _ tu
   refine ⟨l,_,rfl,.inl (SqL.of za),rfl,rfl,_,rfl,?_⟩
   rw [if_neg Bool.false_ne_true,show inV (V.str (kw r.k)) [.str "both",.str "tag"] = z5 r.k from ug r.k rk.1]
   exact ⟨fun e=>⟨_,rfl,u,_,1,_,rfl,rfl,SqT.of tu2,zcC,n1 _ s2' e⟩,fun e=>s1' _ s2' e⟩
  rw [zeK hu1] at hDb2
  dsimp only [yZ]
  have hue2:=s2.sqT hue
  refine ⟨_,rfl,ue,_,0,_,rfl,rfl,hue2,rfl,rfl,_,rfl,?_⟩
  refine yk ?_
  have sbl:=uV (rows:=rows) FT.nd
  have lnm:(xj rows (fpZ zs)).length<=50:=by
   have:=sbl.length_le
   rw [List.length_range] at this
   omega
  have hmem:∀ j ∈ xj rows (fpZ zs),∃ z,zs[j]? = some z/\z ∉ nms rows:=fun j hj=>(qR V1 FT.nd).mp hj
  have hpw:(xj rows (fpZ zs)).Pairwise (· < ·):=List.Pairwise.sublist sbl List.pairwise_lt_range
  generalize xj rows (fpZ zs) = nx at hle lnm hmem hpw sbl
  refine ⟨_,rfl,ue,_,1,_,rfl,rfl,hue2,rfl,le,yI nx,rfl,s2 _ _ hle,by rw [yl]; omega,zdt hpw,fun H3 s3=>⟨_,rfl,?_⟩⟩
  refine yk ?_
  have s13:=s2.trans s3
  refine ⟨_,rfl,ue,_,1,_,rfl,rfl,s13.sqT hue,rfl,le,rfl,⟨_,SqL.of (s13 _ _ hle)⟩,fun D hD=>?_⟩
  refine jW (K:=K) (xs:=(yI nx).map V.int) nx (fun _=>false) (fun n=>V.int (n:Nat)) hD (SqL.of (s13 _ _ hle)) (by rw [List.length_map,yl]) (by rw [List.length_map,yl]; omega) (fun j x y H' Nn S hx hy sH nn1 ss1=>?_) (fun H4 s4 hD4=>?_)
  ·unfold yI at hx
   rw [List.getElem?_map,List.getElem?_map,hy] at hx
   have hx:V.int (y:Nat) = x:=Option.some.inj hx
   subst hx
   obtain ⟨z,hz,hzn⟩:=hmem y (List.mem_of_getElem? hy)
   have hyl:=(List.getElem?_eq_some_iff.mp hz).1
   refine ⟨_,rfl,_,_,rfl,rfl,_,rfl,?_⟩
   refine dF (show ¬ ((y:Nat):Int) < 0 by omega) ?_
   refine ⟨_,rfl,_,rfl,ln,_,rfl,.inl (SqL.of ((s13.trans sH) _ _ hln1)),_,_,rfl,rfl,_,rfl,?_⟩
   refine dF (show ¬ (((zs.map V.str).length:Nat):Int)<=((y:Nat):Int) by rw [List.length_map]; omega) ?_
   refine ⟨_,rfl,_,rfl,ln,_,_,.str z,rfl,rfl,SqL.of ((s13.trans sH) _ _ hln1),xf (by rw [List.getElem?_map,hz]; rfl),_,rfl,Db,_,rfl,.inl (SqL.of ((s3.trans sH) _ _ hDb2)),rfl,xP,_,rfl,?_⟩
   rw [if_neg Bool.false_ne_true,x6,decide_eq_false hzn]
   exact ⟨fun e=>Bool.noConfusion e,fun _=>ss1 _ (zm.refl _) rfl⟩
  rw [List.filter_eq_nil_iff.mpr (fun _ _=>by decide)] at hD4
  refine ⟨zz0,fun l0 hl0=>?_⟩
  have s5:=zb hl0 (.lst [])
  exact ⟨D,l0,_,rfl,rfl,s5 _ _ hD4,za,q1 _ (s13.trans (s4.trans s5))⟩
 rw [j5 hri k2 k4] at hE1
 by_cases cp:yL r.k = true/\i < M
 ·rw [if_pos cp] at hE1
  obtain ⟨ue,rfl,hue⟩:=hE1
  refine ⟨_,rfl,ue,_,_,_,rfl,hue,yX K,_,rfl,?_⟩
  refine yk ?_
  refine ⟨_,rfl,ue,_,rfl,.inr hue,rfl,_,rfl,?_⟩
  refine yk ?_
  refine ⟨_,rfl,u,_,0,_,rfl,rfl,SqT.of hT1,xU rk.1,rfl,_,rfl,?_⟩
  rw [vM r.k rk.1]
  refine dF k2 ?_
  refine ⟨_,rfl,u,_,0,_,rfl,rfl,SqT.of hT1,xU rk.1,rfl,_,rfl,?_⟩
  rw [za4 r.k rk.1]
  refine dF k4 ?_
  refine ⟨_,rfl,ue,_,0,_,rfl,rfl,hue,rfl,rfl,_,rfl,?_⟩
  refine xI ?_
  refine ⟨_,rfl,u,_,0,_,rfl,rfl,SqT.of hT1,xU rk.1,zz2,fun l hl=>?_⟩
  have s2:=zb hl (.lst [.str "seat",.str "both"])
  refine ⟨l,_,rfl,.inl (SqL.of za),rfl,rfl,_,rfl,?_⟩
  refine vF (by rw [if_neg Bool.false_ne_true,zaU rk.1,cp.1]) ?_
  have hue2:=s2.sqT hue
  refine ⟨_,rfl,ue,_,1,_,rfl,rfl,hue2,rfl,_,rfl,_,rfl,?_⟩
  refine xI ?_
  refine ⟨_,rfl,ue,_,1,_,rfl,rfl,hue2,rfl,_,rfl,rfl,?_⟩
  rw [decide_eq_true rfl]
  exact q1 _ s2
 rw [if_neg cp] at hE1
 by_cases cn:z5 r.k = true/\r.z ∈ zs
 ·rw [if_pos cn] at hE1
  obtain ⟨ue,rfl,hue⟩:=hE1
  have hat:=zaV cn.2
  generalize (zs.findIdx fun y=>decide (y = r.z)) = n at hue hat
  have hnl:=(List.getElem?_eq_some_iff.mp hat).1
  have k0:r.k ≠ 0:=fun e=>by rw [e] at cn; cases cn.1
  refine ⟨_,rfl,ue,_,_,_,rfl,hue,yX K,_,rfl,?_⟩
  refine yk ?_
  refine ⟨_,rfl,ue,_,rfl,.inr hue,rfl,_,rfl,?_⟩
  refine yk ?_
  refine ⟨_,rfl,u,_,0,_,rfl,rfl,SqT.of hT1,xU rk.1,rfl,_,rfl,?_⟩
  rw [vM r.k rk.1]
  refine dF k2 ?_
  refine ⟨_,rfl,u,_,0,_,rfl,rfl,SqT.of hT1,xU rk.1,rfl,_,rfl,?_⟩
  rw [za4 r.k rk.1]
  refine dF k4 ?_
  refine ⟨_,rfl,ue,_,0,_,rfl,rfl,hue,rfl,rfl,_,rfl,?_⟩
  refine yk ?_
  refine ⟨_,rfl,ue,_,0,_,rfl,rfl,hue,rfl,rfl,_,rfl,?_⟩
  refine yk ?_
  refine ⟨_,rfl,u,_,0,_,rfl,rfl,SqT.of hT1,xU rk.1,rfl,_,rfl,?_⟩
  rw [zbh r.k rk.1]
  refine dF k0 ?_
  refine ⟨_,rfl,ue,_,1,_,rfl,rfl,hue,rfl,_,rfl,_,rfl,?_⟩
  refine yk ?_
  refine ⟨_,rfl,ue,_,1,_,rfl,rfl,hue,rfl,_,_,rfl,rfl,_,rfl,?_⟩
  refine dT (show (0:Int)<=((n:Nat):Int) by omega) ?_
  refine ⟨_,rfl,ue,_,1,_,rfl,rfl,hue,rfl,_,rfl,ln,_,rfl,.inl (SqL.of hln1),_,_,rfl,rfl,_,rfl,?_⟩
  refine dT (show ((n:Nat):Int) < (((zs.map V.str).length:Nat):Int) by rw [List.length_map]; omega) ?_
  refine ⟨_,rfl,_,rfl,ue,_,1,_,rfl,rfl,hue,rfl,ln,_,_,.str r.z,rfl,rfl,SqL.of hln1,xf (by rw [List.getElem?_map,hat]; rfl),_,rfl,u,_,1,_,rfl,rfl,SqT.of hT1,zcC,rfl,?_⟩
  rw [decide_eq_true rfl]
  exact q1 _ (zm.refl _)
 ·rw [if_neg cn] at hE1
  obtain ⟨ue,rfl,hue⟩:=hE1
  refine ⟨_,rfl,ue,_,_,_,rfl,hue,yX K,_,rfl,?_⟩
  refine yk ?_
  refine ⟨_,rfl,ue,_,rfl,.inr hue,rfl,_,rfl,?_⟩
  refine xI ?_
  have hb:r.b = true:=by
   have hl:=FT.la i r hri
   rw [zdw,vh] at hl
   have h5:fr r.k r.b = r.b:=by
    have:∀ k,k < 5->k ≠ 2->k ≠ 4->∀ b,fr k b = b:=by decide +kernel
    exact this r.k rk.1 k2 k4 r.b
   rw [h5] at hl
   have e1:(yL r.k && decide (i < M)) = false:=by
    cases h:yL r.k with
    | false=>rfl
    | true=>exact decide_eq_false fun h'=>cp ⟨h,h'⟩
   have e2:(z5 r.k && decide (r.z ∈ zs)) = false:=by
    cases h:z5 r.k with
    | false=>rfl
    | true=>exact decide_eq_false fun h'=>cn ⟨h,h'⟩
   rw [e1,e2] at hl
   cases h:r.b with
   | true=>rfl
   | false=>rw [h] at hl; cases hl
  refine ⟨_,rfl,u,_,0,_,rfl,rfl,SqT.of hT1,xU rk.1,zz3,fun l hl=>?_⟩
  have s2:=zb hl (.lst [.str "seat",.str "both",.str "tag"])
  refine ⟨l,_,rfl,.inl (SqL.of za),rfl,rfl,_,rfl,?_⟩
  refine vF (by rw [if_neg Bool.false_ne_true,ziz r.k rk.1 k2 k4]) ?_
  refine ⟨_,rfl,u,_,2,_,rfl,rfl,SqT.of (s2 _ _ hT1),zjw rk.1 k2 k4,_,rfl,?_⟩
  refine vF hb ?_
  refine ⟨_,rfl,zz1,fun l2 hl2=>?_⟩
  have s3:=zb hl2 (.tup [.str "free"])
  refine ⟨ue,l2,_,_,rfl,rfl,(s2.trans s3).sqT hue,SqT.of za,rfl,rfl,?_⟩
  have e:L2.eqT [.str "free"] [.str "free"] = true:=by unfold L2.eqT; simp [List.range_succ,eqV]
  rw [e]
  exact q1 _ (s2.trans s3)
end
def ziO:En->Prop
 | .one wd _=>wd = "place"\/wd = "name"
 | .many wd _=>wd = "places"\/wd = "names"
 | .free=>True
theorem zf5 {rows:List Rw} {M:Nat} {zs:List Str} {i:Nat}:ziO (enF rows M zs i):=by
 unfold enF
 split
 ·exact .inl rfl
 ·split
  ·exact .inr rfl
  ·split
   ·split
    ·exact .inl rfl
    ·split
     ·exact .inr rfl
     ·exact True.intro
   ·exact True.intro
def zcb (K:Frag):Sp:=fun vs H Q _=>∃ (l:Addr) (xs:List V) (es:List En) (ok:Addr->Prop),vs = [.ref l]/\H l = some (.lst xs)/\Paired (vq K ok H) xs es/\(∀ e ∈ es,ziO e)/\(es.flatMap enP).length < 64/\(es.flatMap enN).length < 64/\
 ∀ (p l1 l2:Addr) (n1 n2:List Int) (H':Hp),zm H H'->H' p = some (.tup [.ref l1,.ref l2])->H' l1 = some (.lst (n1.map V.int))->H' l2 = some (.lst (n2.map V.int))->n1.Perm (yI (es.flatMap enP))->n1.Pairwise (·<=·)->n2.Perm (yI (es.flatMap enN))->n2.Pairwise (·<=·)->Q (.ref p) H'
theorem zc5 {g:En->List Nat} {es:List En} {i:Nat} {e:En} (h:es[i]? = some e):(es.take (i + 1)).flatMap g = (es.take i).flatMap g ++ g e:=by
 have hi:=(List.getElem?_eq_some_iff.mp h).1
 rw [List.take_succ_eq_append_getElem hi,(List.getElem?_eq_some_iff.mp h).2,List.flatMap_append]
 simp
theorem u9 {g:En->List Nat} (es:List En) (i:Nat):((es.take i).flatMap g).length<=(es.flatMap g).length:=by
 conv=>rhs; rw [<- List.take_append_drop i es,List.flatMap_append,List.length_append]
 omega
theorem ua (a b:List Nat):yI (a ++ b) = yI a ++ yI b:=by unfold yI; rw [List.map_append]
section
variable {P:Program} {w:World} {K:Frag} {mg:Str->Option Value} {base:Heap} {f CF:Addr} {fd:FuncData} {c:C5}
structure UI (H H':Hp) (lp ln:Addr) (ps ns:List Nat):Prop where
 s:zm H H'
 np:H lp = none
 nn:H ln = none
 ne:lp ≠ ln
 ep:H' lp = some (.lst ((yI ps).map V.int))
 en:H' ln = some (.lst ((yI ns).map V.int))
theorem UI.addP {H H':Hp} {lp ln:Addr} {ps ns:List Nat} (h:UI H H' lp ln ps ns) (n:Nat):UI H (upd H' lp (.lst ((yI ps).map V.int ++ [.int (n:Nat)]))) lp ln (ps ++ [n]) ns:=
 ⟨fun b o e=>by rw [zi (zf e h.np)]; exact h.s _ _ e,h.np,h.nn,h.ne,by rw [za,ua,List.map_append]; rfl,by rw [zi (Ne.symm h.ne)]; exact h.en⟩
theorem UI.addN {H H':Hp} {lp ln:Addr} {ps ns:List Nat} (h:UI H H' lp ln ps ns) (n:Nat):UI H (upd H' ln (.lst ((yI ns).map V.int ++ [.int (n:Nat)]))) lp ln ps (ns ++ [n]):=
 ⟨fun b o e=>by rw [zi (zf e h.nn)]; exact h.s _ _ e,h.np,h.nn,h.ne,by rw [zi h.ne]; exact h.ep,by rw [za,ua,List.map_append]; rfl⟩
theorem UI.catP {H H':Hp} {lp ln p:Addr} {ps ns ms:List Nat} (h:UI H H' lp ln ps ns) (hp:H' p = none):UI H (upd H' p (.lst ((yI ps).map V.int ++ (yI ms).map V.int))) p ln (ps ++ ms) ns:=
 ⟨h.s.trans (zb hp _),h.s.free hp,h.nn,(fun e=>by rw [e,h.en] at hp; cases hp),by rw [za,ua,List.map_append],zb hp _ _ _ h.en⟩
theorem UI.catN {H H':Hp} {lp ln p:Addr} {ps ns ms:List Nat} (h:UI H H' lp ln ps ns) (hp:H' p = none):UI H (upd H' p (.lst ((yI ns).map V.int ++ (yI ms).map V.int))) lp p ps (ns ++ ms):=
 ⟨h.s.trans (zb hp _),h.np,h.s.free hp,(fun e=>by rw [<- e,h.ep] at hp; cases hp),zb hp _ _ _ h.ep,by rw [za,ua,List.map_append]⟩
theorem uw:zu ["_law_found","_law_places","_law_names","_law_entry_here"] ["_law_found"] (ze qw):=⟨rfl,rfl,rfl,by decide +kernel,rfl,by decide +kernel,by decide +kernel⟩
theorem zgM (F:Fun K "_law_used" "_law_used" qw f fd) (hso:mg "sorted" = none):zE P w K mg base CX0 1 f fd ["_law_found"] (zcb K):=by
 refine F.ok uw (fun vs H Q E h=>?_) (fun cdv A outer s H vs Q E hr h=>?_)
 ·obtain ⟨l,xs,es,ok,rfl,_⟩:=h
  rfl
 obtain ⟨l,xs,es,ok,rfl,hl,hp,hok,b1,b2,q⟩:=h
 refine ⟨_,zd (zw (i:=1) uw.nd rfl (Or.inl rfl) (zM zc))
  (zd (zw (i:=2) uw.nd rfl (Or.inl rfl) (zM zc))
  (zd (y9 PassesOwn.never rfl (z6 (pv 0)) (zn (i:=3) uw.nd rfl (Or.inl rfl))
   (zd (zI (zk zZ (zy zr (pv 3) zg (fun _ _=>rfl)) zl (zt _)) (zh (zJ (yV PySem.F.plainAttrs_list PySem.F.slot_list_append PySem.F.type_list_append zQ (pv 1) (ac (zy zr (pv 3) zg (fun _ _=>rfl)) zc)))) zC)
   (zd (zI (zk zZ (zy zr (pv 3) zg (fun _ _=>rfl)) zl (zt _)) (zh (zw (i:=1) uw.nd rfl (Or.inl rfl) (zx yW (pv 1) (zy zr (pv 3) zg (fun _ _=>rfl))))) zC)
   (zd (zI (zk zZ (zy zr (pv 3) zg (fun _ _=>rfl)) zl (zt _)) (zh (zJ (yV PySem.F.plainAttrs_list PySem.F.slot_list_append PySem.F.type_list_append zQ (pv 2) (ac (zy zr (pv 3) zg (fun _ _=>rfl)) zc)))) zC)
   (zh (zI (zk zZ (zy zr (pv 3) zg (fun _ _=>rfl)) zl (zt _)) (zh (zw (i:=2) uw.nd rfl (Or.inl rfl) (zx yW (pv 2) (zy zr (pv 3) zg (fun _ _=>rfl))))) zC))))))
  (zh (zA (zR (ac (cB wA hso PyProof.Rows.boot_sorted (ac (pv 1) zc)) (ac (cB wA hso PyProof.Rows.boot_sorted (ac (pv 2) zc)) zc))))))),?_⟩
 refine ⟨zz0,fun lp hlp=>?_⟩
 have s1:=zb hlp (.lst [])
 have g1:upd H lp (.lst []) lp = some (.lst []):=za
 dsimp only [yZ]
 generalize upd H lp (.lst []) = H1 at s1 g1 |-
 refine ⟨zz0,fun ln hln=>?_⟩
 have s2:=zb hln (.lst [])
 have g2:upd H1 ln (.lst []) ln = some (.lst []):=za
 dsimp only [yZ]
 generalize upd H1 ln (.lst []) = H2 at s2 g2 |-
 have U0:UI H H2 lp ln [] []:=⟨s1.trans s2,hlp,s1.free hln,(fun e=>by rw [<- e,g1] at hln; cases hln),s2 _ _ g1,g2⟩
 have lx:xs.length = es.length:=hp.length
 refine ⟨_,rfl,l,rfl,⟨_,SqL.of ((s1.trans s2) _ _ hl)⟩,wj (K:=K) (a:=l) (xs:=xs) (fun i σ H'=>∃ (lp ln:Addr) (v3:Option V),σ = [some (.ref l),some (.ref lp),some (.ref ln),v3]/\UI H H' lp ln ((es.take i).flatMap enP) ((es.take i).flatMap enN)) ⟨lp,ln,_,rfl,U0⟩ (fun i σ H' _ ⟨_,_,_,_,U⟩=>SqL.of (U.s _ _ hl)) ?_ ?_⟩
 ·clear U0 s1 s2 g1 g2 hlp hln lp ln H1 H2
  rintro i x σ H3 hx ⟨lp,ln,v3,rfl,U⟩
  obtain ⟨e,he,hE⟩:=Paired.get hp hx
  have hEo:=hok e (List.mem_of_getElem? he)
  have hE:=hE.same U.s
  have tP:=zc5 (g:=enP) he
  have tN:=zc5 (g:=enN) he
  have lP:=Nat.lt_of_le_of_lt (u9 (g:=enP) es (i + 1)) b1
  have lN:=Nat.lt_of_le_of_lt (u9 (g:=enN) es (i + 1)) b2
  rw [tP] at lP |-
  rw [tN] at lN |-
  generalize (es.take i).flatMap enP = ps at U lP
  generalize (es.take i).flatMap enN = ns at U lN
  clear tP tN
  have neq:∀ {a b:Str},a ≠ b->¬ (V.str a = V.str b):=fun h e=>h (V.str.inj e)
  cases e with
  | one wd n=>
   obtain ⟨u,rfl,hu⟩:=hE
   rcases hEo with rfl | rfl
   ·have ez:ps ++ enP (.one "place" n) = ps ++ [n]:=rfl
    have ez2:ns ++ enN (.one "place" n) = ns:=by
     show ns ++ (if ("place" : Str) = "name" then [n] else []) = ns
     rw [if_neg (by decide +kernel),List.append_nil]
    rw [ez,ez2] at *
    have lps:ps.length < 64:=by rw [List.length_append] at lP; omega
    refine ⟨_,rfl,u,_,0,_,rfl,rfl,hu,rfl,rfl,_,rfl,?_⟩
    refine dT rfl ?_
    refine ⟨_,rfl,.inl ⟨rfl,_,SqL.of U.ep⟩,_,rfl,u,_,1,_,rfl,rfl,hu,rfl,lp,_,_,rfl,rfl,U.ep,zF (by rw [List.length_map,yl]; omega),?_⟩
    have U2:=U.addP n
    have hu2:SqT K (upd H3 lp (.lst ((yI ps).map V.int ++ [.int (n:Nat)]))) u [.str "place",.int (n:Nat)]:=by
     rcases hu with (h | ⟨o,h⟩) | h
     ·exact .inl (.inl (by rw [zi (fun e=>by rw [e,U.ep] at h; cases h)]; exact h))
     ·exact .inl (.inr ⟨o,by rw [zi (fun e=>by rw [e,U.ep] at h; cases h)]; exact h⟩)
     ·exact .inr h
    generalize upd H3 lp (.lst ((yI ps).map V.int ++ [.int (n:Nat)])) = H4 at U2 hu2 |-
    refine ⟨_,rfl,u,_,0,_,rfl,rfl,hu2,rfl,rfl,_,rfl,?_⟩
    refine dF (neq (by decide +kernel)) ?_
    refine ⟨_,rfl,u,_,0,_,rfl,rfl,hu2,rfl,rfl,_,rfl,?_⟩
    refine dF (neq (by decide +kernel)) ?_
    refine ⟨_,rfl,u,_,0,_,rfl,rfl,hu2,rfl,rfl,_,rfl,?_⟩
    refine dF (neq (by decide +kernel)) ?_
    exact ⟨lp,ln,_,rfl,U2⟩
   ·have ez:ps ++ enP (.one "name" n) = ps:=by
     show ps ++ (if ("name" : Str) = "place" then [n] else []) = ps
     rw [if_neg (by decide +kernel),List.append_nil]
    have ez2:ns ++ enN (.one "name" n) = ns ++ [n]:=rfl
    rw [ez,ez2] at *
    have lns:ns.length < 64:=by rw [List.length_append] at lN; omega
    refine ⟨_,rfl,u,_,0,_,rfl,rfl,hu,rfl,rfl,_,rfl,?_⟩
    refine dF (neq (by decide +kernel)) ?_
    refine ⟨_,rfl,u,_,0,_,rfl,rfl,hu,rfl,rfl,_,rfl,?_⟩
    refine dF (neq (by decide +kernel)) ?_
    refine ⟨_,rfl,u,_,0,_,rfl,rfl,hu,rfl,rfl,_,rfl,?_⟩
    refine dT rfl ?_
    refine ⟨_,rfl,.inl ⟨rfl,_,SqL.of U.en⟩,_,rfl,u,_,1,_,rfl,rfl,hu,rfl,ln,_,_,rfl,rfl,U.en,zF (by rw [List.length_map,yl]; omega),?_⟩
    have U2:=U.addN n
    have hu2:SqT K (upd H3 ln (.lst ((yI ns).map V.int ++ [.int (n:Nat)]))) u [.str "name",.int (n:Nat)]:=by
     rcases hu with (h | ⟨o,h⟩) | h
     ·exact .inl (.inl (by rw [zi (fun e=>by rw [e,U.en] at h; cases h)]; exact h))
     ·exact .inl (.inr ⟨o,by rw [zi (fun e=>by rw [e,U.en] at h; cases h)]; exact h⟩)
     ·exact .inr h
    generalize upd H3 ln (.lst ((yI ns).map V.int ++ [.int (n:Nat)])) = H4 at U2 hu2 |-
    refine ⟨_,rfl,u,_,0,_,rfl,rfl,hu2,rfl,rfl,_,rfl,?_⟩
    refine dF (neq (by decide +kernel)) ?_
    exact ⟨lp,ln,_,rfl,U2⟩
  | many wd ms=>
   obtain ⟨u,le,rfl,hu,_,hle⟩:=hE
   rcases hEo with rfl | rfl
   ·have ez:ps ++ enP (.many "places" ms) = ps ++ ms:=rfl
    have ez2:ns ++ enN (.many "places" ms) = ns:=by
     show ns ++ (if ("places" : Str) = "names" then ms else []) = ns
     rw [if_neg (by decide +kernel),List.append_nil]
    rw [ez,ez2] at *
    have lP:ps.length + ms.length < 64:=by rw [List.length_append] at lP; exact lP
    refine ⟨_,rfl,u,_,0,_,rfl,rfl,hu,rfl,rfl,_,rfl,?_⟩
    refine dF (neq (by decide +kernel)) ?_
    refine ⟨_,rfl,u,_,0,_,rfl,rfl,hu,rfl,rfl,_,rfl,?_⟩
    refine dT rfl ?_
    refine ⟨_,rfl,_,rfl,u,_,1,_,rfl,rfl,hu,rfl,lp,le,_,_,rfl,rfl,U.ep,hle,ye (by rw [List.length_map,yl,List.length_map,yl]; omega),fun p hpn=>?_⟩
    have U2:=U.catP (ms:=ms) hpn
    have hu2:=(zb hpn (.lst ((yI ps).map V.int ++ (yI ms).map V.int))).sqT hu
    dsimp only [yZ]
    generalize upd H3 p (.lst ((yI ps).map V.int ++ (yI ms).map V.int)) = H4 at U2 hu2 |-
    refine ⟨_,rfl,u,_,0,_,rfl,rfl,hu2,rfl,rfl,_,rfl,?_⟩
    refine dF (neq (by decide +kernel)) ?_
    refine ⟨_,rfl,u,_,0,_,rfl,rfl,hu2,rfl,rfl,_,rfl,?_⟩
    refine dF (neq (by decide +kernel)) ?_
    exact ⟨p,ln,_,rfl,U2⟩
   ·have ez:ps ++ enP (.many "names" ms) = ps:=by
     show ps ++ (if ("names" : Str) = "places" then ms else []) = ps
     rw [if_neg (by decide +kernel),List.append_nil]
    have ez2:ns ++ enN (.many "names" ms) = ns ++ ms:=rfl
    rw [ez,ez2] at *
    have lN:ns.length + ms.length < 64:=by rw [List.length_append] at lN; exact lN
    refine ⟨_,rfl,u,_,0,_,rfl,rfl,hu,rfl,rfl,_,rfl,?_⟩
    refine dF (neq (by decide +kernel)) ?_
    refine ⟨_,rfl,u,_,0,_,rfl,rfl,hu,rfl,rfl,_,rfl,?_⟩
    refine dF (neq (by decide +kernel)) ?_
    refine ⟨_,rfl,u,_,0,_,rfl,rfl,hu,rfl,rfl,_,rfl,?_⟩
    refine dF (neq (by decide +kernel)) ?_
    refine ⟨_,rfl,u,_,0,_,rfl,rfl,hu,rfl,rfl,_,rfl,?_⟩
    refine dT rfl ?_
    refine ⟨_,rfl,_,rfl,u,_,1,_,rfl,rfl,hu,rfl,ln,le,_,_,rfl,rfl,U.en,hle,ye (by rw [List.length_map,yl,List.length_map,yl]; omega),fun p hpn=>?_⟩
    exact ⟨lp,p,_,rfl,U.catN (ms:=ms) hpn⟩
  | free=>
   obtain ⟨u,rfl,hu⟩:=hE
   have ez:ps ++ enP .free = ps:=List.append_nil _
   have ez2:ns ++ enN .free = ns:=List.append_nil _
   rw [ez,ez2] at *
   refine ⟨_,rfl,u,_,0,_,rfl,rfl,hu,rfl,rfl,_,rfl,?_⟩
   refine dF (neq (by decide +kernel)) ?_
   refine ⟨_,rfl,u,_,0,_,rfl,rfl,hu,rfl,rfl,_,rfl,?_⟩
   refine dF (neq (by decide +kernel)) ?_
   refine ⟨_,rfl,u,_,0,_,rfl,rfl,hu,rfl,rfl,_,rfl,?_⟩
   refine dF (neq (by decide +kernel)) ?_
   refine ⟨_,rfl,u,_,0,_,rfl,rfl,hu,rfl,rfl,_,rfl,?_⟩
   refine dF (neq (by decide +kernel)) ?_
   exact ⟨lp,ln,_,rfl,U⟩
 ·clear U0 s1 s2 g1 g2 hlp hln lp ln H1 H2
  rintro σ H3 ⟨lp,ln,v3,rfl,U⟩
  rw [lx,List.take_length] at U
  refine ⟨_,rfl,lp,_,rfl,SqL.of U.ep,by rw [yl]; exact b1,fun n1 l1 hp1 hs1 hl1=>?_⟩
  have s4:=zb hl1 (.lst (n1.map V.int))
  have e4:upd H3 l1 (.lst (n1.map V.int)) l1 = some (.lst (n1.map V.int)):=za
  have U4:=s4 _ _ U.en
  generalize upd H3 l1 (.lst (n1.map V.int)) = H4 at s4 e4 U4 |-
  refine ⟨_,rfl,ln,_,rfl,SqL.of U4,by rw [yl]; exact b2,fun n2 l2 hp2 hs2 hl2=>?_⟩
  have s5:=zb hl2 (.lst (n2.map V.int))
  have e5:upd H4 l2 (.lst (n2.map V.int)) l2 = some (.lst (n2.map V.int)):=za
  generalize upd H4 l2 (.lst (n2.map V.int)) = H5 at s5 e5 |-
  refine ⟨zz2,fun p hpn=>?_⟩
  have s6:=zb hpn (.tup [.ref l1,.ref l2])
  exact q p l1 l2 n1 n2 _ (U.s.trans (s4.trans (s5.trans s6))) za (s6 _ _ (s5 _ _ e4)) (s6 _ _ e5) hp1 hs1 hp2 hs2
end
def enL (rows:List Rw) (M:Nat) (zs:List Str):List En:=(List.range rows.length).map (enF rows M zs)
theorem ziI {rows:List Rw} {M:Nat} {zs:List Str} {i:Nat} {e:En} (h:(enL rows M zs)[i]? = some e):e = enF rows M zs i:=by
 unfold enL at h
 rw [List.getElem?_map] at h
 cases hr:(List.range rows.length)[i]? with
 | none=>rw [hr] at h; cases h
 | some j=>
  rw [hr] at h
  have:=List.getElem?_eq_some_iff.mp hr
  obtain ⟨_,rfl⟩:=this
  rw [List.getElem_range] at h
  exact (Option.some.inj h).symm
def jB (K:Frag):Sp:=fun vs H Q _=>∃ (lf la lt lp:Addr) (xs:List V) (us:List Addr) (rows:List Rw) (bars:List Str) (ts:List Int) (ys:List V) (ps:List (Str × Int)) (ok:Addr->Prop),vs = [.ref lf,.ref la,.ref lt,.ref lp]/\H lf = some (.lst xs)/\Paired (vq K ok H) xs (enL rows ts.length (ps.map (·.1)))/\H la = some (.lst (us.map V.ref))/\Paired (TAt H) us rows/\yR rows bars/\H lt = some (.lst (ts.map V.int))/\H lp = some (.lst ys)/\Paired (zH K T' H 1) ys (ps.map xb)/\ts.length<=30/\ps.length<=50/\Fit rows bars ts.length (ps.map (·.1))/\∀ H',zm H H'->Q (.bl true) H'
theorem qY (n:Nat):(L2.wy n).Pairwise (·<=·):=by
 unfold L2.wy
 rw [List.pairwise_map]
 exact List.Pairwise.imp (fun h=>by omega) (List.pairwise_lt_range (n:=n))
section
variable {P:Program} {w:World} {K:Frag} {mg:Str->Option Value} {base:Heap} {f CF:Addr} {fd:FuncData} {c:C5}
theorem zhz:([Str.ofString "_law_name",Str.ofString "_law_thing_here"]:List Str).Nodup:=by decide +kernel
theorem vQ:zu ["_law_found","_law_told","_law_things","_law_pairs","_law_names","_law_at","_law_one"] ["_law_found","_law_told","_law_things","_law_pairs"] (ze uA):=⟨rfl,rfl,rfl,by decide +kernel,rfl,by decide +kernel,by decide +kernel⟩
theorem zeb {g1 g2:Addr} {d1 d2:FuncData} (F:Fun K "_law_right" "_law_right" uA f fd) (U:zb2 mg) (cE:zp P w K mg base 3 "_law_entry" g1 d1 ["_law_one","_law_at","_law_entry_here","_law_told","_law_names"] (jC K)) (cU:zp P w K mg base 1 "_law_used" g2 d2 ["_law_found"] (zcb K)):zE P w K mg base CX0 4 f fd ["_law_found","_law_told","_law_things","_law_pairs"] (jB K):=by
 refine F.ok vQ (fun vs H Q E h=>?_) (fun cdv A outer s H vs Q E hr h=>?_)
 ·obtain ⟨lf,la,lt,lp,xs,us,rows,bars,ts,ys,ps,ok,rfl,_⟩:=h
  rfl
 obtain ⟨lf,la,lt,lp,xs,us,rows,bars,ts,ys,ps,ok,rfl,hlf,hE,hla,hu,V1,hlt,hlp,hps,b1,b2,FT,q⟩:=h
 have hr1:z8 1 _:=hr.mono (by decide)
 have hU:=hr.units
 have l24:=V1.l24
 have lxs:xs.length = rows.length:=by rw [hE.length]; unfold enL; rw [List.length_map,List.length_range]
 have lus:us.length = rows.length:=hu.length
 have lys:ys.length = ps.length:=by rw [hps.length,List.length_map]
 refine ⟨_,zd (zI (PW.pt (xW (xg (yr (cB xF U.isi boot_isinstance (ac (pv 0) (ac (ve (v:=.ty "list") rfl U.list PyProof.Rows.boot_list rfl) zc))))) (xH (zk zbw (cB zB U.len PySem.boot_len (ac (pv 0) zc)) (cB zB U.len PySem.boot_len (ac (pv 1) zc)) (zt _))))) (zh (zA wD)) zC)
  (zd (jM (i:=4) [] ["_law_name","_law_thing_here"] [none,none] vQ.nd rfl (Or.inl rfl) rfl ⟨rfl,rfl,rfl,rfl⟩ (z6 (pv 3)) (y4 (K:=K) (n:=2) 0 1) rfl rfl rfl
   (fun pins fp s H C=>⟨yp rfl (zv (zn (i:=0) zhz rfl (Or.inl rfl) (.inr rfl)) (zv (zn (i:=1) zhz rfl (Or.inl rfl) (.inr rfl)) z7)),xz,pv 0⟩))
  (zd (y9 PassesOwn.never rfl (xc rfl U.en (ac (pv 1) zc)) (yp rfl (zv (zn (i:=5) vQ.nd rfl (Or.inl rfl)) (zv (zn (i:=6) vQ.nd rfl (Or.inl rfl)) z7)))
   (zh (zI (xg (yr (cF cE hr (ac (pv 6) (ac (pv 5) (ac (zy xr (pv 0) (pv 5) (fun _ _=>rfl)) (ac (pv 1) (ac (pv 4) zc)))))))) (zh (zA wD)) zC)))
  (zh (zA (yb (zaP hU) (cF cU hr1 (ac (pv 0) zc)) (zR (ac (cTy (qc rfl) U.list PyProof.Rows.boot_list (ac (cTy zb0 U.range PyProof.Rows.boot_range (ac (cB zB U.len PySem.boot_len (ac (pv 2) zc)) zc)) zc)) (ac (cTy (qc rfl) U.list PyProof.Rows.boot_list (ac (cTy zb0 U.range PyProof.Rows.boot_range (ac (cB zB U.len PySem.boot_len (ac (pv 3) zc)) zc)) zc)) zc))) (zt _)))))),?_⟩
 refine ⟨_,rfl,_,_,_,_,rfl,.lst hlf,uc K,_,rfl,?_⟩
 refine yk ?_
 refine ⟨_,rfl,lf,_,rfl,.inl (SqL.of hlf),_,rfl,la,_,rfl,.inl (SqL.of hla),rfl,_,rfl,?_⟩
 refine ud (by rw [List.length_map,lxs,lus,decide_eq_true rfl]; rfl) ?_
 refine ⟨_,rfl,lp,rfl,⟨_,SqL.of hlp⟩,fun D hD=>?_⟩
 refine jW (K:=K) (xs:=ys) ps (fun _=>true) (fun p=>V.str p.1) hD (SqL.of hlp) (by omega) (by omega) (fun j x y H' Nn S hx hy sH nn1 ss1=>?_) (fun H1 s1 hD1=>?_)
 ·obtain ⟨d,hd,hyy⟩:=Paired.get hps hx
  obtain ⟨pr',hpr,rfl⟩:=zbr hd
  rw [hpr] at hy
  cases hy
  obtain ⟨b,rfl,hb⟩:=vf (hyy.same sH)
  refine ⟨b,_,rfl,hb,rfl,_,_,rfl,_,_,rfl,rfl,fun _=>?_,fun e=>Bool.noConfusion e⟩
  exact ⟨_,rfl,nn1 _ (zm.refl _) rfl⟩
 have hD1:H1 D = some (.lst ((ps.map (·.1)).map V.str)):=by
  rw [hD1,List.filter_eq_self.mpr (fun _ _=>rfl),List.map_map]
  rfl
 generalize hzs:ps.map (·.1) = zs at hD1 hE FT
 have lzs:zs.length = ps.length:=by rw [<- hzs,List.length_map]
 refine ⟨_,rfl,la,rfl,⟨_,SqL.of (s1 _ _ hla)⟩,wk (K:=K) (a:=la) (xs:=us.map V.ref) (fun i σ H'=>∃ (v5 v6:Option V),σ = [some (.ref lf),some (.ref la),some (.ref lt),some (.ref lp),some (.ref D),v5,v6]/\zm H1 H') ⟨_,_,rfl,zm.refl _⟩ (fun i σ H' _ ⟨_,_,_,sH⟩=>SqL.of (sH _ _ (s1 _ _ hla))) ?_ ?_⟩
 ·rintro i x tn σ H2 hx ⟨v5,v6,rfl,s2⟩ htn
  obtain ⟨u,hu',rfl⟩:=xm hx
  obtain ⟨r,hr',tr⟩:=yj hu hu'
  have hi:i < rows.length:=(List.getElem?_eq_some_iff.mp hr').1
  have sp:=zb htn (.tup [.int (i:Nat),.ref u])
  refine ⟨tn,_,rfl,SqT.of za,rfl,_,_,rfl,_,_,rfl,rfl,?_⟩
  have s3:=s2.trans sp
  generalize upd H2 tn (.tup [.int (i:Nat),.ref u]) = H3 at sp s3 |-
  have s03:=s1.trans s3
  obtain ⟨x,hx'⟩:∃ x,xs[i]? = some x:=⟨_,List.getElem?_eq_getElem (by omega)⟩
  obtain ⟨e,he,hEx⟩:=Paired.get hE hx'
  obtain rfl:=ziI he
  refine ⟨_,rfl,_,rfl,_,rfl,_,rfl,lf,_,_,x,rfl,rfl,SqL.of (s03 _ _ hlf),xf hx',_,rfl,_,rfl,u,la,D,x,i,ts.length,us,rows,r,bars,zs,ok,rfl,s03 _ _ tr,hr',s03 _ _ hla,zK s03 hu,V1,s3 _ _ hD1,by omega,b1,FT,hEx.same s03,fun H4 s4=>⟨_,rfl,?_⟩⟩
  refine yk ?_
  exact ⟨_,_,rfl,s3.trans s4⟩
 ·rintro σ H2 ⟨v5,v6,rfl,s2⟩
  have s02:=s1.trans s2
  have eP:((enL rows ts.length zs).flatMap enP).Perm (List.range ts.length):=by
   unfold enL
   rw [List.flatMap_map]
   exact ziR V1 FT
  have eN:((enL rows ts.length zs).flatMap enN).Perm (List.range zs.length):=by
   unfold enL
   rw [List.flatMap_map]
   exact ziS V1 FT
  have nP:(yI ((enL rows ts.length zs).flatMap enP)).Perm (L2.wy ts.length):=eP.map _
  have nN:(yI ((enL rows ts.length zs).flatMap enN)).Perm (L2.wy zs.length):=eN.map _
  refine ⟨_,rfl,lf,xs,enL rows ts.length zs,ok,rfl,s02 _ _ hlf,Paired.imp' (fun _ _ z=>vq.same z s02) hE,?_,?_,?_,fun p l1 l2 n1 n2 H3 s3 ep el1 el2 p1 o1 p2 o2=>?_⟩
  ·intro e he
   obtain ⟨i,_,rfl⟩:=List.mem_map.mp he
   exact zf5
  ·rw [eP.length_eq,List.length_range]; omega
  ·rw [eN.length_eq,List.length_range]; omega
  ·obtain rfl:=xY (p1.trans nP) o1 (qY _)
   obtain rfl:=xY (p2.trans nN) o2 (qY _)
   have s03:=s02.trans s3
   refine ⟨_,rfl,lt,_,rfl,.inl (SqL.of (s03 _ _ hlt)),(ts.map V.int).length,rfl,fun r1 hr1'=>?_⟩
   have s4:=zb hr1' (.rng 0 ((ts.map V.int).length:Nat))
   have e4:upd H3 r1 (.rng 0 ((ts.map V.int).length:Nat)) r1 = some (.rng 0 ((ts.map V.int).length:Nat)):=za
   generalize upd H3 r1 (.rng 0 ((ts.map V.int).length:Nat)) = H4 at s4 e4 |-
   refine ⟨r1,_,rfl,e4,by rw [List.length_map]; omega,fun m1 hm1=>?_⟩
   rw [List.length_map]
   have s5:=zb hm1 (.lst ((L2.wy ts.length).map V.int))
   have e5:upd H4 m1 (.lst ((L2.wy ts.length).map V.int)) m1 = some (.lst ((L2.wy ts.length).map V.int)):=za
   generalize upd H4 m1 (.lst ((L2.wy ts.length).map V.int)) = H5 at s5 e5 |-
   have s05:=s03.trans (s4.trans s5)
   refine ⟨_,rfl,lp,_,rfl,.inl (SqL.of (s05 _ _ hlp)),ys.length,rfl,fun r2 hr2'=>?_⟩
   have s6:=zb hr2' (.rng 0 (ys.length:Nat))
   have e6:upd H5 r2 (.rng 0 (ys.length:Nat)) r2 = some (.rng 0 (ys.length:Nat)):=za
   generalize upd H5 r2 (.rng 0 (ys.length:Nat)) = H6 at s6 e6 |-
   refine ⟨r2,_,rfl,e6,by omega,fun m2 hm2=>?_⟩
   rw [lys,<- lzs]
   have s7:=zb hm2 (.lst ((L2.wy zs.length).map V.int))
   have e7:upd H6 m2 (.lst ((L2.wy zs.length).map V.int)) m2 = some (.lst ((L2.wy zs.length).map V.int)):=za
   generalize upd H6 m2 (.lst ((L2.wy zs.length).map V.int)) = H7 at s7 e7 |-
   refine ⟨zz2,fun tt htt=>?_⟩
   have s8:=zb htt (.tup [.ref m1,.ref m2])
   have s37:=s4.trans (s5.trans (s6.trans s7))
   have s38:=s37.trans s8
   refine ⟨p,tt,1,.tup [.lst ((L2.wy ts.length).map Dt.int),.lst ((L2.wy zs.length).map Dt.int)],fun _=>True,fun _=>True,rfl,rfl,by decide,.tup (SqT.of (s38 _ _ ep)) (.cons (.lst True.intro (s38 _ _ el1) (yB _)) (.cons (.lst True.intro (s38 _ _ el2) (yB _)) .nil)),.tup (SqT.of za) (.cons (.lst True.intro (s8 _ _ ((s6.trans s7) _ _ e5)) (yB _)) (.cons (.lst True.intro (s8 _ _ e7) (yB _)) .nil)),?_⟩
   exact q _ (s03.trans s38)
end
def zay (K:Frag):Sp:=fun vs H Q _=>∃ (a:Addr) (ns:List Int),vs = [.ref a]/\SqL K H a (ns.map V.int)/\ns.length<=63/\(∀ m ∈ ns,Builtin.Int.intBits m<=1048576)/\∀ H',Q (.bl true) H'
theorem qW (cell:Int):∀ (n:Nat) (ct:List yv) (ts:List Int) (ps:List (Str × Int)),(xD cell n ct ts ps).1.length<=ct.length + n
 | 0,_,_,_=>Nat.le_refl _
 | n + 1,ct,ts,ps=>by
  unfold xD
  split
  ·have:=qW cell n (ct ++ [(yo (xa cell ct.length) ts ps).1]) (yo (xa cell ct.length) ts ps).2.1 (yo (xa cell ct.length) ts ps).2.2
   rw [List.length_append,List.length_singleton] at this
   omega
  ·exact Nat.le_add_right _ _
theorem zcK (cell:Int) (ts:List Int) (ps:List (Str × Int)):(x0 cell ts ps).length<=100:=by
 have h:=qW cell 26 [] ts ps
 unfold x0 qt
 rw [List.length_nil] at h
 split
 ·rw [List.length_append]; simp only [List.length_cons,List.length_nil]; omega
 ·omega
def vp (K:Frag) (H0:Hp) (lf:Addr) (H:Hp) (n:Nat) (x:V):En->Prop
 | .one wd m=>∃ u,x = .ref u/\SqT K H u [.str wd,.int (m:Nat)]
 | .many wd _=>∃ u l ys,x = .ref u/\SqT K H u [.str wd,.ref l]/\l ≠ lf/\H0 l = none/\H l = some (.lst ys)/\ys.length<=n
 | .free=>∃ u,x = .ref u/\SqT K H u [.str "free"]
theorem jk {K:Frag} {H:Hp} {u l:Addr} {vs ys zs:List V} (h:SqT K H u vs) (hl:H l = some (.lst ys)):SqT K (upd H l (.lst zs)) u vs:=by
 rcases h with (h | ⟨o,h⟩) | h
 ·exact .inl (.inl (by rw [zi (fun e=>by rw [e,hl] at h; cases h)]; exact h))
 ·exact .inl (.inr ⟨o,by rw [zi (fun e=>by rw [e,hl] at h; cases h)]; exact h⟩)
 ·exact .inr h
theorem vp.same {K:Frag} {H0 H H':Hp} {lf:Addr} {n:Nat} {x:V} {e:En} (h:vp K H0 lf H n x e) (s:zm H H'):vp K H0 lf H' n x e:=by
 cases e with
 | one wd m=>obtain ⟨u,e,h⟩:=h; exact ⟨u,e,s.sqT h⟩
 | many wd ns=>obtain ⟨u,l,ys,e,h,h1,h2,h3,h4⟩:=h; exact ⟨u,l,ys,e,s.sqT h,h1,h2,s _ _ h3,h4⟩
 | free=>obtain ⟨u,e,h⟩:=h; exact ⟨u,e,s.sqT h⟩
theorem vp.up {K:Frag} {H0 H:Hp} {lf:Addr} {n:Nat} {x:V} {e:En} (h:vp K H0 lf H n x e):vp K H0 lf H (n + 1) x e:=by
 cases e with
 | one wd m=>exact h
 | many wd ns=>obtain ⟨u,l,ys,e,h,h1,h2,h3,h4⟩:=h; exact ⟨u,l,ys,e,h,h1,h2,h3,by omega⟩
 | free=>exact h
theorem vp.grow {K:Frag} {H0 H:Hp} {lf l:Addr} {n:Nat} {x v:V} {e:En} {ys:List V} (h:vp K H0 lf H n x e) (hl:H l = some (.lst ys)) (ln:ys.length<=n):vp K H0 lf (upd H l (.lst (ys ++ [v]))) (n + 1) x e:=by
 cases e with
 | one wd m=>obtain ⟨u,e,h⟩:=h; exact ⟨u,e,jk h hl⟩
 | many wd ns=>
  obtain ⟨u,l2,ys2,e,h,h1,h2,h3,h4⟩:=h
  by_cases hll:l2 = l
  ·subst hll
   exact ⟨u,l2,_,e,jk h hl,h1,h2,za,by rw [List.length_append,List.length_singleton]; omega⟩
  ·exact ⟨u,l2,ys2,e,jk h hl,h1,h2,by rw [zi hll]; exact h3,by omega⟩
 | free=>obtain ⟨u,e,h⟩:=h; exact ⟨u,e,jk h hl⟩
theorem vq.lo {K:Frag} {H0 H:Hp} {lf:Addr} {n:Nat} {x:V} {e:En} (h:vq K (fun a=>a ≠ lf/\H0 a = none) H x e) (hn:∀ wd ms,e = .many wd ms->ms.length<=n):vp K H0 lf H n x e:=by
 cases e with
 | one wd m=>exact h
 | many wd ns=>
  obtain ⟨u,l,e,h,o,hl⟩:=h
  exact ⟨u,l,_,e,h,o.1,o.2,hl,by rw [List.length_map,yl]; exact hn _ _ rfl⟩
 | free=>exact h
theorem zfN {K:Frag} {H0 H:Hp} {lf:Addr} {n:Nat}:∀ {xs:List V} {es:List En},Paired (vq K (fun a=>a ≠ lf/\H0 a = none) H) xs es->(∀ e ∈ es,∀ wd ms,e = .many wd ms->ms.length<=n)->Paired (vp K H0 lf H n) xs es
 | _,_,.nil,_=>.nil
 | _,_,.cons h1 h2,h=>.cons (h1.lo (h _ List.mem_cons_self)) (zfN h2 fun e he=>h e (List.mem_cons_of_mem _ he))
theorem zhe {rows:List Rw} {bars:List Str} {M:Nat} {zs:List Str} (FT:Fit rows bars M zs) {i:Nat} (h1:M<=30) (h2:zs.length<=50):∀ wd ms,enF rows M zs i = .many wd ms->ms.length<=60:=by
 intro wd ms e
 unfold enF at e
 split at e
 ·cases e
  unfold plL
  rw [List.length_map,List.length_range]
  omega
 ·split at e
  ·cases e
   have:=(uV (rows:=rows) FT.nd).length_le
   rw [List.length_range] at this
   omega
  ·split at e
   ·split at e
    ·cases e
    ·split at e <;> cases e
   ·cases e
theorem zfj {K:Frag} {ok:Addr->Prop} {H:Hp} {rows:List Rw} {M:Nat} {zs:List Str} (nd:zs.Nodup) {xs:List V} (h:Paired (zH K ok H 2) xs (zfk rows M zs)):Paired (vq K ok H) xs (enL rows M zs):=by
 have e:zfk rows M zs = (enL rows M zs).map enD:=by
  unfold zfk enL
  rw [List.map_map]
  refine List.map_congr_left fun i hi=>?_
  exact ziF (List.mem_range.mp hi) nd
 rw [e] at h
 generalize enL rows M zs = es at h
 induction es generalizing xs with
 | nil=>cases h; exact .nil
 | cons e es ih=>
  cases h with
  | cons h1 h2=>exact .cons (zhd h1) (ih h2)
section
variable {P:Program} {w:World} {K:Frag} {mg:Str->Option Value} {base:Heap} {f CF:Addr} {fd:FuncData} {c:C5}
theorem xM:zu ["_law_script","_law_pool_here","_law_most","_law_told","_law_alike","_law_form_here","_law_k","_law_things","_law_pairs","_law_call","_law_handed","_law_found","_law_entry_here"] ["_law_script"] (ze zaL):=⟨rfl,rfl,rfl,by decide +kernel,rfl,by decide +kernel,by decide +kernel⟩
theorem zio {f1 f2 f3 f4 f5 f6 f7 f8 f9 f10 f11 f12:Addr} {e1 e2 e3 e4 e5 e6 e7 e8 e9 e10 e11 e12:FuncData} (F:Fun K "law" "law" zaL f fd) (U:zb2 mg) (cC:zp P w K mg base 1 "_law_cell" f1 e1 ["_law_script","_law_at"] (zaE K)) (cPo:zp P w K mg base 1 "_law_pool" f2 e2 ["_law_cell_here"] (zcc K)) (cFo:zp P w K mg base 2 "_law_form" f3 e3 ["_law_script","_law_at","_law_pool_here","_law_most"] (zci K)) (cD:zp P w K mg base 1 "_law_doubled" f4 e4 ["_law_told"] zcf) (cMa:zp P w K mg base 6 "_law_made" f5 e5 ["_law_told","_law_alike"] (zaA c CF))
  (cFi:zp P w K mg base 3 "_law_fitting" f6 e6 ["_law_told","_law_pool_here","_law_cell_here","_law_more"] (uu K)) (cI:zp P w K mg base 2 "_law_items" f7 e7 ["_law_things","_law_pairs","_law_cell_here"] (zaB K)) (cCo:zp P w K mg base 1 "_law_copied" f8 e8 ["_law_call"] (jD K)) (cPa:zp P w K mg base 5 "paper" f9 e9 ["form","call"] (zav K c CF)) (cFt:zp P w K mg base 6 "fits" f10 e10 ["form","call"] (zcj K c CF)) (cMi:zp P w K mg base 5 "misfits" f11 e11 ["form","call"] (zc9 K c CF)) (cR:zp P w K mg base 4 "_law_right" f12 e12 ["_law_found","_law_told","_law_things","_law_pairs"] (jB K)) :
  zE P w K mg base CX0 8 f fd ["_law_script"] (zay K):=by
 refine F.ok xM (fun vs H Q E h=>?_) (fun cdv A outer s H vs Q E hr h=>?_)
 ·obtain ⟨a,ns,rfl,_⟩:=h
  rfl
 obtain ⟨sa,ns,rfl,hS,h63,hbit,q⟩:=h
 have hr1:z8 1 _:=hr.mono (by decide)
 have hr2:z8 2 _:=hr.mono (by decide)
 have hr3:z8 3 _:=hr.mono (by decide)
 have hr4:z8 4 _:=hr.mono (by decide)
 have hr5:z8 5 _:=hr.mono (by decide)
 have hr6:z8 6 _:=hr.mono (by decide)
 have hU:=hr.units
 refine ⟨_,zd (zw (i:=1) xM.nd rfl (Or.inl rfl) (cF cPo hr1 (ac (cF cC hr1 (ac (pv 0) (ac zg zc))) zc)))
  (zd (zw (i:=2) xM.nd rfl (Or.inl rfl) zg)
  (zd (zI (zk zZ (zx yd (cF cC hr1 (ac (pv 0) (ac zg zc))) zg) zg (zt _)) (zh (zw (i:=2) xM.nd rfl (Or.inl rfl) zg)) zC)
  (zd (zw (i:=3) xM.nd rfl (Or.inl rfl) (cF cFo hr2 (ac (pv 0) (ac zg (ac (pv 1) (ac (pv 2) zc))))))
  (zd (zw (i:=4) xM.nd rfl (Or.inl rfl) (yb zZ (zx yd (zx xK (cF cC hr1 (ac (pv 0) (ac zg zc))) zg) zg) zg (zt _)))
  (zd (zI (yr (pv 4)) (zh (zw (i:=3) xM.nd rfl (Or.inl rfl) (cF cD hr1 (ac (pv 3) zc)))) zC)
  (zd (zw (i:=5) xM.nd rfl (Or.inl rfl) (cF cMa hr6 (ac (pv 3) (ac (pv 4) zc))))
  (zd (y9 PassesOwn.never rfl (zd3 rfl U.range (ac zg (ac (cB (zeF rfl) U.max boot_max (ac zg (ac (cB (zaj rfl) U.min boot_min (ac (cB zB U.len PySem.boot_len (ac (pv 0) zc)) (ac zg zc))) zc))) (ac zg zc)))) (zn (i:=6) xM.nd rfl (Or.inl rfl))
   (zd (uQ (cF cFi hr3 (ac (pv 3) (ac (pv 1) (ac (cF cC hr1 (ac (pv 0) (ac (pv 6) zc))) (ac (cF cC hr1 (ac (pv 0) (ac (zx yt (pv 6) zg) zc))) zc))))) (yp rfl (zv (zn (i:=7) xM.nd rfl (Or.inl rfl)) (zv (zn (i:=8) xM.nd rfl (Or.inl rfl)) z7))))
   (zd (zw (i:=9) xM.nd rfl (Or.inl rfl) (cF cI hr2 (ac (pv 7) (ac (pv 8) (ac (zx xK (cF cC hr1 (ac (pv 0) (ac (pv 6) zc))) zg) zc)))))
   (zd (zw (i:=10) xM.nd rfl (Or.inl rfl) (cF cCo hr1 (ac (pv 9) zc)))
   (zd (zw (i:=11) xM.nd rfl (Or.inl rfl) (cF cPa hr5 (ac (pv 5) (ac (pv 10) zc))))
   (zd (zI (PW.pt (xW (zk zd8 (cF cFt hr6 (ac (pv 5) (ac (pv 10) zc))) wD (zt _)) (xH (zk (zaO hU) (cF cMi hr5 (ac (pv 5) (ac (pv 10) zc))) (zM zc) (zt _))))) (zh (zA wD)) zC)
   (zd (zI (PW.pt (xW (xg (yr (cF cR hr4 (ac (pv 11) (ac (zy zr (pv 3) zg (fun _ _=>rfl)) (ac (pv 7) (ac (pv 8) zc))))))) (xH (zk (zaO hU) (pv 10) (pv 9) (zt _))))) (zh (zA wD)) zC)
   (zd (y9 PassesOwn.never rfl (z6 (pv 11)) (zn (i:=12) xM.nd rfl (Or.inl rfl))
    (zh (zI (zk zU (zy zr (pv 12) zg (fun _ _=>rfl)) (zM (ac zl (ac zl zc))) (by with_unfolding_all rfl)) (zh (zJ (yV PySem.F.plainAttrs_list PySem.F.slot_list_append PySem.F.type_list_append zQ (zy zr (pv 12) zg (fun _ _=>rfl)) (ac zg zc)))) zC)))
   (zd (zJ (yV PySem.F.plainAttrs_list PySem.F.slot_list_append PySem.F.type_list_append zQ (pv 11) (ac (zR (ac zl zc)) zc)))
   (zh (zI (xg (yr (cF cR hr4 (ac (cF cPa hr5 (ac (pv 5) (ac (pv 10) zc))) (ac (zy zr (pv 3) zg (fun _ _=>rfl)) (ac (pv 7) (ac (pv 8) zc))))))) (zh (zA wD)) zC)))))))))))
  (zh (zA wD))))))))),?_⟩
 have bz:∀ {n:Int},(n ∈ ns\/n = 0)->Builtin.Int.intBits n<=1048600:=fun {n} h=>by
  rcases h with h | h
  ·exact Nat.le_trans (hbit n h) (by decide)
  ·rw [h]; decide
 refine ⟨_,rfl,sa,ns,3,rfl,hS,h63,fun c3 H1 s1 _=>?_⟩
 refine ⟨c3,rfl,fun pa H2 s2 np hpa=>?_⟩
 have s02:=s1.trans s2
 have hpa:H2 pa = some (.lst ((xX c3).map V.str)):=hpa
 dsimp only [yZ]
 refine yP (fun σ' H'=>σ' = [some (.ref sa),some (.ref pa),some (.int (12:Nat)),none,none,none,none,none,none,none,none,none,none]/\H' = H2) ?_ (fun key=>key _ _ ⟨rfl,rfl⟩)
 rintro σ0 H0 ⟨rfl,rfl⟩
 refine yP (fun σ' H'=>∃ most:Nat,σ' = [some (.ref sa),some (.ref pa),some (.int (most:Nat)),none,none,none,none,none,none,none,none,none,none]/\zm H0 H'/\3<=most/\most<=24) ?_ (fun key=>?_)
 rotate_left
 ·refine ⟨_,rfl,sa,ns,3,rfl,s02.seq hS,h63,fun c3' H3 s3 _=>?_⟩
  refine ⟨_,_,rfl,rfl,zp8,rfl,_,rfl,?_⟩
  refine qk (fun _=>?_) (fun _=>?_)
  ·exact key _ _ ⟨24,rfl,s3,by decide,by decide⟩
  ·exact key _ _ ⟨12,rfl,s3,by decide,by decide⟩
 rintro σ3 H3 ⟨most,rfl,s3,m3,m24⟩
 have s03:=s02.trans s3
 refine ⟨_,rfl,_,rfl,_,rfl,sa,pa,ns,0,most,c3,rfl,s03.seq hS,h63,m3,m24,s3 _ _ hpa,fun t1 la1 lb1 us1 rows1 bars1 H4 s4 ht1 hla1 hu1 hlb1 V1=>?_⟩
 have s04:=s03.trans s4
 have hpa4:=s4 _ _ (s3 _ _ hpa)
 refine ⟨_,rfl,sa,ns,3,rfl,s04.seq hS,h63,fun c4 H5 s5 _=>?_⟩
 refine ⟨_,_,rfl,rfl,⟨by decide,by decide⟩,_,_,rfl,rfl,(by show (0:Int) < 3; decide),rfl,?_⟩
 have s05:=s04.trans s5
 have hpa5:=s5 _ _ hpa4
 dsimp only [yZ]
 generalize decide (V.int (c4 / 8 % 3) = V.int 1) = al
 refine yP (fun σ' H'=>∃ (t la lb:Addr) (us:List Addr) (rows:List Rw) (bars:List Str),σ' = [some (.ref sa),some (.ref pa),some (.int (most:Nat)),some (.ref t),some (.bl al),none,none,none,none,none,none,none,none]/\zm H5 H'/\H' t = some (.tup [.ref la,.ref lb])/\H' la = some (.lst (us.map V.ref))/\Paired (TAt H') us rows/\H' lb = some (.lst (bars.map V.str))/\yR rows bars) ?_ (fun key=>?_)
 rotate_left
 ·refine ⟨_,rfl,_,rfl,?_⟩
  cases al with
  | false=>
   refine yk ?_
   exact key _ _ ⟨t1,la1,lb1,us1,rows1,bars1,rfl,zm.refl _,s5 _ _ ht1,s5 _ _ hla1,zK s5 hu1,s5 _ _ hlb1,V1⟩
  | true=>
   refine xI ?_
   refine ⟨_,rfl,t1,la1,lb1,us1,_,_,rfl,s5 _ _ ht1,s5 _ _ hla1,zK s5 hu1,s5 _ _ hlb1,V1,fun t' la' us' rows' H' s' e1 e2 e3 V'=>?_⟩
   exact key _ _ ⟨t',la',lb1,us',rows',bars1,rfl,s',e1,e2,e3,s' _ _ (s5 _ _ hlb1),V'⟩
 rintro σ6 H6 ⟨t,la,lb,us,rows,bars,rfl,s6,ht,hla,hu,hlb,V2⟩
 have s06:=s05.trans s6
 have hpa6:=s6 _ _ hpa5
 clear ht1 hla1 hu1 hlb1 V1
 refine ⟨_,rfl,_,rfl,t,la,lb,al,us,rows,bars,rfl,ht,hla,hu,hlb,V2,fun fo H7 s7 F7=>?_⟩
 have s07:=s06.trans s7
 have ht:=s7 _ _ ht
 have hla:=s7 _ _ hla
 have hu:=zK s7 hu
 have hlb:=s7 _ _ hlb
 have hpa7:=s7 _ _ hpa6
 clear s02 s03 s04 s05 s06 hpa4 hpa5 hpa6 s1 s2 s3 s4 s5 s6 s7 hpa
 obtain ⟨N,hN,hN20⟩:∃ N:Nat,(if (if (20:Int) < ((ns.map V.int).length:Int) then 20 else ((ns.map V.int).length:Int)) > 6 then (if (20:Int) < ((ns.map V.int).length:Int) then 20 else ((ns.map V.int).length:Int)) else 6) = (N:Int)/\N<=20:=by
  by_cases h1:(20:Int) < ((ns.map V.int).length:Int)
  ·rw [if_pos h1,if_pos (by decide)]; exact ⟨20,rfl,by omega⟩
  ·rw [if_neg h1]
   by_cases h2:((ns.map V.int).length:Int) > 6
   ·rw [if_pos h2]; exact ⟨(ns.map V.int).length,rfl,by omega⟩
   ·rw [if_neg h2]; exact ⟨6,rfl,by omega⟩
 refine ⟨_,rfl,sa,_,rfl,.inl (s07.seq hS),_,_,rfl,_,_,rfl,4,N,2,(by rw [<- hN]; rfl),by decide,by omega,by decide,by decide,?_⟩
 refine zcR (n:=rsz 4 N 2) (fun i σ H'=>∃ (v6 v7 v8 v9 v10 v11 v12:Option V),σ = [some (.ref sa),some (.ref pa),some (.int (most:Nat)),some (.ref t),some (.bl al),some (.ref fo),v6,v7,v8,v9,v10,v11,v12]/\zm H7 H')
  ⟨_,_,_,_,_,_,_,rfl,zm.refl _⟩ ?_ ?_
 rotate_left
 ·rintro σ H' ⟨v6,v7,v8,v9,v10,v11,v12,rfl,sH⟩
  exact q _
 rintro i σ H10 hi ⟨v6,v7,v8,v9,v10,v11,v12,rfl,s10⟩
 have ek:((4:Nat):Int) + (i:Int) * ((2:Nat):Int) = ((4 + i * 2:Nat):Int):=by omega
 rw [ek]
 generalize 4 + i * 2 = kk
 have s010:=s07.trans s10
 refine ⟨_,rfl,_,rfl,_,rfl,_,rfl,sa,ns,kk,rfl,s010.seq hS,h63,fun cell H11 s11 hc11=>?_⟩
 have s011:=s010.trans s11
 refine ⟨_,rfl,_,rfl,_,_,rfl,rfl,sa,ns,kk + 1,rfl,s011.seq hS,h63,fun more H12 s12 hm12=>?_⟩
 have s712:=s10.trans (s11.trans s12)
 refine ⟨t,la,lb,pa,cell,more,us,rows,bars,xX c3,rfl,s712 _ _ ht,s712 _ _ hla,zK s712 hu,s712 _ _ hlb,V2,s712 _ _ hpa7,w9 c3,zbm c3,bz hc11,bz hm12,fun p l1 l2 ts ys ps H13 s13 ep el1 el2 hys lts lps hfit=>?_⟩
 have FT:=ziE hfit
 have s713:=s712.trans s13
 refine ⟨p,_,rfl,SqT.of ep,rfl,_,_,rfl,_,_,rfl,rfl,?_⟩
 have s013:=s07.trans s713
 refine ⟨_,rfl,_,rfl,_,rfl,_,rfl,sa,ns,kk,rfl,s013.seq hS,h63,fun cell2 H14 s14 _=>?_⟩
 refine ⟨_,_,rfl,rfl,⟨by decide,by decide⟩,l1,l2,cell2 / 7,ys,ts,ps,rfl,s14 _ _ el1,s14 _ _ el2,xv s14 hys,by omega,by omega,fun lc zs H15 s15 nlc hlc hzs=>?_⟩
 obtain ⟨cT1,cP1⟩:=zbM (cell2 / 7) ts ps
 have lct:=zcK (cell2 / 7) ts ps
 have hzs:Paired (zH K T' H15 3) zs ((x0 (cell2 / 7) ts ps).map yC):=Paired.imp' (fun _ _ z=>wp (fun _ _ _=>True.intro) z) hzs
 generalize x0 (cell2 / 7) ts ps = ct at cT1 cP1 lct hzs
 have cN1:zV ct = ps.map (·.1):=by unfold zV; rw [cP1]
 have em:qV rows bars ct = []:=by unfold qV; rw [cT1,cN1]; exact hfit
 refine ⟨_,rfl,lc,zs,ct,rfl,hlc,hzs,lct,fun lh ks H16 s16 nlh hlh hks=>?_⟩
 have s1316:=s14.trans (s15.trans s16)
 have s716:=s713.trans s1316
 have Ch:vK K H16 lh ct:=⟨⟨ks,SqL.of hlh,hks⟩,by rw [cT1]; omega,by rw [cP1]; omega⟩
 have hlc16:=s16 _ _ hlc
 have hzs16:Paired (zH K T' H16 3) zs (ct.map yC):=Paired.imp' (fun _ _ z=>zH.same s16 z) hzs
 have el1:=s1316 _ _ el1
 have el2:=s1316 _ _ el2
 have hys:=xv s1316 hys
 have ht16:=s716 _ _ ht
 have hla16:=s716 _ _ hla
 have hu16:=zK s716 hu
 have F16:=F7.same s716
 clear hlc hzs s15 s16 s14 s1316 ep nlc nlh
 refine ⟨_,rfl,_,rfl,fo,lh,rows,bars,ct,rfl,F16,Ch,em,fun lf xs H17 s17 nlf hlf hxs=>?_⟩
 have hxs:Paired (vq K (fun a=>a ≠ lf/\H16 a = none) H17) xs (enL rows ts.length (ps.map (·.1))):=by
  rw [cT1,cN1] at hxs
  exact zfj FT.nd hxs
 dsimp only [yZ]
 refine ⟨_,rfl,_,rfl,fo,lh,rows,bars,ct,rfl,F16.same s17,Ch.same s17,fun H18 s18=>?_⟩
 refine ⟨_,_,rfl,rfl,_,rfl,?_⟩
 refine ud (by rw [em]; rfl) ?_
 have s168:=s17.trans s18
 refine ⟨_,rfl,_,rfl,fo,lh,rows,bars,ct,rfl,F16.same s168,Ch.same s168,fun lm H19 s19 hm=>?_⟩
 obtain ⟨um,nlm,elm,hum⟩:=hm
 rw [em] at hum
 cases hum
 refine ⟨zz0,fun l0 hl0=>?_⟩
 have s20:=zb hl0 (.lst [])
 refine ⟨lm,l0,0,.lst [],fun _=>True,fun _=>True,rfl,rfl,by decide,.lst True.intro (s20 _ _ elm) .nil,.lst True.intro za .nil,_,rfl,?_⟩
 refine yk ?_
 generalize upd H19 l0 (.lst []) = H20 at s20 |-
 have s1720:=s18.trans (s19.trans s20)
 have s1620:=s17.trans s1720
 have hlf20:=s1720 _ _ hlf
 have hxs20:=Paired.imp' (fun _ _ z=>vq.same z s1720) hxs
 clear hlf hxs s18 s19 s20 s168 elm nlm hl0
 refine ⟨_,rfl,_,rfl,t,_,0,_,rfl,rfl,SqT.of (s1620 _ _ ht16),rfl,_,rfl,_,rfl,lf,la,l1,l2,xs,us,rows,bars,ts,ys,ps,_,rfl,hlf20,hxs20,s1620 _ _ hla16,zK s1620 hu16,V2,s1620 _ _ el1,s1620 _ _ el2,xv s1620 hys,lts,lps,FT,fun H21 s21=>⟨_,rfl,?_⟩⟩
 refine yk ?_
 have s1621:=s1620.trans s21
 refine ⟨_,rfl,_,rfl,lh,lc,3,.lst (ct.map yC),fun _=>True,fun _=>True,rfl,rfl,by decide,.lst True.intro (s1621 _ _ hlh) (Paired.imp' (fun _ _ z=>zH.same s1621 z) hks),.lst True.intro (s1621 _ _ hlc16) (Paired.imp' (fun _ _ z=>zH.same s1621 z) hzs16),_,rfl,?_⟩
 refine yk ?_
 have hlf21:=s21 _ _ hlf20
 have hlo:Paired (vp K H16 lf H21 60) xs (enL rows ts.length (ps.map (·.1))):=by
  have h2:∀ e ∈ enL rows ts.length (ps.map (·.1)),∀ wd ms,e = .many wd ms->ms.length<=60:=fun e he=>by
   obtain ⟨i,_,rfl⟩:=List.mem_map.mp he
   exact zhe FT lts (by rw [List.length_map]; exact lps)
  exact zfN (Paired.imp' (fun _ _ z=>vq.same z s21) hxs20) h2
 have lxs:xs.length<=24:=by
  rw [hlo.length]
  unfold enL
  rw [List.length_map,List.length_range]
  exact V2.l24
 have eok:∀ e ∈ enL rows ts.length (ps.map (·.1)),ziO e:=fun e he=>by
  obtain ⟨i,_,rfl⟩:=List.mem_map.mp he
  exact zf5
 dsimp only [zhq]
 refine yP (fun σ' H'=>∃ v12:Option V,σ' = [some (.ref sa),some (.ref pa),some (.int (most:Nat)),some (.ref t),some (.bl al),some (.ref fo),some (.int (kk:Nat)),some (.ref l1),some (.ref l2),some (.ref lc),some (.ref lh),some (.ref lf),v12]/\zm H16 H'/\H' lf = some (.lst xs)) ?_ (fun key=>?_)
 rotate_left
 ·refine ⟨_,rfl,lf,rfl,⟨_,SqL.of hlf21⟩,wj (K:=K) (a:=lf) (xs:=xs) (fun j σ H'=>∃ v12:Option V,σ = [some (.ref sa),some (.ref pa),some (.int (most:Nat)),some (.ref t),some (.bl al),some (.ref fo),some (.int (kk:Nat)),some (.ref l1),some (.ref l2),some (.ref lc),some (.ref lh),some (.ref lf),v12]/\zm H16 H'/\H' lf = some (.lst xs)/\Paired (vp K H16 lf H' (60 + j)) xs (enL rows ts.length (ps.map (·.1)))) ⟨_,rfl,s1621,hlf21,hlo⟩ (fun j σ H' _ ⟨_,_,_,hH,_⟩=>SqL.of hH) ?_ ?_⟩
  ·rintro j x σ H22 hx ⟨v12',rfl,s22,hlf22,hlo22⟩
   have hj:j < xs.length:=(List.getElem?_eq_some_iff.mp hx).1
   obtain ⟨e,he,hEx⟩:=Paired.get hlo22 hx
   have ho:=eok e (List.mem_of_getElem? he)
   obtain ⟨u,hh,tl,rfl,hu',hns⟩:∃ (u:Addr) (wd:Str) (tl:List V),x = .ref u/\SqT K H22 u (.str wd :: tl)/\(inV (.str wd) [.str "places",.str "names"] = true->∃ l ys,tl = [.ref l]/\l ≠ lf/\H16 l = none/\H22 l = some (.lst ys)/\ys.length<=60 + j):=by
    cases e with
    | one wd m=>
     obtain ⟨u,rfl,h⟩:=hEx
     refine ⟨u,wd,_,rfl,h,fun hn=>?_⟩
     rcases ho with rfl | rfl
     ·exact absurd hn (by decide +kernel)
     ·exact absurd hn (by decide +kernel)
    | many wd ms=>
     obtain ⟨u,l,ys',rfl,h,h1,h2,h3,h4⟩:=hEx
     exact ⟨u,wd,_,rfl,h,fun _=>⟨l,ys',rfl,h1,h2,h3,h4⟩⟩
    | free=>
     obtain ⟨u,rfl,h⟩:=hEx
     exact ⟨u,"free",_,rfl,h,fun hn=>absurd hn (by decide +kernel)⟩
   refine ⟨_,rfl,u,_,0,.str hh,rfl,rfl,hu',xf (j:=0) rfl,zz2,fun ln hln=>?_⟩
   have s23:=zb hln (.lst [.str "places",.str "names"])
   refine ⟨ln,_,rfl,.inl (SqL.of za),rfl,rfl,_,rfl,?_⟩
   rw [if_neg Bool.false_ne_true]
   generalize upd H22 ln (.lst [.str "places",.str "names"]) = H23 at s23 |-
   have s1623:=s22.trans s23
   have hlf23:=s23 _ _ hlf22
   have hlo23:=Paired.imp' (fun _ _ z=>vp.same z s23) hlo22
   refine qk (fun hn=>?_) (fun _=>?_)
   ·obtain ⟨l,ys',rfl,n1,n2,n3,n4⟩:=hns hn
    have n3':=s23 _ _ n3
    refine ⟨_,rfl,u,_,1,_,rfl,rfl,s23.sqT hu',rfl,.inl ⟨rfl,_,SqL.of n3'⟩,l,_,_,rfl,rfl,n3',zF (by omega),?_⟩
    exact ⟨_,rfl,fun b o e=>by rw [zi (zf e n2)]; exact s1623 _ _ e,by rw [zi (Ne.symm n1)]; exact hlf23,Paired.imp' (fun _ _ z=>vp.grow z n3' n4) hlo23⟩
   ·exact ⟨_,rfl,s1623,hlf23,Paired.imp' (fun _ _ z=>vp.up z) hlo23⟩
  ·rintro σ H22 ⟨v12',rfl,s22,hlf22,hlo22⟩
   exact key _ _ ⟨_,rfl,s22,hlf22⟩
 rintro σ22 H22 ⟨v12',rfl,s22,hlf22⟩
 refine ⟨_,rfl,.inl ⟨rfl,_,SqL.of hlf22⟩,zz1,fun uf huf=>?_⟩
 have s23:=zb huf (.tup [.str "free"])
 refine ⟨lf,_,_,rfl,rfl,s23 _ _ hlf22,zF (by omega),?_⟩
 have s24:zm H16 (upd (upd H22 uf (.tup [.str "free"])) lf (.lst (xs ++ [.ref uf]))):=fun b o e=>by
  rw [zi (zf e nlf)]
  exact s23 _ _ (s22 _ _ e)
 generalize upd (upd H22 uf (.tup [.str "free"])) lf (.lst (xs ++ [.ref uf])) = H24 at s24 |-
 refine ⟨_,rfl,_,rfl,fo,lh,rows,bars,ct,rfl,F16.same s24,Ch.same s24,em,fun lf2 xs2 H25 s25 nlf2 hlf2 hxs2=>?_⟩
 have hxs2:Paired (vq K (fun a=>a ≠ lf2/\H24 a = none) H25) xs2 (enL rows ts.length (ps.map (·.1))):=by
  rw [cT1,cN1] at hxs2
  exact zfj FT.nd hxs2
 have s1625:=s24.trans s25
 refine ⟨_,rfl,t,_,0,_,rfl,rfl,SqT.of (s1625 _ _ ht16),rfl,_,rfl,_,rfl,lf2,la,l1,l2,xs2,us,rows,bars,ts,ys,ps,_,rfl,hlf2,hxs2,s1625 _ _ hla16,zK s1625 hu16,V2,s1625 _ _ el1,s1625 _ _ el2,xv s1625 hys,lts,lps,FT,fun H26 s26=>⟨_,rfl,?_⟩⟩
 refine yk ?_
 exact ⟨_,_,_,_,_,_,_,rfl,s716.trans (s1625.trans s26)⟩
end
end K22
def PySem.W.Fast.tw15796086499808906852:Unit:=()
def PySem.W.Fast.tw16692169010597084908:Unit:=()
def PySem.W.Fast.tw13880820957713009795:Unit:=()
def PySem.W.Fast.tw408389010821772840:Unit:=()
def PySem.W.Fast.tw4546713130486387723:Unit:=()
def PySem.W.Fast.tw7755145575876733978:Unit:=()
def PySem.W.Fast.tw10598993664196160412:Unit:=()
def PySem.W.Fast.tw738875875942850037:Unit:=()
def PySem.W.Fast.tw4018693386204210161:Unit:=()
def PySem.W.Fast.tw10918815464012995261:Unit:=()
def PySem.W.Fast.tw7815286146386127103:Unit:=()
def PySem.W.Fast.tw11332522337282433069:Unit:=()
def PySem.W.Fast.tw16033095374229436687:Unit:=()
def PySem.W.Fast.tw14134559897207885484:Unit:=()
def PySem.W.Fast.tw7372752018662494466:Unit:=()
def PySem.W.Fast.tw4430502911443462455:Unit:=()
def PySem.W.Fast.tw16010802953654476961:Unit:=()
def PySem.W.Fast.tw9449870674451172793:Unit:=()
def PySem.W.Fast.tw13682994370064188586:Unit:=()
def PySem.W.Fast.tw66138729866066889:Unit:=()
def PySem.W.Fast.tw15042897130880012864:Unit:=()
def PySem.W.Fast.tw5226497132624787962:Unit:=()
def PySem.W.Fast.tw11184059829249375756:Unit:=()
def PySem.W.Fast.tw54759364289812443:Unit:=()
def PySem.W.Fast.tw825714413733956162:Unit:=()
def PySem.W.Fast.tw9643594327128035844:Unit:=()
def PySem.W.Fast.tw7757392582538082264:Unit:=()
def PySem.W.Fast.tw17187910712310197543:Unit:=()
def PySem.W.Fast.tw9754448218373503504:Unit:=()
def PySem.W.Fast.tw233567029446474639:Unit:=()
def PySem.W.Fast.tw13504169973494748670:Unit:=()
def PySem.W.Fast.tw17538243962532648544:Unit:=()
def PySem.W.Fast.tw17844498710771814380:Unit:=()
def PySem.W.Fast.tw1751777659995125618:Unit:=()
def PySem.W.Fast.tw17690870311988209978:Unit:=()
def PySem.W.Fast.tw2231288229913135218:Unit:=()
def PySem.W.Fast.tw9650578114534451198:Unit:=()
def PySem.W.Fast.tw15286612608854957156:Unit:=()
def PySem.W.Fast.tw1300621414568460083:Unit:=()
def PySem.W.Fast.tw5011857995602218308:Unit:=()
def PySem.W.Fast.tw4630272118659926119:Unit:=()
def PySem.W.Fast.tw5624691992269611294:Unit:=()
def PySem.W.Fast.tw2133732016759704456:Unit:=()
def PySem.W.Fast.tw2762566992466665328:Unit:=()
def PySem.W.Fast.tw15298232969989853928:Unit:=()
def PySem.W.Fast.tw6522733258568292213:Unit:=()
def PySem.W.Fast.tw16323903203011674388:Unit:=()
def PySem.W.Fast.tw13440071296765045550:Unit:=()
def PySem.W.Fast.tw14839408194223824373:Unit:=()
def PySem.W.Fast.tw4731182777938562092:Unit:=()
def PySem.W.Fast.tw3799587027888818557:Unit:=()
def PySem.W.Fast.tw7205812588617834531:Unit:=()
def PySem.W.Fast.tw1851211246633952846:Unit:=()
def PySem.W.Fast.tw13323692132804059737:Unit:=()
def PySem.W.Fast.tw2746888624091224617:Unit:=()
def PySem.W.Fast.tw8964947651256669698:Unit:=()
def PySem.W.Fast.tw3725473799757219646:Unit:=()
def PySem.W.Fast.tw15919933491062374368:Unit:=()
def PySem.W.Fast.tw10528756666914014763:Unit:=()
def PySem.W.Fast.tw3068649785255153220:Unit:=()
def PySem.W.Fast.tw8999912534164686326:Unit:=()
def PySem.W.Fast.tw14029193570892034538:Unit:=()
def PySem.W.Fast.tw6203327367543324786:Unit:=()
def PySem.W.Fast.tw15620922677314254526:Unit:=()
def PySem.W.Fast.tw2213761378296603842:Unit:=()
def PySem.W.Fast.tw10479473607348342448:Unit:=()
def PySem.W.Fast.tw6280364171364992007:Unit:=()
def PySem.W.Fast.tw5393018556645460221:Unit:=()
def PySem.W.Fast.tw10053888413870454375:Unit:=()
def PySem.W.Fast.tw12294980224657820758:Unit:=()
namespace K22
open PySem L2 PyProof.Rows
theorem zih {K:Frag} {h:Heap} {mg:Str->Option Value} {x:Str} {C:Addr} {bm:List Value} {nid:String} (X:K.In h) (G:h.Ns mainGlobals mg) (e:nsIn K mainGlobals x = some (some (.ref C))) (q:excIn K C bm nid = true):OwnCls x C bm nid mg h:=by
 have b:mg x = some (.ref C):=mg_of X G e
 refine ⟨b,?_⟩
 simp only [excIn] at q
 split at q
 case h_2=>cases q
 rename_i dd cd sl ho
 obtain ⟨nm,bs,mro,ns,qn,hd,sn,sub,ab,col,del⟩:=cd
 obtain ⟨l⟩:=sl
 dsimp only at q
 split at q
 case h_2=>cases q
 rename_i C' m k0 k1 k2 k3 n k5
 simp only [Bool.and_eq_true,beq_iff_eq,Bool.not_eq_true'] at q
 obtain ⟨⟨⟨⟨⟨rfl,rfl⟩,rfl⟩,ht⟩,hok⟩,hni⟩:=q
 exact ⟨m,ns,nm,qn,bs,hd,sn,sub,ab,col,dd,k0,k1,k2,k3,k5,_,X _ _ ho,.of_isNs (PySem.W.isNs_of_in X hok),PySem.W.nsMap_none_of_in X hok hni,PySem.W.tail_of_in X ht⟩
theorem zg5 {w:World} {K:Frag} {Gr:Addr} {es:Array DictEntry} {n:Nat} {t0 t1 t2 t3 t4:Tok} (hl:K.lookup Gr = some ⟨.type "dict",none,.dict es n,#[]⟩) (hk:KeysLit w.params es.toList) (h0:nsIn K Gr "seat" = some (some (.int 0 t0))) (h1:nsIn K Gr "both" = some (some (.int 0 t1))) (h2:nsIn K Gr "tail" = some (some (.int 1 t2)))
  (h3:nsIn K Gr "tag" = some (some (.int 2 t3))) (h4:nsIn K Gr "bag" = some (some (.int 3 t4))):ziN w K Gr zg8:=by
 refine ⟨⟨es,n,hl,hk⟩,fun x v h=>?_⟩
 unfold zg8 at h
 by_cases e0:x = "seat"
 ·subst e0; rw [List.lookup_cons_self] at h; cases h; exact ⟨_,h0,_,rfl⟩
 rw [List.lookup_cons,beq_eq_false_iff_ne.mpr e0] at h
 by_cases e1:x = "both"
 ·subst e1; rw [List.lookup_cons_self] at h; cases h; exact ⟨_,h1,_,rfl⟩
 rw [List.lookup_cons,beq_eq_false_iff_ne.mpr e1] at h
 by_cases e2:x = "tail"
 ·subst e2; rw [List.lookup_cons_self] at h; cases h; exact ⟨_,h2,_,rfl⟩
 rw [List.lookup_cons,beq_eq_false_iff_ne.mpr e2] at h
 by_cases e3:x = "tag"
 ·subst e3; rw [List.lookup_cons_self] at h; cases h; exact ⟨_,h3,_,rfl⟩
 rw [List.lookup_cons,beq_eq_false_iff_ne.mpr e3] at h
 by_cases e4:x = "bag"
 ·subst e4; rw [List.lookup_cons_self] at h; cases h; exact ⟨_,h4,_,rfl⟩
 rw [List.lookup_cons,beq_eq_false_iff_ne.mpr e4] at h
 cases h
theorem zkk {l:PySem.W.OpenLaw} {w:World} {K:Frag} {h:Heap} {mg:Str->Option Value} {fa D C0 C1 C2 C3 C4 FM f1 f2 f3 f4 f5 f6 f7 f8 f9 f10 f11 f12 f13 f14 f15 f16 f17 f18 f19 f20 f21 f22 f23 f24 f25 f26 f27 f28 f29 f30 f31 f32 f33 f34 f35 f36 f37 f38 f39 f40 f41 f42 f43 f44 f45 f46 f47 f48 f49 f50 f51 f52 f53 f54 f55 f56 T8 T9 T11 T13:Addr} (X:K.In h) (G:h.Ns mainGlobals mg) (hfa:mg "law" = some (.ref fa))
  {od1 an1 od2 an2 od3 an3 od4 an4 od5 an5 od6 an6 od7 an7 od8 an8 od9 an9 od10 an10 od11 an11 od12 an12 od13 an13 od14 an14 od15 an15 od16 an16 od17 an17 od18 an18 od19 an19 od20 an20 od21 an21 od22 an22 od23 an23 od24 an24 od25 an25 od26 an26 od27 an27 od28 an28 od29 an29 od30 an30 od31 an31 od32 an32 od33 an33 od34 an34 od35 an35 od36 an36 od37 an37 od38 an38 od39 an39 od40 an40 od41 an41 od42 an42 od43 an43 od44 an44 od45 an45 od46 an46 od47 an47 od48 an48 od49 an49 od50 an50 od51 an51 od52 an52 od53 an53 od54 an54 od55 an55 od56 an56 odT8 odT9 odT11 odT13:Option Addr} {sl1 sl2 sl3 sl4 sl5 sl6 sl7 sl8 sl9 sl10 sl11 sl12 sl13 sl14 sl15 sl16 sl17 sl18 sl19 sl20 sl21 sl22 sl23 sl24 sl25 sl26 sl27 sl28 sl29 sl30 sl31 sl32 sl33 sl34 sl35 sl36 sl37 sl38 sl39 sl40 sl41 sl42 sl43 sl44 sl45 sl46 sl47 sl48 sl49 sl50 sl51 sl52 sl53 sl54 sl55 sl56 slT8 slT9 slT11 slT13:Array (Option Value)} {oc1 kV1 dc1 pm1 cd1 ct1 oc2 kV2 dc2 pm2 cd2 ct2 oc3 kV3 dc3 pm3 cd3 ct3 oc4 kV4 dc4 pm4 cd4 ct4 oc5 kV5 dc5 pm5 cd5 ct5 oc6 kV6 dc6 pm6 cd6 ct6 oc7 kV7 dc7 pm7 cd7 ct7 oc8 kV8 dc8 pm8 cd8 ct8 oc9 kV9 dc9 pm9 cd9 ct9 oc10 kV10 dc10 pm10 cd10 ct10 oc11 kV11 dc11 pm11 cd11 ct11 oc12 kV12 dc12 pm12 cd12 ct12 oc13 kV13 dc13 pm13 cd13 ct13 oc14 kV14 dc14 pm14 cd14 ct14 oc15 kV15 dc15 pm15 cd15 ct15 oc16 kV16 dc16 pm16 cd16 ct16 oc17 kV17 dc17 pm17 cd17 ct17 oc18 kV18 dc18 pm18 cd18 ct18 oc19 kV19 dc19 pm19 cd19 ct19 oc20 kV20 dc20 pm20 cd20 ct20 oc21 kV21 dc21 pm21 cd21 ct21 oc22 kV22 dc22 pm22 cd22 ct22 oc23 kV23 dc23 pm23 cd23 ct23 oc24 kV24 dc24 pm24 cd24 ct24 oc25 kV25 dc25 pm25 cd25 ct25 oc26 kV26 dc26 pm26 cd26 ct26 oc27 kV27 dc27 pm27 cd27 ct27 oc28 kV28 dc28 pm28 cd28 ct28 oc29 kV29 dc29 pm29 cd29 ct29 oc30 kV30 dc30 pm30 cd30 ct30 oc31 kV31 dc31 pm31 cd31 ct31 oc32 kV32 dc32 pm32 cd32 ct32 oc33 kV33 dc33 pm33 cd33 ct33 oc34 kV34 dc34 pm34 cd34 ct34 oc35 kV35 dc35 pm35 cd35 ct35 oc36 kV36 dc36 pm36 cd36 ct36 oc37 kV37 dc37 pm37 cd37 ct37 oc38 kV38 dc38 pm38 cd38 ct38 oc39 kV39 dc39 pm39 cd39 ct39 oc40 kV40 dc40 pm40 cd40 ct40 oc41 kV41 dc41 pm41 cd41 ct41 oc42 kV42 dc42 pm42 cd42 ct42 oc43 kV43 dc43 pm43 cd43 ct43 oc44 kV44 dc44 pm44 cd44 ct44 oc45 kV45 dc45 pm45 cd45 ct45 oc46 kV46 dc46 pm46 cd46 ct46 oc47 kV47 dc47 pm47 cd47 ct47 oc48 kV48 dc48 pm48 cd48 ct48 oc49 kV49 dc49 pm49 cd49 ct49 oc50 kV50 dc50 pm50 cd50 ct50 oc51 kV51 dc51 pm51 cd51 ct51 oc52 kV52 dc52 pm52 cd52 ct52 oc53 kV53 dc53 pm53 cd53 ct53 oc54 kV54 dc54 pm54 cd54 ct54 oc55 kV55 dc55 pm55 cd55 ct55 oc56 kV56 dc56 pm56 cd56 ct56 ocT8 ocT9 ocT11 ocT13:Value}
  {nT8 nT9 nT11 nT13:Nat}
  {E0 tP tB tO sg Gr:Addr} {tL tN tMP tMB ktP0 ktP1 ktB0 ktB1 ktO0 ktO1 ktO2 ksg0 ksg1 kG0 kG1 kG2 kG3 kG4:Tok} {odtP odtB odtO odsg:Option Addr} {ntP ntB ntO nsg nG:Nat} {sltP sltB sltO slsg:Array (Option Value)} {esG:Array DictEntry}
  (aD:nsIn K mainGlobals "Parameter" = some (some (.ref D))) (pgD:plainGet K D Str.empty = true) (hdD:hasDictIn K D = true) (poD:plainOver K D = true) (saD:findIn K (.ref D) "__setattr__" = some (some (.builtin "object.__setattr__"))) (mkD:makesIn K D = true) (kcD:keepIn K (.ref D) = true)
  (aC0:nsIn K mainGlobals "Seat" = some (some (.ref C0))) (pgC0:plainGet K C0 Str.empty = true) (hdC0:hasDictIn K C0 = true) (poC0:plainOver K C0 = true) (saC0:findIn K (.ref C0) "__setattr__" = some (some (.builtin "object.__setattr__"))) (mkC0:makesIn K C0 = true) (kcC0:keepIn K (.ref C0) = true)
  (nC0_word:findIn K (.ref C0) "word" = some none)
  (nC0_name:findIn K (.ref C0) "name" = some none)
  (nC0_may_lack:findIn K (.ref C0) "may_lack" = some none)
  (aC1:nsIn K mainGlobals "Both" = some (some (.ref C1))) (pgC1:plainGet K C1 Str.empty = true) (hdC1:hasDictIn K C1 = true) (poC1:plainOver K C1 = true) (saC1:findIn K (.ref C1) "__setattr__" = some (some (.builtin "object.__setattr__"))) (mkC1:makesIn K C1 = true) (kcC1:keepIn K (.ref C1) = true)
  (nC1_word:findIn K (.ref C1) "word" = some none)
  (nC1_name:findIn K (.ref C1) "name" = some none)
  (nC1_may_lack:findIn K (.ref C1) "may_lack" = some none)
  (aC2:nsIn K mainGlobals "Tail" = some (some (.ref C2))) (pgC2:plainGet K C2 Str.empty = true) (hdC2:hasDictIn K C2 = true) (poC2:plainOver K C2 = true) (saC2:findIn K (.ref C2) "__setattr__" = some (some (.builtin "object.__setattr__"))) (mkC2:makesIn K C2 = true) (kcC2:keepIn K (.ref C2) = true)
  (nC2_word:findIn K (.ref C2) "word" = some none)
  (nC2_name:findIn K (.ref C2) "name" = some none)
  (nC2_may_lack:findIn K (.ref C2) "may_lack" = some none)
  (aC3:nsIn K mainGlobals "Tag" = some (some (.ref C3))) (pgC3:plainGet K C3 Str.empty = true) (hdC3:hasDictIn K C3 = true) (poC3:plainOver K C3 = true) (saC3:findIn K (.ref C3) "__setattr__" = some (some (.builtin "object.__setattr__"))) (mkC3:makesIn K C3 = true) (kcC3:keepIn K (.ref C3) = true)
  (nC3_word:findIn K (.ref C3) "word" = some none)
  (nC3_name:findIn K (.ref C3) "name" = some none)
  (nC3_may_lack:findIn K (.ref C3) "may_lack" = some none)
  (aC4:nsIn K mainGlobals "Bag" = some (some (.ref C4))) (pgC4:plainGet K C4 Str.empty = true) (hdC4:hasDictIn K C4 = true) (poC4:plainOver K C4 = true) (saC4:findIn K (.ref C4) "__setattr__" = some (some (.builtin "object.__setattr__"))) (mkC4:makesIn K C4 = true) (kcC4:keepIn K (.ref C4) = true)
  (nC4_word:findIn K (.ref C4) "word" = some none)
  (nC4_name:findIn K (.ref C4) "name" = some none)
  (nC4_may_lack:findIn K (.ref C4) "may_lack" = some none)
  (aFM:nsIn K mainGlobals "Form" = some (some (.ref FM))) (pgFM:plainGet K FM Str.empty = true) (hdFM:hasDictIn K FM = true) (poFM:plainOver K FM = true) (saFM:findIn K (.ref FM) "__setattr__" = some (some (.builtin "object.__setattr__"))) (mkFM:makesIn K FM = true) (kcFM:keepIn K (.ref FM) = true)
  (nFM_row:findIn K (.ref FM) "row" = some none)
  (nFM_bar_names:findIn K (.ref FM) "bar_names" = some none)
  (nFM_place_count:findIn K (.ref FM) "place_count" = some none)
  (nFM_tail_number:findIn K (.ref FM) "tail_number" = some none)
  (nFM_bag_number:findIn K (.ref FM) "bag_number" = some none)
  (nFM_doors:findIn K (.ref FM) "doors" = some none)
  (a1:nsIn K mainGlobals "is_name" = some (some (.ref f1)))
  (l1:K.lookup f1 = some ⟨oc1,od1,.func (fnOf "is_name" "is_name" (zq sIs) (zo sIs) (ze sIs) .none kV1 dc1 pm1 an1 cd1 ct1),sl1⟩) (c1:codeIn K cd1 "is_name" = true) (k1:keepIn K (.ref f1) = true)
  (a2:findIn K (.ref D) "__init__" = some (some (.ref f2))) (i2:isFn K (.ref f2) = true)
  (l2:K.lookup f2 = some ⟨oc2,od2,.func (fnOf "__init__" "Parameter.__init__" (zq uE) (zo uE) (ze uE) .none kV2 dc2 pm2 an2 cd2 ct2),sl2⟩) (c2:codeIn K cd2 "Parameter.__init__" = true) (k2:keepIn K (.ref f2) = true)
  (a3:findIn K (.ref D) "free" = some (some (.ref f3))) (i3:isFn K (.ref f3) = true)
  (l3:K.lookup f3 = some ⟨oc3,od3,.func (fnOf "free" "Parameter.free" (zq qG) (zo qG) (ze qG) .none kV3 dc3 pm3 an3 cd3 ct3),sl3⟩) (c3:codeIn K cd3 "Parameter.free" = true) (k3:keepIn K (.ref f3) = true)
  (a4:findIn K (.ref D) "by_place" = some (some (.ref f4))) (i4:isFn K (.ref f4) = true)
  (l4:K.lookup f4 = some ⟨oc4,od4,.func (fnOf "by_place" "Parameter.by_place" (zq wg) (zo wg) (ze wg) .none kV4 dc4 pm4 an4 cd4 ct4),sl4⟩) (c4:codeIn K cd4 "Parameter.by_place" = true) (k4:keepIn K (.ref f4) = true)
  (a5:findIn K (.ref D) "by_name" = some (some (.ref f5))) (i5:isFn K (.ref f5) = true)
  (l5:K.lookup f5 = some ⟨oc5,od5,.func (fnOf "by_name" "Parameter.by_name" (zq w6) (zo w6) (ze w6) .none kV5 dc5 pm5 an5 cd5 ct5),sl5⟩) (c5:codeIn K cd5 "Parameter.by_name" = true) (k5:keepIn K (.ref f5) = true)
  (a6:findIn K (.ref D) "takes_one" = some (some (.ref f6))) (i6:isFn K (.ref f6) = true)
  (l6:K.lookup f6 = some ⟨oc6,od6,.func (fnOf "takes_one" "Parameter.takes_one" (zq zaK) (zo zaK) (ze zaK) .none kV6 dc6 pm6 an6 cd6 ct6),sl6⟩) (c6:codeIn K cd6 "Parameter.takes_one" = true) (k6:keepIn K (.ref f6) = true)
  (a7:findIn K (.ref D) "told" = some (some (.ref f7))) (i7:isFn K (.ref f7) = true)
  (l7:K.lookup f7 = some ⟨oc7,od7,.func (fnOf "told" "Parameter.told" (zq zdf) (zo zdf) (ze zdf) .none kV7 dc7 pm7 an7 cd7 ct7),sl7⟩) (c7:codeIn K cd7 "Parameter.told" = true) (k7:keepIn K (.ref f7) = true)
  (a8:findIn K (.ref C0) "__init__" = some (some (.ref f8))) (i8:isFn K (.ref f8) = true)
  (l8:K.lookup f8 = some ⟨oc8,od8,.func (fnOf "__init__" "Seat.__init__" (zq qy) (zo qy) (ze qy) (.ref T8) kV8 dc8 pm8 an8 cd8 ct8),sl8⟩) (c8:codeIn K cd8 "Seat.__init__" = true) (k8:keepIn K (.ref f8) = true)
  (t8:K.lookup T8 = some ⟨ocT8,odT8,.seq #[Value.bool false] nT8,slT8⟩)
  (a9:findIn K (.ref C1) "__init__" = some (some (.ref f9))) (i9:isFn K (.ref f9) = true)
  (l9:K.lookup f9 = some ⟨oc9,od9,.func (fnOf "__init__" "Both.__init__" (zq qM) (zo qM) (ze qM) (.ref T9) kV9 dc9 pm9 an9 cd9 ct9),sl9⟩) (c9:codeIn K cd9 "Both.__init__" = true) (k9:keepIn K (.ref f9) = true)
  (t9:K.lookup T9 = some ⟨ocT9,odT9,.seq #[Value.bool false] nT9,slT9⟩)
  (a10:findIn K (.ref C2) "__init__" = some (some (.ref f10))) (i10:isFn K (.ref f10) = true)
  (l10:K.lookup f10 = some ⟨oc10,od10,.func (fnOf "__init__" "Tail.__init__" (zq qx) (zo qx) (ze qx) .none kV10 dc10 pm10 an10 cd10 ct10),sl10⟩) (c10:codeIn K cd10 "Tail.__init__" = true) (k10:keepIn K (.ref f10) = true)
  (a11:findIn K (.ref C3) "__init__" = some (some (.ref f11))) (i11:isFn K (.ref f11) = true)
  (l11:K.lookup f11 = some ⟨oc11,od11,.func (fnOf "__init__" "Tag.__init__" (zq zdV) (zo zdV) (ze zdV) (.ref T11) kV11 dc11 pm11 an11 cd11 ct11),sl11⟩) (c11:codeIn K cd11 "Tag.__init__" = true) (k11:keepIn K (.ref f11) = true)
  (t11:K.lookup T11 = some ⟨ocT11,odT11,.seq #[Value.bool false] nT11,slT11⟩)
  (a12:findIn K (.ref C4) "__init__" = some (some (.ref f12))) (i12:isFn K (.ref f12) = true)
  (l12:K.lookup f12 = some ⟨oc12,od12,.func (fnOf "__init__" "Bag.__init__" (zq zdZ) (zo zdZ) (ze zdZ) .none kV12 dc12 pm12 an12 cd12 ct12),sl12⟩) (c12:codeIn K cd12 "Bag.__init__" = true) (k12:keepIn K (.ref f12) = true)
  (a13:findIn K (.ref FM) "__init__" = some (some (.ref f13))) (i13:isFn K (.ref f13) = true)
  (l13:K.lookup f13 = some ⟨oc13,od13,.func (fnOf "__init__" "Form.__init__" (zq uL) (zo uL) (ze uL) (.ref T13) kV13 dc13 pm13 an13 cd13 ct13),sl13⟩) (c13:codeIn K cd13 "Form.__init__" = true) (k13:keepIn K (.ref f13) = true)
  (t13:K.lookup T13 = some ⟨ocT13,odT13,.seq #[Value.none] nT13,slT13⟩)
  (a14:findIn K (.ref FM) "keep" = some (some (.ref f14))) (i14:isFn K (.ref f14) = true)
  (l14:K.lookup f14 = some ⟨oc14,od14,.func (fnOf "keep" "Form.keep" (zq qF) (zo qF) (ze qF) .none kV14 dc14 pm14 an14 cd14 ct14),sl14⟩) (c14:codeIn K cd14 "Form.keep" = true) (k14:keepIn K (.ref f14) = true)
  (a15:findIn K (.ref FM) "parameters" = some (some (.ref f15))) (i15:isFn K (.ref f15) = true)
  (l15:K.lookup f15 = some ⟨oc15,od15,.func (fnOf "parameters" "Form.parameters" (zq uK) (zo uK) (ze uK) .none kV15 dc15 pm15 an15 cd15 ct15),sl15⟩) (c15:codeIn K cd15 "Form.parameters" = true) (k15:keepIn K (.ref f15) = true)
  (a16:findIn K (.ref FM) "bars" = some (some (.ref f16))) (i16:isFn K (.ref f16) = true)
  (l16:K.lookup f16 = some ⟨oc16,od16,.func (fnOf "bars" "Form.bars" (zq uM) (zo uM) (ze uM) .none kV16 dc16 pm16 an16 cd16 ct16),sl16⟩) (c16:codeIn K cd16 "Form.bars" = true) (k16:keepIn K (.ref f16) = true)
  (a17:findIn K (.ref FM) "places" = some (some (.ref f17))) (i17:isFn K (.ref f17) = true)
  (l17:K.lookup f17 = some ⟨oc17,od17,.func (fnOf "places" "Form.places" (zq wf) (zo wf) (ze wf) .none kV17 dc17 pm17 an17 cd17 ct17),sl17⟩) (c17:codeIn K cd17 "Form.places" = true) (k17:keepIn K (.ref f17) = true)
  (a18:findIn K (.ref FM) "tail" = some (some (.ref f18))) (i18:isFn K (.ref f18) = true)
  (l18:K.lookup f18 = some ⟨oc18,od18,.func (fnOf "tail" "Form.tail" (zq uJ) (zo uJ) (ze uJ) .none kV18 dc18 pm18 an18 cd18 ct18),sl18⟩) (c18:codeIn K cd18 "Form.tail" = true) (k18:keepIn K (.ref f18) = true)
  (a19:findIn K (.ref FM) "bag" = some (some (.ref f19))) (i19:isFn K (.ref f19) = true)
  (l19:K.lookup f19 = some ⟨oc19,od19,.func (fnOf "bag" "Form.bag" (zq qK) (zo qK) (ze qK) .none kV19 dc19 pm19 an19 cd19 ct19),sl19⟩) (c19:codeIn K cd19 "Form.bag" = true) (k19:keepIn K (.ref f19) = true)
  (a20:findIn K (.ref FM) "number_of" = some (some (.ref f20))) (i20:isFn K (.ref f20) = true)
  (l20:K.lookup f20 = some ⟨oc20,od20,.func (fnOf "number_of" "Form.number_of" (zq qJ) (zo qJ) (ze qJ) .none kV20 dc20 pm20 an20 cd20 ct20),sl20⟩) (c20:codeIn K cd20 "Form.number_of" = true) (k20:keepIn K (.ref f20) = true)
  (a21:nsIn K mainGlobals "parameter_of" = some (some (.ref f21)))
  (l21:K.lookup f21 = some ⟨oc21,od21,.func (fnOf "parameter_of" "parameter_of" (zq zdW) (zo zdW) (ze zdW) .none kV21 dc21 pm21 an21 cd21 ct21),sl21⟩) (c21:codeIn K cd21 "parameter_of" = true) (k21:keepIn K (.ref f21) = true)
  (a22:nsIn K mainGlobals "refuse_too_many" = some (some (.ref f22)))
  (l22:K.lookup f22 = some ⟨oc22,od22,.func (fnOf "refuse_too_many" "refuse_too_many" (zq uB) (zo uB) (ze uB) .none kV22 dc22 pm22 an22 cd22 ct22),sl22⟩) (c22:codeIn K cd22 "refuse_too_many" = true) (k22:keepIn K (.ref f22) = true)
  (a23:nsIn K mainGlobals "refuse_bad_order" = some (some (.ref f23)))
  (l23:K.lookup f23 = some ⟨oc23,od23,.func (fnOf "refuse_bad_order" "refuse_bad_order" (zq wW) (zo wW) (ze wW) .none kV23 dc23 pm23 an23 cd23 ct23),sl23⟩) (c23:codeIn K cd23 "refuse_bad_order" = true) (k23:keepIn K (.ref f23) = true)
  (a24:nsIn K mainGlobals "refuse_bars_without_name" = some (some (.ref f24)))
  (l24:K.lookup f24 = some ⟨oc24,od24,.func (fnOf "refuse_bars_without_name" "refuse_bars_without_name" (zq uC) (zo uC) (ze uC) .none kV24 dc24 pm24 an24 cd24 ct24),sl24⟩) (c24:codeIn K cd24 "refuse_bars_without_name" = true) (k24:keepIn K (.ref f24) = true)
  (a25:nsIn K mainGlobals "refuse_twice" = some (some (.ref f25)))
  (l25:K.lookup f25 = some ⟨oc25,od25,.func (fnOf "refuse_twice" "refuse_twice" (zq wV) (zo wV) (ze wV) .none kV25 dc25 pm25 an25 cd25 ct25),sl25⟩) (c25:codeIn K cd25 "refuse_twice" = true) (k25:keepIn K (.ref f25) = true)
  (a26:nsIn K mainGlobals "number_of_word" = some (some (.ref f26)))
  (l26:K.lookup f26 = some ⟨oc26,od26,.func (fnOf "number_of_word" "number_of_word" (zq qB) (zo qB) (ze qB) .none kV26 dc26 pm26 an26 cd26 ct26),sl26⟩) (c26:codeIn K cd26 "number_of_word" = true) (k26:keepIn K (.ref f26) = true)
  (a27:nsIn K mainGlobals "laid" = some (some (.ref f27)))
  (l27:K.lookup f27 = some ⟨oc27,od27,.func (fnOf "laid" "laid" (zq qC) (zo qC) (ze qC) .none kV27 dc27 pm27 an27 cd27 ct27),sl27⟩) (c27:codeIn K cd27 "laid" = true) (k27:keepIn K (.ref f27) = true)
  (a28:nsIn K mainGlobals "misfits" = some (some (.ref f28)))
  (l28:K.lookup f28 = some ⟨oc28,od28,.func (fnOf "misfits" "misfits" (zq wb) (zo wb) (ze wb) .none kV28 dc28 pm28 an28 cd28 ct28),sl28⟩) (c28:codeIn K cd28 "misfits" = true) (k28:keepIn K (.ref f28) = true)
  (a29:nsIn K mainGlobals "fits" = some (some (.ref f29)))
  (l29:K.lookup f29 = some ⟨oc29,od29,.func (fnOf "fits" "fits" (zq qI) (zo qI) (ze qI) .none kV29 dc29 pm29 an29 cd29 ct29),sl29⟩) (c29:codeIn K cd29 "fits" = true) (k29:keepIn K (.ref f29) = true)
  (a30:nsIn K mainGlobals "shape" = some (some (.ref f30)))
  (l30:K.lookup f30 = some ⟨oc30,od30,.func (fnOf "shape" "shape" (zq uz) (zo uz) (ze uz) .none kV30 dc30 pm30 an30 cd30 ct30),sl30⟩) (c30:codeIn K cd30 "shape" = true) (k30:keepIn K (.ref f30) = true)
  (a31:nsIn K mainGlobals "first_numbers" = some (some (.ref f31)))
  (l31:K.lookup f31 = some ⟨oc31,od31,.func (fnOf "first_numbers" "first_numbers" (zq wY) (zo wY) (ze wY) .none kV31 dc31 pm31 an31 cd31 ct31),sl31⟩) (c31:codeIn K cd31 "first_numbers" = true) (k31:keepIn K (.ref f31) = true)
  (a32:nsIn K mainGlobals "misfits_of" = some (some (.ref f32)))
  (l32:K.lookup f32 = some ⟨oc32,od32,.func (fnOf "misfits_of" "misfits_of" (zq zdY) (zo zdY) (ze zdY) .none kV32 dc32 pm32 an32 cd32 ct32),sl32⟩) (c32:codeIn K cd32 "misfits_of" = true) (k32:keepIn K (.ref f32) = true)
  (a33:nsIn K mainGlobals "overs" = some (some (.ref f33)))
  (l33:K.lookup f33 = some ⟨oc33,od33,.func (fnOf "overs" "overs" (zq uF) (zo uF) (ze uF) .none kV33 dc33 pm33 an33 cd33 ct33),sl33⟩) (c33:codeIn K cd33 "overs" = true) (k33:keepIn K (.ref f33) = true)
  (a34:nsIn K mainGlobals "unwelcomes" = some (some (.ref f34)))
  (l34:K.lookup f34 = some ⟨oc34,od34,.func (fnOf "unwelcomes" "unwelcomes" (zq zdU) (zo zdU) (ze zdU) .none kV34 dc34 pm34 an34 cd34 ct34),sl34⟩) (c34:codeIn K cd34 "unwelcomes" = true) (k34:keepIn K (.ref f34) = true)
  (a35:nsIn K mainGlobals "lackings" = some (some (.ref f35)))
  (l35:K.lookup f35 = some ⟨oc35,od35,.func (fnOf "lackings" "lackings" (zq qD) (zo qD) (ze qD) .none kV35 dc35 pm35 an35 cd35 ct35),sl35⟩) (c35:codeIn K cd35 "lackings" = true) (k35:keepIn K (.ref f35) = true)
  (a36:nsIn K mainGlobals "one_entry" = some (some (.ref f36)))
  (l36:K.lookup f36 = some ⟨oc36,od36,.func (fnOf "one_entry" "one_entry" (zq qA) (zo qA) (ze qA) .none kV36 dc36 pm36 an36 cd36 ct36),sl36⟩) (c36:codeIn K cd36 "one_entry" = true) (k36:keepIn K (.ref f36) = true)
  (a37:nsIn K mainGlobals "refuse" = some (some (.ref f37)))
  (l37:K.lookup f37 = some ⟨oc37,od37,.func (fnOf "refuse" "refuse" (zq jo) (zo jo) (ze jo) .none kV37 dc37 pm37 an37 cd37 ct37),sl37⟩) (c37:codeIn K cd37 "refuse" = true) (k37:keepIn K (.ref f37) = true)
  (a38:nsIn K mainGlobals "entry" = some (some (.ref f38)))
  (l38:K.lookup f38 = some ⟨oc38,od38,.func (fnOf "entry" "entry" (zq uN) (zo uN) (ze uN) .none kV38 dc38 pm38 an38 cd38 ct38),sl38⟩) (c38:codeIn K cd38 "entry" = true) (k38:keepIn K (.ref f38) = true)
  (a39:nsIn K mainGlobals "paper" = some (some (.ref f39)))
  (l39:K.lookup f39 = some ⟨oc39,od39,.func (fnOf "paper" "paper" (zq uD) (zo uD) (ze uD) .none kV39 dc39 pm39 an39 cd39 ct39),sl39⟩) (c39:codeIn K cd39 "paper" = true) (k39:keepIn K (.ref f39) = true)
  (a40:nsIn K mainGlobals "_law_cell" = some (some (.ref f40)))
  (l40:K.lookup f40 = some ⟨oc40,od40,.func (fnOf "_law_cell" "_law_cell" (zq qL) (zo qL) (ze qL) .none kV40 dc40 pm40 an40 cd40 ct40),sl40⟩) (c40:codeIn K cd40 "_law_cell" = true) (k40:keepIn K (.ref f40) = true)
  (a41:nsIn K mainGlobals "_law_is_int" = some (some (.ref f41)))
  (l41:K.lookup f41 = some ⟨oc41,od41,.func (fnOf "_law_is_int" "_law_is_int" (zq uI) (zo uI) (ze uI) .none kV41 dc41 pm41 an41 cd41 ct41),sl41⟩) (c41:codeIn K cd41 "_law_is_int" = true) (k41:keepIn K (.ref f41) = true)
  (a42:nsIn K mainGlobals "_law_mix" = some (some (.ref f42)))
  (l42:K.lookup f42 = some ⟨oc42,od42,.func (fnOf "_law_mix" "_law_mix" (zq zdX) (zo zdX) (ze zdX) .none kV42 dc42 pm42 an42 cd42 ct42),sl42⟩) (c42:codeIn K cd42 "_law_mix" = true) (k42:keepIn K (.ref f42) = true)
  (a43:nsIn K mainGlobals "_law_pool" = some (some (.ref f43)))
  (l43:K.lookup f43 = some ⟨oc43,od43,.func (fnOf "_law_pool" "_law_pool" (zq qz) (zo qz) (ze qz) .none kV43 dc43 pm43 an43 cd43 ct43),sl43⟩) (c43:codeIn K cd43 "_law_pool" = true) (k43:keepIn K (.ref f43) = true)
  (a44:nsIn K mainGlobals "_law_form" = some (some (.ref f44)))
  (l44:K.lookup f44 = some ⟨oc44,od44,.func (fnOf "_law_form" "_law_form" (zq qH) (zo qH) (ze qH) .none kV44 dc44 pm44 an44 cd44 ct44),sl44⟩) (c44:codeIn K cd44 "_law_form" = true) (k44:keepIn K (.ref f44) = true)
  (a45:nsIn K mainGlobals "_law_doubled" = some (some (.ref f45)))
  (l45:K.lookup f45 = some ⟨oc45,od45,.func (fnOf "_law_doubled" "_law_doubled" (zq qE) (zo qE) (ze qE) .none kV45 dc45 pm45 an45 cd45 ct45),sl45⟩) (c45:codeIn K cd45 "_law_doubled" = true) (k45:keepIn K (.ref f45) = true)
  (a46:nsIn K mainGlobals "_law_made" = some (some (.ref f46)))
  (l46:K.lookup f46 = some ⟨oc46,od46,.func (fnOf "_law_made" "_law_made" (zq uG) (zo uG) (ze uG) .none kV46 dc46 pm46 an46 cd46 ct46),sl46⟩) (c46:codeIn K cd46 "_law_made" = true) (k46:keepIn K (.ref f46) = true)
  (a47:nsIn K mainGlobals "_law_thing" = some (some (.ref f47)))
  (l47:K.lookup f47 = some ⟨oc47,od47,.func (fnOf "_law_thing" "_law_thing" (zq uy) (zo uy) (ze uy) .none kV47 dc47 pm47 an47 cd47 ct47),sl47⟩) (c47:codeIn K cd47 "_law_thing" = true) (k47:keepIn K (.ref f47) = true)
  (a48:nsIn K mainGlobals "_law_items" = some (some (.ref f48)))
  (l48:K.lookup f48 = some ⟨oc48,od48,.func (fnOf "_law_items" "_law_items" (zq uH) (zo uH) (ze uH) .none kV48 dc48 pm48 an48 cd48 ct48),sl48⟩) (c48:codeIn K cd48 "_law_items" = true) (k48:keepIn K (.ref f48) = true)
  (a49:nsIn K mainGlobals "_law_told_names" = some (some (.ref f49)))
  (l49:K.lookup f49 = some ⟨oc49,od49,.func (fnOf "_law_told_names" "_law_told_names" (zq ux) (zo ux) (ze ux) .none kV49 dc49 pm49 an49 cd49 ct49),sl49⟩) (c49:codeIn K cd49 "_law_told_names" = true) (k49:keepIn K (.ref f49) = true)
  (a50:nsIn K mainGlobals "_law_fitting" = some (some (.ref f50)))
  (l50:K.lookup f50 = some ⟨oc50,od50,.func (fnOf "_law_fitting" "_law_fitting" (zq wc) (zo wc) (ze wc) .none kV50 dc50 pm50 an50 cd50 ct50),sl50⟩) (c50:codeIn K cd50 "_law_fitting" = true) (k50:keepIn K (.ref f50) = true)
  (a51:nsIn K mainGlobals "_law_copied" = some (some (.ref f51)))
  (l51:K.lookup f51 = some ⟨oc51,od51,.func (fnOf "_law_copied" "_law_copied" (zq wZ) (zo wZ) (ze wZ) .none kV51 dc51 pm51 an51 cd51 ct51),sl51⟩) (c51:codeIn K cd51 "_law_copied" = true) (k51:keepIn K (.ref f51) = true)
  (a52:nsIn K mainGlobals "_law_numbers" = some (some (.ref f52)))
  (l52:K.lookup f52 = some ⟨oc52,od52,.func (fnOf "_law_numbers" "_law_numbers" (zq wa) (zo wa) (ze wa) .none kV52 dc52 pm52 an52 cd52 ct52),sl52⟩) (c52:codeIn K cd52 "_law_numbers" = true) (k52:keepIn K (.ref f52) = true)
  (a53:nsIn K mainGlobals "_law_entry" = some (some (.ref f53)))
  (l53:K.lookup f53 = some ⟨oc53,od53,.func (fnOf "_law_entry" "_law_entry" (zq wX) (zo wX) (ze wX) .none kV53 dc53 pm53 an53 cd53 ct53),sl53⟩) (c53:codeIn K cd53 "_law_entry" = true) (k53:keepIn K (.ref f53) = true)
  (a54:nsIn K mainGlobals "_law_used" = some (some (.ref f54)))
  (l54:K.lookup f54 = some ⟨oc54,od54,.func (fnOf "_law_used" "_law_used" (zq qw) (zo qw) (ze qw) .none kV54 dc54 pm54 an54 cd54 ct54),sl54⟩) (c54:codeIn K cd54 "_law_used" = true) (k54:keepIn K (.ref f54) = true)
  (a55:nsIn K mainGlobals "_law_right" = some (some (.ref f55)))
  (l55:K.lookup f55 = some ⟨oc55,od55,.func (fnOf "_law_right" "_law_right" (zq uA) (zo uA) (ze uA) .none kV55 dc55 pm55 an55 cd55 ct55),sl55⟩) (c55:codeIn K cd55 "_law_right" = true) (k55:keepIn K (.ref f55) = true)
  (a56:nsIn K mainGlobals "law" = some (some (.ref f56)))
  (l56:K.lookup f56 = some ⟨oc56,od56,.func (fnOf "law" "law" (zq zaL) (zo zaL) (ze zaL) .none kV56 dc56 pm56 an56 cd56 ct56),sl56⟩) (c56:codeIn K cd56 "law" = true) (k56:keepIn K (.ref f56) = true)
  (zisinstance:nsIn K mainGlobals "isinstance" = some none)
  (zstr:nsIn K mainGlobals "str" = some none)
  (zbool:nsIn K mainGlobals "bool" = some none)
  (zlen:nsIn K mainGlobals "len" = some none)
  (zall:nsIn K mainGlobals "all" = some none)
  (zrange:nsIn K mainGlobals "range" = some none)
  (zlist:nsIn K mainGlobals "list" = some none)
  (zenumerate:nsIn K mainGlobals "enumerate" = some none)
  (zset:nsIn K mainGlobals "set" = some none)
  (zmin:nsIn K mainGlobals "min" = some none)
  (zmax:nsIn K mainGlobals "max" = some none)
  (zint:nsIn K mainGlobals "int" = some none)
  (ztuple:nsIn K mainGlobals "tuple" = some none)
  (zdict:nsIn K mainGlobals "dict" = some none)
  (zsorted:nsIn K mainGlobals "sorted" = some none)
  (gL:nsIn K mainGlobals "LETTERS" = some (some (.str letters tL)))
  (gN:nsIn K mainGlobals "LONGEST" = some (some (.int 8 tN)))
  (gMP:nsIn K mainGlobals "MOST_PARAMETERS" = some (some (.int 24 tMP)))
  (gMB:nsIn K mainGlobals "MOST_BARS" = some (some (.int 60 tMB)))
  (ytP:nsIn K mainGlobals "BY_PLACE" = some (some (.ref tP)))
  (utP:K.lookup tP = some ⟨.type "tuple",odtP,.seq #[.str "seat" ktP0,.str "both" ktP1] ntP,sltP⟩)
  (ytB:nsIn K mainGlobals "BY_NAME" = some (some (.ref tB)))
  (utB:K.lookup tB = some ⟨.type "tuple",odtB,.seq #[.str "both" ktB0,.str "tag" ktB1] ntB,sltB⟩)
  (ytO:nsIn K mainGlobals "OF_ONE_THING" = some (some (.ref tO)))
  (utO:K.lookup tO = some ⟨.type "tuple",odtO,.seq #[.str "seat" ktO0,.str "both" ktO1,.str "tag" ktO2] ntO,sltO⟩)
  (ysg:nsIn K mainGlobals "SINGLE_GROUPS" = some (some (.ref sg)))
  (usg:K.lookup sg = some ⟨.type "tuple",odsg,.seq #[.int 1 ksg0,.int 3 ksg1] nsg,slsg⟩)
  (yGr:nsIn K mainGlobals "GROUPS" = some (some (.ref Gr)))
  (lGr:K.lookup Gr = some ⟨.type "dict",none,.dict esG nG,#[]⟩)
  (kGr:KeysLit w.params esG.toList)
  (eG0:nsIn K Gr "seat" = some (some (.int 0 kG0)))
  (eG1:nsIn K Gr "both" = some (some (.int 0 kG1)))
  (eG2:nsIn K Gr "tail" = some (some (.int 1 kG2)))
  (eG3:nsIn K Gr "tag" = some (some (.int 2 kG3)))
  (eG4:nsIn K Gr "bag" = some (some (.int 3 kG4)))
  (dga:specialIn K (.ref D) "__getattribute__" = some (some (.builtin "type.__getattribute__")))
  (drd:PySem.W.readsIn K D (.type "type") = true)
  (dfc:PySem.W.findCls K (.ref D) (.type "type") "__init__" = some (.val (.ref f2)))
  (h0_3:findIn K (.ref C0) "free" = some (some (.ref f3)))
  (h0_4:findIn K (.ref C0) "by_place" = some (some (.ref f4)))
  (h0_5:findIn K (.ref C0) "by_name" = some (some (.ref f5)))
  (h0_6:findIn K (.ref C0) "takes_one" = some (some (.ref f6)))
  (h0_7:findIn K (.ref C0) "told" = some (some (.ref f7)))
  (h1_3:findIn K (.ref C1) "free" = some (some (.ref f3)))
  (h1_4:findIn K (.ref C1) "by_place" = some (some (.ref f4)))
  (h1_5:findIn K (.ref C1) "by_name" = some (some (.ref f5)))
  (h1_6:findIn K (.ref C1) "takes_one" = some (some (.ref f6)))
  (h1_7:findIn K (.ref C1) "told" = some (some (.ref f7)))
  (h2_3:findIn K (.ref C2) "free" = some (some (.ref f3)))
  (h2_4:findIn K (.ref C2) "by_place" = some (some (.ref f4)))
  (h2_5:findIn K (.ref C2) "by_name" = some (some (.ref f5)))
  (h2_6:findIn K (.ref C2) "takes_one" = some (some (.ref f6)))
  (h2_7:findIn K (.ref C2) "told" = some (some (.ref f7)))
  (h3_3:findIn K (.ref C3) "free" = some (some (.ref f3)))
  (h3_4:findIn K (.ref C3) "by_place" = some (some (.ref f4)))
  (h3_5:findIn K (.ref C3) "by_name" = some (some (.ref f5)))
  (h3_6:findIn K (.ref C3) "takes_one" = some (some (.ref f6)))
  (h3_7:findIn K (.ref C3) "told" = some (some (.ref f7)))
  (h4_3:findIn K (.ref C4) "free" = some (some (.ref f3)))
  (h4_4:findIn K (.ref C4) "by_place" = some (some (.ref f4)))
  (h4_5:findIn K (.ref C4) "by_name" = some (some (.ref f5)))
  (h4_6:findIn K (.ref C4) "takes_one" = some (some (.ref f6)))
  (h4_7:findIn K (.ref C4) "told" = some (some (.ref f7)))
  (yE0:nsIn K mainGlobals "NoName" = some (some (.ref E0)))
  (xo:excIn K E0 [.type "ValueError",.type "Exception",.type "BaseException",.type "object"] "ValueError.__new__" = true)
  : ∃ fd:FuncData,(∀ (s:Shared) (v:Value),BindsTo s fd ⟨[v],[]⟩ [("_law_script",v)])/\∀ base:Heap,K.In base->base.Ns mainGlobals mg->zE l.prog w K mg base CX0 8 fa fd ["_law_script"] (zay K):=by
 have e:=hfa.symm.trans (mg_of X G a56)
 cases e
 have F1:=zG (st:=sIs) l1 c1 k1
 have b1:=F1.binds (ps:=["thing"]) fun _ _ _ _ _ _ us hl=>match us,hl with | [_],_=>rfl
 have F2:=zG (st:=uE) l2 c2 k2
 have b2:=F2.binds (ps:=["self","word","name","may_lack"]) fun _ _ _ _ _ _ us hl=>match us,hl with | [_,_,_,_],_=>rfl
 have F3:=zG (st:=qG) l3 c3 k3
 have b3:=F3.binds (ps:=["self"]) fun _ _ _ _ _ _ us hl=>match us,hl with | [_],_=>rfl
 have F4:=zG (st:=wg) l4 c4 k4
 have b4:=F4.binds (ps:=["self"]) fun _ _ _ _ _ _ us hl=>match us,hl with | [_],_=>rfl
 have F5:=zG (st:=w6) l5 c5 k5
 have b5:=F5.binds (ps:=["self"]) fun _ _ _ _ _ _ us hl=>match us,hl with | [_],_=>rfl
 have F6:=zG (st:=zaK) l6 c6 k6
 have b6:=F6.binds (ps:=["self"]) fun _ _ _ _ _ _ us hl=>match us,hl with | [_],_=>rfl
 have F7:=zG (st:=zdf) l7 c7 k7
 have b7:=F7.binds (ps:=["self"]) fun _ _ _ _ _ _ us hl=>match us,hl with | [_],_=>rfl
 have F8:=ju (st:=qy) (items:=[Value.bool false]) l8 c8 k8 t8 rfl
 have F9:=ju (st:=qM) (items:=[Value.bool false]) l9 c9 k9 t9 rfl
 have F10:=zG (st:=qx) l10 c10 k10
 have b10:=F10.binds (ps:=["self","name"]) fun _ _ _ _ _ _ us hl=>match us,hl with | [_,_],_=>rfl
 have F11:=ju (st:=zdV) (items:=[Value.bool false]) l11 c11 k11 t11 rfl
 have F12:=zG (st:=zdZ) l12 c12 k12
 have b12:=F12.binds (ps:=["self","name"]) fun _ _ _ _ _ _ us hl=>match us,hl with | [_,_],_=>rfl
 have F13:=ju (st:=uL) (items:=[Value.none]) l13 c13 k13 t13 rfl
 have F14:=zG (st:=qF) l14 c14 k14
 have b14:=F14.binds (ps:=["self","parameters","bars"]) fun _ _ _ _ _ _ us hl=>match us,hl with | [_,_,_],_=>rfl
 have F15:=zG (st:=uK) l15 c15 k15
 have b15:=F15.binds (ps:=["self"]) fun _ _ _ _ _ _ us hl=>match us,hl with | [_],_=>rfl
 have F16:=zG (st:=uM) l16 c16 k16
 have b16:=F16.binds (ps:=["self"]) fun _ _ _ _ _ _ us hl=>match us,hl with | [_],_=>rfl
 have F17:=zG (st:=wf) l17 c17 k17
 have b17:=F17.binds (ps:=["self"]) fun _ _ _ _ _ _ us hl=>match us,hl with | [_],_=>rfl
 have F18:=zG (st:=uJ) l18 c18 k18
 have b18:=F18.binds (ps:=["self"]) fun _ _ _ _ _ _ us hl=>match us,hl with | [_],_=>rfl
 have F19:=zG (st:=qK) l19 c19 k19
 have b19:=F19.binds (ps:=["self"]) fun _ _ _ _ _ _ us hl=>match us,hl with | [_],_=>rfl
 have F20:=zG (st:=qJ) l20 c20 k20
 have b20:=F20.binds (ps:=["self","name"]) fun _ _ _ _ _ _ us hl=>match us,hl with | [_,_],_=>rfl
 have F21:=zG (st:=zdW) l21 c21 k21
 have b21:=F21.binds (ps:=["told"]) fun _ _ _ _ _ _ us hl=>match us,hl with | [_],_=>rfl
 have F22:=zG (st:=uB) l22 c22 k22
 have b22:=F22.binds (ps:=["parameters","bars"]) fun _ _ _ _ _ _ us hl=>match us,hl with | [_,_],_=>rfl
 have F23:=zG (st:=wW) l23 c23 k23
 have b23:=F23.binds (ps:=["parameters"]) fun _ _ _ _ _ _ us hl=>match us,hl with | [_],_=>rfl
 have F24:=zG (st:=uC) l24 c24 k24
 have b24:=F24.binds (ps:=["bars"]) fun _ _ _ _ _ _ us hl=>match us,hl with | [_],_=>rfl
 have F25:=zG (st:=wV) l25 c25 k25
 have b25:=F25.binds (ps:=["parameters","bars"]) fun _ _ _ _ _ _ us hl=>match us,hl with | [_,_],_=>rfl
 have F26:=zG (st:=qB) l26 c26 k26
 have b26:=F26.binds (ps:=["parameters","word"]) fun _ _ _ _ _ _ us hl=>match us,hl with | [_,_],_=>rfl
 have F27:=zG (st:=qC) l27 c27 k27
 have b27:=F27.binds (ps:=["call"]) fun _ _ _ _ _ _ us hl=>match us,hl with | [_],_=>rfl
 have F28:=zG (st:=wb) l28 c28 k28
 have b28:=F28.binds (ps:=["form","call"]) fun _ _ _ _ _ _ us hl=>match us,hl with | [_,_],_=>rfl
 have F29:=zG (st:=qI) l29 c29 k29
 have b29:=F29.binds (ps:=["form","call"]) fun _ _ _ _ _ _ us hl=>match us,hl with | [_,_],_=>rfl
 have F30:=zG (st:=uz) l30 c30 k30
 have b30:=F30.binds (ps:=["call"]) fun _ _ _ _ _ _ us hl=>match us,hl with | [_],_=>rfl
 have F31:=zG (st:=wY) l31 c31 k31
 have b31:=F31.binds (ps:=["names"]) fun _ _ _ _ _ _ us hl=>match us,hl with | [_],_=>rfl
 have F32:=zG (st:=zdY) l32 c32 k32
 have b32:=F32.binds (ps:=["form","many","names"]) fun _ _ _ _ _ _ us hl=>match us,hl with | [_,_,_],_=>rfl
 have F33:=zG (st:=uF) l33 c33 k33
 have b33:=F33.binds (ps:=["form","many"]) fun _ _ _ _ _ _ us hl=>match us,hl with | [_,_],_=>rfl
 have F34:=zG (st:=zdU) l34 c34 k34
 have b34:=F34.binds (ps:=["form","many","firsts"]) fun _ _ _ _ _ _ us hl=>match us,hl with | [_,_,_],_=>rfl
 have F35:=zG (st:=qD) l35 c35 k35
 have b35:=F35.binds (ps:=["form","many","firsts"]) fun _ _ _ _ _ _ us hl=>match us,hl with | [_,_,_],_=>rfl
 have F36:=zG (st:=qA) l36 c36 k36
 have b36:=F36.binds (ps:=["parameter","number","many","firsts"]) fun _ _ _ _ _ _ us hl=>match us,hl with | [_,_,_,_],_=>rfl
 have F37:=zG (st:=jo) l37 c37 k37
 have b37:=F37.binds (ps:=["word","number"]) fun _ _ _ _ _ _ us hl=>match us,hl with | [_,_],_=>rfl
 have F38:=zG (st:=uN) l38 c38 k38
 have b38:=F38.binds (ps:=["form","number","many","firsts"]) fun _ _ _ _ _ _ us hl=>match us,hl with | [_,_,_,_],_=>rfl
 have F39:=zG (st:=uD) l39 c39 k39
 have b39:=F39.binds (ps:=["form","call"]) fun _ _ _ _ _ _ us hl=>match us,hl with | [_,_],_=>rfl
 have F40:=zG (st:=qL) l40 c40 k40
 have b40:=F40.binds (ps:=["_law_script","_law_at"]) fun _ _ _ _ _ _ us hl=>match us,hl with | [_,_],_=>rfl
 have F41:=zG (st:=uI) l41 c41 k41
 have b41:=F41.binds (ps:=["_law_found"]) fun _ _ _ _ _ _ us hl=>match us,hl with | [_],_=>rfl
 have F42:=zG (st:=zdX) l42 c42 k42
 have b42:=F42.binds (ps:=["_law_cell_here","_law_k"]) fun _ _ _ _ _ _ us hl=>match us,hl with | [_,_],_=>rfl
 have F43:=zG (st:=qz) l43 c43 k43
 have b43:=F43.binds (ps:=["_law_cell_here"]) fun _ _ _ _ _ _ us hl=>match us,hl with | [_],_=>rfl
 have F44:=zG (st:=qH) l44 c44 k44
 have b44:=F44.binds (ps:=["_law_script","_law_at","_law_pool_here","_law_most"]) fun _ _ _ _ _ _ us hl=>match us,hl with | [_,_,_,_],_=>rfl
 have F45:=zG (st:=qE) l45 c45 k45
 have b45:=F45.binds (ps:=["_law_told"]) fun _ _ _ _ _ _ us hl=>match us,hl with | [_],_=>rfl
 have F46:=zG (st:=uG) l46 c46 k46
 have b46:=F46.binds (ps:=["_law_told","_law_alike"]) fun _ _ _ _ _ _ us hl=>match us,hl with | [_,_],_=>rfl
 have F47:=zG (st:=uy) l47 c47 k47
 have b47:=F47.binds (ps:=["_law_cell_here","_law_k"]) fun _ _ _ _ _ _ us hl=>match us,hl with | [_,_],_=>rfl
 have F48:=zG (st:=uH) l48 c48 k48
 have b48:=F48.binds (ps:=["_law_things","_law_pairs","_law_cell_here"]) fun _ _ _ _ _ _ us hl=>match us,hl with | [_,_,_],_=>rfl
 have F49:=zG (st:=ux) l49 c49 k49
 have b49:=F49.binds (ps:=["_law_told","_law_many","_law_more"]) fun _ _ _ _ _ _ us hl=>match us,hl with | [_,_,_],_=>rfl
 have F50:=zG (st:=wc) l50 c50 k50
 have b50:=F50.binds (ps:=["_law_told","_law_pool_here","_law_cell_here","_law_more"]) fun _ _ _ _ _ _ us hl=>match us,hl with | [_,_,_,_],_=>rfl
 have F51:=zG (st:=wZ) l51 c51 k51
 have b51:=F51.binds (ps:=["_law_call"]) fun _ _ _ _ _ _ us hl=>match us,hl with | [_],_=>rfl
 have F52:=zG (st:=wa) l52 c52 k52
 have b52:=F52.binds (ps:=["_law_found"]) fun _ _ _ _ _ _ us hl=>match us,hl with | [_],_=>rfl
 have F53:=zG (st:=wX) l53 c53 k53
 have b53:=F53.binds (ps:=["_law_one","_law_at","_law_entry_here","_law_told","_law_names"]) fun _ _ _ _ _ _ us hl=>match us,hl with | [_,_,_,_,_],_=>rfl
 have F54:=zG (st:=qw) l54 c54 k54
 have b54:=F54.binds (ps:=["_law_found"]) fun _ _ _ _ _ _ us hl=>match us,hl with | [_],_=>rfl
 have F55:=zG (st:=uA) l55 c55 k55
 have b55:=F55.binds (ps:=["_law_found","_law_told","_law_things","_law_pairs"]) fun _ _ _ _ _ _ us hl=>match us,hl with | [_,_,_,_],_=>rfl
 have F56:=zG (st:=zaL) l56 c56 k56
 have no:∀ {x:Str},nsIn K mainGlobals x = some none->mg x = none:=fun z=>PySem.W.mg_none_of X G z
 have T:zjI K mg:=⟨no zisinstance,no zstr,no zbool,no zlen,no zall,no zrange,⟨tL,mg_of X G gL⟩,⟨tN,mg_of X G gN⟩,jg K,zcH K,zbK K,zbH K,zaS K,zbJ K,zcG K,zaT K⟩
 have Wd:Wds K mg tP tB tO:=⟨mg_of X G ytP,mg_of X G ytB,mg_of X G ytO,fun H=>.inr ⟨_,_,_,utP,rfl,rfl,zz2,.cons ⟨_,rfl⟩ (.cons ⟨_,rfl⟩ (.nil))⟩,fun H=>.inr ⟨_,_,_,utB,rfl,rfl,zz2,.cons ⟨_,rfl⟩ (.cons ⟨_,rfl⟩ (.nil))⟩,fun H=>.inr ⟨_,_,_,utO,rfl,rfl,zz3,.cons ⟨_,rfl⟩ (.cons ⟨_,rfl⟩ (.cons ⟨_,rfl⟩ (.nil)))⟩⟩
 have TF:zb3 w K mg Gr sg:=⟨no zlen,no zenumerate,no zlist,no zset,⟨tMP,mg_of X G gMP⟩,⟨tMB,mg_of X G gMB⟩,mg_of X G yGr,zg5 lGr kGr eG0 eG1 eG2 eG3 eG4,mg_of X G ysg,fun H=>.inr ⟨_,_,_,usg,rfl,rfl,zz2,.cons ⟨_,rfl⟩ (.cons ⟨_,rfl⟩ .nil)⟩⟩
 have pc0:PC K ⟨f3,f4,f5,f6,f7⟩ C0:=⟨⟨pgC0,hdC0,poC0,saC0⟩,nC0_word,nC0_name,nC0_may_lack,⟨h0_3,i3,k3⟩,⟨h0_4,i4,k4⟩,⟨h0_5,i5,k5⟩,⟨h0_6,i6,k6⟩,⟨h0_7,i7,k7⟩⟩
 have pc1:PC K ⟨f3,f4,f5,f6,f7⟩ C1:=⟨⟨pgC1,hdC1,poC1,saC1⟩,nC1_word,nC1_name,nC1_may_lack,⟨h1_3,i3,k3⟩,⟨h1_4,i4,k4⟩,⟨h1_5,i5,k5⟩,⟨h1_6,i6,k6⟩,⟨h1_7,i7,k7⟩⟩
 have pc2:PC K ⟨f3,f4,f5,f6,f7⟩ C2:=⟨⟨pgC2,hdC2,poC2,saC2⟩,nC2_word,nC2_name,nC2_may_lack,⟨h2_3,i3,k3⟩,⟨h2_4,i4,k4⟩,⟨h2_5,i5,k5⟩,⟨h2_6,i6,k6⟩,⟨h2_7,i7,k7⟩⟩
 have pc3:PC K ⟨f3,f4,f5,f6,f7⟩ C3:=⟨⟨pgC3,hdC3,poC3,saC3⟩,nC3_word,nC3_name,nC3_may_lack,⟨h3_3,i3,k3⟩,⟨h3_4,i4,k4⟩,⟨h3_5,i5,k5⟩,⟨h3_6,i6,k6⟩,⟨h3_7,i7,k7⟩⟩
 have pc4:PC K ⟨f3,f4,f5,f6,f7⟩ C4:=⟨⟨pgC4,hdC4,poC4,saC4⟩,nC4_word,nC4_name,nC4_may_lack,⟨h4_3,i3,k3⟩,⟨h4_4,i4,k4⟩,⟨h4_5,i5,k5⟩,⟨h4_6,i6,k6⟩,⟨h4_7,i7,k7⟩⟩
 have PP:Pcs K ⟨f3,f4,f5,f6,f7⟩ ⟨C0,C1,C2,C3,C4⟩:=fun k hk=>by
  rcases lt5 hk with rfl | rfl | rfl | rfl | rfl
  ·exact pc0
  ·exact pc1
  ·exact pc2
  ·exact pc3
  ·exact pc4
 have FK:FC K FM:=⟨⟨pgFM,hdFM,poFM,saFM⟩,nFM_row,nFM_bar_names,nFM_place_count,nFM_tail_number,nFM_bag_number,nFM_doors⟩
 have UL:zb2 mg:=⟨no zlen,no zrange,no zmin,no zmax,no zenumerate,no zlist,no zisinstance,no zbool,no zint⟩
 have T2:zhn K mg:=⟨no zisinstance,no zstr,no zbool,no zint,no ztuple,no zlist,no zlen,no zrange,no zenumerate⟩
 have b8_0:zS K _ ["self","name","free"] []:=fun s us KX hl=>match us,hl with | [u,v,x],_=>F8.bindsTo (fun _ _ _ _ _ _ _=>⟨_,rfl,rfl⟩) KX
 have b8_1:zS K _ ["self","name","free"] [.bool false]:=fun s us KX hl=>match us,(show us.length = 2 by simpa using hl) with | [u,v],_=>F8.bindsTo (fun _ _ _ _ _ _ _=>⟨_,rfl,rfl⟩) KX
 have b8_2:vI K _ ["self","name","free"] ["free"] g21 g21:=⟨fun s us ws KX hl=>match us,ws,hl with | [u,v],[x],_=>F8.bindsTo (fun _ _ _ _ _ _ _=>⟨_,rfl,rfl⟩) KX,fun r z=>jt r z⟩
 have b9_0:zS K _ ["self","name","free"] []:=fun s us KX hl=>match us,hl with | [u,v,x],_=>F9.bindsTo (fun _ _ _ _ _ _ _=>⟨_,rfl,rfl⟩) KX
 have b9_1:zS K _ ["self","name","free"] [.bool false]:=fun s us KX hl=>match us,(show us.length = 2 by simpa using hl) with | [u,v],_=>F9.bindsTo (fun _ _ _ _ _ _ _=>⟨_,rfl,rfl⟩) KX
 have b9_2:vI K _ ["self","name","free"] ["free"] g21 g21:=⟨fun s us ws KX hl=>match us,ws,hl with | [u,v],[x],_=>F9.bindsTo (fun _ _ _ _ _ _ _=>⟨_,rfl,rfl⟩) KX,fun r z=>jt r z⟩
 have b11_0:zS K _ ["self","name","free"] []:=fun s us KX hl=>match us,hl with | [u,v,x],_=>F11.bindsTo (fun _ _ _ _ _ _ _=>⟨_,rfl,rfl⟩) KX
 have b11_1:zS K _ ["self","name","free"] [.bool false]:=fun s us KX hl=>match us,(show us.length = 2 by simpa using hl) with | [u,v],_=>F11.bindsTo (fun _ _ _ _ _ _ _=>⟨_,rfl,rfl⟩) KX
 have b11_2:vI K _ ["self","name","free"] ["free"] g21 g21:=⟨fun s us ws KX hl=>match us,ws,hl with | [u,v],[x],_=>F11.bindsTo (fun _ _ _ _ _ _ _=>⟨_,rfl,rfl⟩) KX,fun r z=>jt r z⟩
 have b13_0:zS K _ ["self","parameters","bars"] []:=fun s us KX hl=>match us,hl with | [u,v,x],_=>F13.bindsTo (fun _ _ _ _ _ _ _=>⟨_,rfl,rfl⟩) KX
 have b13_1:zS K _ ["self","parameters","bars"] [.none]:=fun s us KX hl=>match us,(show us.length = 2 by simpa using hl) with | [u,v],_=>F13.bindsTo (fun _ _ _ _ _ _ _=>⟨_,rfl,rfl⟩) KX
 have b13_2:vI K _ ["self","parameters","bars"] ["bars"] g21 g21:=⟨fun s us ws KX hl=>match us,ws,hl with | [u,v],[x],_=>F13.bindsTo (fun _ _ _ _ _ _ _=>⟨_,rfl,rfl⟩) KX,fun r z=>jt r z⟩
 refine ⟨fnOf "law" "law" (zq zaL) (zo zaL) (ze zaL) .none kV56 dc56 pm56 an56 cd56 ct56,fun s v=>.of_eq rfl,fun base KB GB=>?_⟩
 have cI:zp l.prog w K mg base 1 "is_name" f1 _ ["thing"] (zgn K):=⟨zjj F1 T ,mg_of X G a1,k1,b1⟩
 have GP:zE l.prog w K mg base (CXe l.prog w) 2 f2 _ ["self","word","name","may_lack"] (spP K ⟨f3,f4,f5,f6,f7⟩ E0):=zfu F2 (zih KB GB yE0 xo) cI
 have CB:qi K D "__init__" f2:=⟨dga,drd,dfc,k2⟩
 have mD:=mg_of X G aD
 have UC:zhE l.prog w K mg base ⟨C0,C1,C2,C3,C4⟩ E0 f8 f9 f10 f11 f12 _ _ _ _ _:=⟨⟨⟨mkC0,a8,i8,kcC0⟩,zdq F8 pc0 CB mD GP b2,mg_of X G aC0,b8_0⟩,⟨⟨mkC0,a8,i8,kcC0⟩,zdq F8 pc0 CB mD GP b2,mg_of X G aC0,b8_1⟩,b8_2,⟨⟨mkC1,a9,i9,kcC1⟩,zdr F9 pc1 CB mD GP b2,mg_of X G aC1,b9_0⟩,⟨⟨mkC1,a9,i9,kcC1⟩,zdr F9 pc1 CB mD GP b2,mg_of X G aC1,b9_1⟩,b9_2,⟨⟨mkC2,a10,i10,kcC2⟩,zgN F10 pc2 CB mD GP b2,mg_of X G aC2,b10⟩,⟨⟨mkC3,a11,i11,kcC3⟩,zfr F11 pc3 CB mD GP b2,mg_of X G aC3,b11_0⟩,⟨⟨mkC3,a11,i11,kcC3⟩,zfr F11 pc3 CB mD GP b2,mg_of X G aC3,b11_1⟩,b11_2,⟨⟨mkC4,a12,i12,kcC4⟩,ziq F12 pc4 CB mD GP b2,mg_of X G aC4,b12⟩⟩
 have GF:zE l.prog w K mg base CX0 1 f3 _ ["self"] (zch K ⟨f3,f4,f5,f6,f7⟩):=zgV F3
 have GQ:zE l.prog w K mg base CX0 1 f4 _ ["self"] (zaC K ⟨f3,f4,f5,f6,f7⟩ bpL):=zbA F4 Wd
 have GN:zE l.prog w K mg base CX0 1 f5 _ ["self"] (zaC K ⟨f3,f4,f5,f6,f7⟩ bnL):=zcw F5 Wd
 have cM1:zp l.prog w K mg base 1 "refuse_too_many" f22 _ ["parameters","bars"] (zcd K):=⟨zgR F22 TF ,mg_of X G a22,k22,b22⟩
 have cM2:zp l.prog w K mg base 1 "refuse_bad_order" f23 _ ["parameters"] (zeW ⟨C0,C1,C2,C3,C4⟩):=⟨zfx F23 TF PP ,mg_of X G a23,k23,b23⟩
 have cM3:zp l.prog w K mg base 2 "refuse_bars_without_name" f24 _ ["bars"] zhT:=⟨zft F24 cI ,mg_of X G a24,k24,b24⟩
 have cM4:zp l.prog w K mg base 2 "refuse_twice" f25 _ ["parameters","bars"] (zhS ⟨C0,C1,C2,C3,C4⟩):=⟨zfo F25 TF PP GN b5 ,mg_of X G a25,k25,b25⟩
 have cW:zp l.prog w K mg base 1 "number_of_word" f26 _ ["parameters","word"] (zhV ⟨C0,C1,C2,C3,C4⟩):=⟨zgQ F26 TF PP ,mg_of X G a26,k26,b26⟩
 have GK:zE l.prog w K mg base CX0 2 f14 _ ["self","parameters","bars"] (zcg ⟨C0,C1,C2,C3,C4⟩ FM):=zgU F14 TF PP FK cW GQ b4 GN b5
 have GI:zE l.prog w K mg base CX0 3 f13 _ ["self","parameters","bars"] (zeX ⟨C0,C1,C2,C3,C4⟩ FM):=zfE F13 FK ⟨a14,i14,k14⟩ cM1 cM2 cM3 cM4 GK b14
 have kF0:qh l.prog w K mg base CX0 3 "Form" FM f13 _ ["self","parameters","bars"] [] (zeX ⟨C0,C1,C2,C3,C4⟩ FM):=⟨⟨mkFM,a13,i13,kcFM⟩,GI,mg_of X G aFM,b13_0⟩
 have kF1:qh l.prog w K mg base CX0 3 "Form" FM f13 _ ["self","parameters","bars"] [.none] (zeX ⟨C0,C1,C2,C3,C4⟩ FM):=⟨⟨mkFM,a13,i13,kcFM⟩,GI,mg_of X G aFM,b13_1⟩
 have mpa:y6 K FM "parameters" f15:=⟨a15,i15,k15⟩
 have Gpa:zE l.prog w K mg base CX0 1 f15 _ ["self"] (jz ⟨C0,C1,C2,C3,C4⟩ FM):=zfD F15 TF FK
 have mba:y6 K FM "bars" f16:=⟨a16,i16,k16⟩
 have Gba:zE l.prog w K mg base CX0 1 f16 _ ["self"] (zck ⟨C0,C1,C2,C3,C4⟩ FM):=zfF F16 TF FK
 have mpl:y6 K FM "places" f17:=⟨a17,i17,k17⟩
 have Gpl:zE l.prog w K mg base CX0 1 f17 _ ["self"] (wM ⟨C0,C1,C2,C3,C4⟩ FM):=zcu F17 FK
 have mta:y6 K FM "tail" f18:=⟨a18,i18,k18⟩
 have Gta:zE l.prog w K mg base CX0 1 f18 _ ["self"] (wL ⟨C0,C1,C2,C3,C4⟩ FM 2):=zfC F18 FK
 have mbg:y6 K FM "bag" f19:=⟨a19,i19,k19⟩
 have Gbg:zE l.prog w K mg base CX0 1 f19 _ ["self"] (wL ⟨C0,C1,C2,C3,C4⟩ FM 4):=zgZ F19 FK
 have mnu:y6 K FM "number_of" f20:=⟨a20,i20,k20⟩
 have Gnu:zE l.prog w K mg base CX0 1 f20 _ ["self","name"] (zc8 ⟨C0,C1,C2,C3,C4⟩ FM):=zgX F20 FK
 have cL:zp l.prog w K mg base 1 "laid" f27 _ ["call"] (zce K):=⟨zgT F27 ,mg_of X G a27,k27,b27⟩
 have cSh:zp l.prog w K mg base 2 "shape" f30 _ ["call"] (jl K):=⟨zfs F30 (no zlen) cL ,mg_of X G a30,k30,b30⟩
 have cFn:zp l.prog w K mg base 1 "first_numbers" f31 _ ["names"] vP:=⟨zed F31 (no zenumerate) ,mg_of X G a31,k31,b31⟩
 have cOv:zp l.prog w K mg base 2 "overs" f33 _ ["form","many"] (zaw ⟨C0,C1,C2,C3,C4⟩ FM):=⟨zfw F33 (no zrange) FK mta Gta b18 mpl Gpl b17 ,mg_of X G a33,k33,b33⟩
 have cUn:zp l.prog w K mg base 2 "unwelcomes" f34 _ ["form","many","firsts"] (zeU ⟨C0,C1,C2,C3,C4⟩ FM):=⟨zij F34 (no zset) FK mba Gba b16 mnu Gnu b20 mbg Gbg b19 mpl Gpl b17 ,mg_of X G a34,k34,b34⟩
 have cEn:zp l.prog w K mg base 2 "one_entry" f36 _ ["parameter","number","many","firsts"] (zax ⟨C0,C1,C2,C3,C4⟩):=⟨zgP F36 PP GQ b4 GN b5 ,mg_of X G a36,k36,b36⟩
 have cLa:zp l.prog w K mg base 3 "lackings" f35 _ ["form","many","firsts"] (zaz ⟨C0,C1,C2,C3,C4⟩ FM):=⟨zfz F35 (no zenumerate) PP FK mpa Gpa b15 GF b3 cEn ,mg_of X G a35,k35,b35⟩
 have cMo:zp l.prog w K mg base 4 "misfits_of" f32 _ ["form","many","names"] (zda ⟨C0,C1,C2,C3,C4⟩ FM):=⟨zil F32 (no zenumerate) cFn cOv cUn cLa ,mg_of X G a32,k32,b32⟩
 have cMi:zp l.prog w K mg base 5 "misfits" f28 _ ["form","call"] (zc9 K ⟨C0,C1,C2,C3,C4⟩ FM):=⟨zin F28 cSh cMo ,mg_of X G a28,k28,b28⟩
 have cFi:zp l.prog w K mg base 6 "fits" f29 _ ["form","call"] (zcj K ⟨C0,C1,C2,C3,C4⟩ FM):=⟨zgY F29 cMi ,mg_of X G a29,k29,b29⟩
 have cRe:zp l.prog w K mg base 1 "refuse" f37 _ ["word","number"] zhU:=⟨zji ,mg_of X G a37,k37,b37⟩
 have cEy:zp l.prog w K mg base 3 "entry" f38 _ ["form","number","many","firsts"] (zaD K ⟨C0,C1,C2,C3,C4⟩ FM):=⟨zfG F38 (no zrange) (no zlist) FK mta Gta b18 mpl Gpl b17 mbg Gbg b19 mnu Gnu b20 mpa Gpa b15 cEn ,mg_of X G a38,k38,b38⟩
 have cPa:zp l.prog w K mg base 5 "paper" f39 _ ["form","call"] (zav K ⟨C0,C1,C2,C3,C4⟩ FM):=⟨zfv F39 (no zrange) (no zlen) FK cSh cMo cRe cFn cEy mpa Gpa b15 ,mg_of X G a39,k39,b39⟩
 have cPf:za8 l.prog w K mg base 5 "parameter_of" f21 _ ["told"] (zeV K ⟨C0,C1,C2,C3,C4⟩ E0):=⟨zik F21 UC ,mg_of X G a21,k21,b21⟩
 have cC:zp l.prog w K mg base 1 "_law_cell" f40 _ ["_law_script","_law_at"] (zaE K):=⟨zg0 F40 ,mg_of X G a40,k40,b40⟩
 have cII:zp l.prog w K mg base 1 "_law_is_int" f41 _ ["_law_found"] vO:=⟨zfB F41 T2 ,mg_of X G a41,k41,b41⟩
 have cMx:zp l.prog w K mg base 1 "_law_mix" f42 _ ["_law_cell_here","_law_k"] jA:=⟨zim F42 ,mg_of X G a42,k42,b42⟩
 have cPl:zp l.prog w K mg base 1 "_law_pool" f43 _ ["_law_cell_here"] (zcc K):=⟨zgO F43 T2 ,mg_of X G a43,k43,b43⟩
 have cFo:zp l.prog w K mg base 2 "_law_form" f44 _ ["_law_script","_law_at","_law_pool_here","_law_most"] (zci K):=⟨zgW F44 UL cC cMx ,mg_of X G a44,k44,b44⟩
 have cDb:zp l.prog w K mg base 1 "_law_doubled" f45 _ ["_law_told"] zcf:=⟨zgS F45 (no zlen) ,mg_of X G a45,k45,b45⟩
 have cMd:zp l.prog w K mg base 6 "_law_made" f46 _ ["_law_told","_law_alike"] (zaA ⟨C0,C1,C2,C3,C4⟩ FM):=⟨zfy F46 (no zdict) (no zlist) (mg_of X G aFM) ⟨mkFM,a13,i13,kcFM⟩ GI b13_0 cPf ,mg_of X G a46,k46,b46⟩
 have cTh:zp l.prog w K mg base 2 "_law_thing" f47 _ ["_law_cell_here","_law_k"] zau:=⟨zfq F47 cMx ,mg_of X G a47,k47,b47⟩
 have cIt:zp l.prog w K mg base 2 "_law_items" f48 _ ["_law_things","_law_pairs","_law_cell_here"] (zaB K):=⟨zfA F48 UL cMx ,mg_of X G a48,k48,b48⟩
 have cTn:zp l.prog w K mg base 2 "_law_told_names" f49 _ ["_law_told","_law_many","_law_more"] zat:=⟨zfp F49 (no zenumerate) cMx ,mg_of X G a49,k49,b49⟩
 have cFt:zp l.prog w K mg base 3 "_law_fitting" f50 _ ["_law_told","_law_pool_here","_law_cell_here","_law_more"] (uu K):=⟨zcv F50 UL cMx cTh cTn ,mg_of X G a50,k50,b50⟩
 have cCo:zp l.prog w K mg base 1 "_law_copied" f51 _ ["_law_call"] (jD K):=⟨zee F51 (no zlist) ,mg_of X G a51,k51,b51⟩
 have cNu:zp l.prog w K mg base 2 "_law_numbers" f52 _ ["_law_found"] (ut K):=⟨zct F52 UL (no zsorted) cII ,mg_of X G a52,k52,b52⟩
 have cLE:zp l.prog w K mg base 3 "_law_entry" f53 _ ["_law_one","_law_at","_law_entry_here","_law_told","_law_names"] (jC K):=⟨zec F53 UL T2 cII cNu ,mg_of X G a53,k53,b53⟩
 have cUs:zp l.prog w K mg base 1 "_law_used" f54 _ ["_law_found"] (zcb K):=⟨zgM F54 (no zsorted) ,mg_of X G a54,k54,b54⟩
 have cRi:zp l.prog w K mg base 4 "_law_right" f55 _ ["_law_found","_law_told","_law_things","_law_pairs"] (jB K):=⟨zeb F55 UL cLE cUs ,mg_of X G a55,k55,b55⟩
 exact zio F56 UL cC cPl cFo cDb cMd cFt cIt cCo cPa cFi cMi cRi
theorem zkr {l:PySem.W.OpenLaw} {q:Program} {loose:List Str} {XP:(Str->Option Value)->Heap->Prop} {YP:World->Heap->Prop} {d:DefRec} {K:Params->Frag} (hn:l.most = some 63) (hdf:d.params.defaults = [])
  (hY:∀ (w:World) (h:Heap),YP w h->(K w.params).In h)
  (F:∀ (w:World) (mg:Str->Option Value) (fa:Addr) (h:Heap),(K w.params).In h->h.Ns mainGlobals mg->mg d.name = some (.ref fa)->
   ∃ fd:FuncData,(∀ (s:Shared) (u:Value),BindsTo s fd ⟨[u],[]⟩ [("_law_script",u)])/\∀ base:Heap,(K w.params).In base->base.Ns mainGlobals mg->zE l.prog w (K w.params) mg base CX0 8 fa fd ["_law_script"] (zay (K w.params))) :
  PySem.W.WalkO q loose XP YP l.row.toRowW d [] (fun f vs=>PySem.call f vs):=
 L2.ziQ (n:=63) (k:=8) (x:="_law_script") (CX:=fun _=>CX0) (sp:=fun w=>zay (K w.params)) hn (by decide) hdf ⟨rfl,by decide,by decide⟩ hY F (fun _ _ a ns hl hb _ hS=>⟨a,ns,rfl,hS,hl,hb,fun _=>rfl⟩) fun _ _ _ _ _ z=>z
end K22
open PySem PySem.W PyProof.Rows
set_option maxRecDepth 100000 in
set_option maxHeartbeats 0 in
theorem PySem.Challenge.cw_callbinds_k22_papers_walked_holds : PySem.Challenge.rw_callbinds_k22_papers_walked.Holds := by
 w_on; o_law; k_head; (case hw => w_witness2)
 k_fill
 refine K22.zkr (l := PySem.Challenge.rw_callbinds_k22_papers_walked) rfl rfl (fun w h Y => PySem.W.kIn_of Y) ?F
 case F =>
  intro w mg fa h KX G hmg
  refine' K22.zkk KX G hmg ?aD ?pgD ?hdD ?poD ?saD ?mkD ?kcD ?aC0 ?pgC0 ?hdC0 ?poC0 ?saC0 ?mkC0 ?kcC0 ?nC0_word ?nC0_name ?nC0_may_lack ?aC1 ?pgC1 ?hdC1 ?poC1 ?saC1 ?mkC1 ?kcC1 ?nC1_word ?nC1_name ?nC1_may_lack ?aC2 ?pgC2 ?hdC2 ?poC2 ?saC2 ?mkC2 ?kcC2 ?nC2_word ?nC2_name ?nC2_may_lack ?aC3 ?pgC3 ?hdC3 ?poC3 ?saC3 ?mkC3 ?kcC3 ?nC3_word ?nC3_name ?nC3_may_lack ?aC4 ?pgC4 ?hdC4 ?poC4 ?saC4 ?mkC4 ?kcC4 ?nC4_word ?nC4_name ?nC4_may_lack ?aFM ?pgFM ?hdFM ?poFM ?saFM ?mkFM ?kcFM ?nFM_row ?nFM_bar_names ?nFM_place_count ?nFM_tail_number ?nFM_bag_number ?nFM_doors ?a1 ?l1 ?c1 ?k1 ?a2 ?i2 ?l2 ?c2 ?k2 ?a3 ?i3 ?l3 ?c3 ?k3 ?a4 ?i4 ?l4 ?c4 ?k4 ?a5 ?i5 ?l5 ?c5 ?k5 ?a6 ?i6 ?l6 ?c6 ?k6 ?a7 ?i7 ?l7 ?c7 ?k7 ?a8 ?i8 ?l8 ?c8 ?k8 ?t8 ?a9 ?i9 ?l9 ?c9 ?k9 ?t9 ?a10 ?i10 ?l10 ?c10 ?k10 ?a11 ?i11 ?l11 ?c11 ?k11 ?t11 ?a12 ?i12 ?l12 ?c12 ?k12 ?a13 ?i13 ?l13 ?c13 ?k13 ?t13 ?a14 ?i14 ?l14 ?c14 ?k14 ?a15 ?i15 ?l15 ?c15 ?k15 ?a16 ?i16 ?l16 ?c16 ?k16 ?a17 ?i17 ?l17 ?c17 ?k17 ?a18 ?i18 ?l18 ?c18 ?k18 ?a19 ?i19 ?l19 ?c19 ?k19 ?a20 ?i20 ?l20 ?c20 ?k20 ?a21 ?l21 ?c21 ?k21 ?a22 ?l22 ?c22 ?k22 ?a23 ?l23 ?c23 ?k23 ?a24 ?l24 ?c24 ?k24 ?a25 ?l25 ?c25 ?k25 ?a26 ?l26 ?c26 ?k26 ?a27 ?l27 ?c27 ?k27 ?a28 ?l28 ?c28 ?k28 ?a29 ?l29 ?c29 ?k29 ?a30 ?l30 ?c30 ?k30 ?a31 ?l31 ?c31 ?k31 ?a32 ?l32 ?c32 ?k32 ?a33 ?l33 ?c33 ?k33 ?a34 ?l34 ?c34 ?k34 ?a35 ?l35 ?c35 ?k35 ?a36 ?l36 ?c36 ?k36 ?a37 ?l37 ?c37 ?k37 ?a38 ?l38 ?c38 ?k38 ?a39 ?l39 ?c39 ?k39 ?a40 ?l40 ?c40 ?k40 ?a41 ?l41 ?c41 ?k41 ?a42 ?l42 ?c42 ?k42 ?a43 ?l43 ?c43 ?k43 ?a44 ?l44 ?c44 ?k44 ?a45 ?l45 ?c45 ?k45 ?a46 ?l46 ?c46 ?k46 ?a47 ?l47 ?c47 ?k47 ?a48 ?l48 ?c48 ?k48 ?a49 ?l49 ?c49 ?k49 ?a50 ?l50 ?c50 ?k50 ?a51 ?l51 ?c51 ?k51 ?a52 ?l52 ?c52 ?k52 ?a53 ?l53 ?c53 ?k53 ?a54 ?l54 ?c54 ?k54 ?a55 ?l55 ?c55 ?k55 ?a56 ?l56 ?c56 ?k56 ?zisinstance ?zstr ?zbool ?zlen ?zall ?zrange ?zlist ?zenumerate ?zset ?zmin ?zmax ?zint ?ztuple ?zdict ?zsorted ?gL ?gN ?gMP ?gMB ?ytP ?utP ?ytB ?utB ?ytO ?utO ?ysg ?usg ?yGr ?lGr ?kGr ?eG0 ?eG1 ?eG2 ?eG3 ?eG4 ?dga ?drd ?dfc ?h0_3 ?h0_4 ?h0_5 ?h0_6 ?h0_7 ?h1_3 ?h1_4 ?h1_5 ?h1_6 ?h1_7 ?h2_3 ?h2_4 ?h2_5 ?h2_6 ?h2_7 ?h3_3 ?h3_4 ?h3_5 ?h3_6 ?h3_7 ?h4_3 ?h4_4 ?h4_5 ?h4_6 ?h4_7 ?yE0 ?xo
  (case yE0 => k_is)
  (case aD => k_is)
  (case pgD => k_is)
  (case hdD => k_is)
  (case poD => k_is)
  (case saD => k_is)
  (case mkD => k_is)
  (case kcD => k_is)
  (case aC0 => k_is)
  (case pgC0 => k_is)
  (case hdC0 => k_is)
  (case poC0 => k_is)
  (case saC0 => k_is)
  (case mkC0 => k_is)
  (case kcC0 => k_is)
  (case nC0_word => k_is)
  (case nC0_name => k_is)
  (case nC0_may_lack => k_is)
  (case aC1 => k_is)
  (case pgC1 => k_is)
  (case hdC1 => k_is)
  (case poC1 => k_is)
  (case saC1 => k_is)
  (case mkC1 => k_is)
  (case kcC1 => k_is)
  (case nC1_word => k_is)
  (case nC1_name => k_is)
  (case nC1_may_lack => k_is)
  (case aC2 => k_is)
  (case pgC2 => k_is)
  (case hdC2 => k_is)
  (case poC2 => k_is)
  (case saC2 => k_is)
  (case mkC2 => k_is)
  (case kcC2 => k_is)
  (case nC2_word => k_is)
  (case nC2_name => k_is)
  (case nC2_may_lack => k_is)
  (case aC3 => k_is)
  (case pgC3 => k_is)
  (case hdC3 => k_is)
  (case poC3 => k_is)
  (case saC3 => k_is)
  (case mkC3 => k_is)
  (case kcC3 => k_is)
  (case nC3_word => k_is)
  (case nC3_name => k_is)
  (case nC3_may_lack => k_is)
  (case aC4 => k_is)
  (case pgC4 => k_is)
  (case hdC4 => k_is)
  (case poC4 => k_is)
  (case saC4 => k_is)
  (case mkC4 => k_is)
  (case kcC4 => k_is)
  (case nC4_word => k_is)
  (case nC4_name => k_is)
  (case nC4_may_lack => k_is)
  (case aFM => k_is)
  (case pgFM => k_is)
  (case hdFM => k_is)
  (case poFM => k_is)
  (case saFM => k_is)
  (case mkFM => k_is)
  (case kcFM => k_is)
  (case nFM_row => k_is)
  (case nFM_bar_names => k_is)
  (case nFM_place_count => k_is)
  (case nFM_tail_number => k_is)
  (case nFM_bag_number => k_is)
  (case nFM_doors => k_is)
  (case a1 => k_is)
  (case l1 => k_is)
  (case c1 => k_is)
  (case k1 => k_is)
  (case a2 => k_is)
  (case i2 => k_is)
  (case l2 => k_is)
  (case c2 => k_is)
  (case k2 => k_is)
  (case a3 => k_is)
  (case i3 => k_is)
  (case l3 => k_is)
  (case c3 => k_is)
  (case k3 => k_is)
  (case a4 => k_is)
  (case i4 => k_is)
  (case l4 => k_is)
  (case c4 => k_is)
  (case k4 => k_is)
  (case a5 => k_is)
  (case i5 => k_is)
  (case l5 => k_is)
  (case c5 => k_is)
  (case k5 => k_is)
  (case a6 => k_is)
  (case i6 => k_is)
  (case l6 => k_is)
  (case c6 => k_is)
  (case k6 => k_is)
  (case a7 => k_is)
  (case i7 => k_is)
  (case l7 => k_is)
  (case c7 => k_is)
  (case k7 => k_is)
  (case a8 => k_is)
  (case i8 => k_is)
  (case l8 => k_is)
  (case c8 => k_is)
  (case k8 => k_is)
  (case t8 => k_is)
  (case a9 => k_is)
  (case i9 => k_is)
  (case l9 => k_is)
  (case c9 => k_is)
  (case k9 => k_is)
  (case t9 => k_is)
  (case a10 => k_is)
  (case i10 => k_is)
  (case l10 => k_is)
  (case c10 => k_is)
  (case k10 => k_is)
  (case a11 => k_is)
  (case i11 => k_is)
  (case l11 => k_is)
  (case c11 => k_is)
  (case k11 => k_is)
  (case t11 => k_is)
  (case a12 => k_is)
  (case i12 => k_is)
  (case l12 => k_is)
  (case c12 => k_is)
  (case k12 => k_is)
  (case a13 => k_is)
  (case i13 => k_is)
  (case l13 => k_is)
  (case c13 => k_is)
  (case k13 => k_is)
  (case t13 => k_is)
  (case a14 => k_is)
  (case i14 => k_is)
  (case l14 => k_is)
  (case c14 => k_is)
  (case k14 => k_is)
  (case a15 => k_is)
  (case i15 => k_is)
  (case l15 => k_is)
  (case c15 => k_is)
  (case k15 => k_is)
  (case a16 => k_is)
  (case i16 => k_is)
  (case l16 => k_is)
  (case c16 => k_is)
  (case k16 => k_is)
  (case a17 => k_is)
  (case i17 => k_is)
  (case l17 => k_is)
  (case c17 => k_is)
  (case k17 => k_is)
  (case a18 => k_is)
  (case i18 => k_is)
  (case l18 => k_is)
  (case c18 => k_is)
  (case k18 => k_is)
  (case a19 => k_is)
  (case i19 => k_is)
  (case l19 => k_is)
  (case c19 => k_is)
  (case k19 => k_is)
  (case a20 => k_is)
  (case i20 => k_is)
  (case l20 => k_is)
  (case c20 => k_is)
  (case k20 => k_is)
  (case a21 => k_is)
  (case l21 => k_is)
  (case c21 => k_is)
  (case k21 => k_is)
  (case a22 => k_is)
  (case l22 => k_is)
  (case c22 => k_is)
  (case k22 => k_is)
  (case a23 => k_is)
  (case l23 => k_is)
  (case c23 => k_is)
  (case k23 => k_is)
  (case a24 => k_is)
  (case l24 => k_is)
  (case c24 => k_is)
  (case k24 => k_is)
  (case a25 => k_is)
  (case l25 => k_is)
  (case c25 => k_is)
  (case k25 => k_is)
  (case a26 => k_is)
  (case l26 => k_is)
  (case c26 => k_is)
  (case k26 => k_is)
  (case a27 => k_is)
  (case l27 => k_is)
  (case c27 => k_is)
  (case k27 => k_is)
  (case a28 => k_is)
  (case l28 => k_is)
  (case c28 => k_is)
  (case k28 => k_is)
  (case a29 => k_is)
  (case l29 => k_is)
  (case c29 => k_is)
  (case k29 => k_is)
  (case a30 => k_is)
  (case l30 => k_is)
  (case c30 => k_is)
  (case k30 => k_is)
  (case a31 => k_is)
  (case l31 => k_is)
  (case c31 => k_is)
  (case k31 => k_is)
  (case a32 => k_is)
  (case l32 => k_is)
  (case c32 => k_is)
  (case k32 => k_is)
  (case a33 => k_is)
  (case l33 => k_is)
  (case c33 => k_is)
  (case k33 => k_is)
  (case a34 => k_is)
  (case l34 => k_is)
  (case c34 => k_is)
  (case k34 => k_is)
  (case a35 => k_is)
  (case l35 => k_is)
  (case c35 => k_is)
  (case k35 => k_is)
  (case a36 => k_is)
  (case l36 => k_is)
  (case c36 => k_is)
  (case k36 => k_is)
  (case a37 => k_is)
  (case l37 => k_is)
  (case c37 => k_is)
  (case k37 => k_is)
  (case a38 => k_is)
  (case l38 => k_is)
  (case c38 => k_is)
  (case k38 => k_is)
  (case a39 => k_is)
  (case l39 => k_is)
  (case c39 => k_is)
  (case k39 => k_is)
  (case a40 => k_is)
  (case l40 => k_is)
  (case c40 => k_is)
  (case k40 => k_is)
  (case a41 => k_is)
  (case l41 => k_is)
  (case c41 => k_is)
  (case k41 => k_is)
  (case a42 => k_is)
  (case l42 => k_is)
  (case c42 => k_is)
  (case k42 => k_is)
  (case a43 => k_is)
  (case l43 => k_is)
  (case c43 => k_is)
  (case k43 => k_is)
  (case a44 => k_is)
  (case l44 => k_is)
  (case c44 => k_is)
  (case k44 => k_is)
  (case a45 => k_is)
  (case l45 => k_is)
  (case c45 => k_is)
  (case k45 => k_is)
  (case a46 => k_is)
  (case l46 => k_is)
  (case c46 => k_is)
  (case k46 => k_is)
  (case a47 => k_is)
  (case l47 => k_is)
  (case c47 => k_is)
  (case k47 => k_is)
  (case a48 => k_is)
  (case l48 => k_is)
  (case c48 => k_is)
  (case k48 => k_is)
  (case a49 => k_is)
  (case l49 => k_is)
  (case c49 => k_is)
  (case k49 => k_is)
  (case a50 => k_is)
  (case l50 => k_is)
  (case c50 => k_is)
  (case k50 => k_is)
  (case a51 => k_is)
  (case l51 => k_is)
  (case c51 => k_is)
  (case k51 => k_is)
  (case a52 => k_is)
  (case l52 => k_is)
  (case c52 => k_is)
  (case k52 => k_is)
  (case a53 => k_is)
  (case l53 => k_is)
  (case c53 => k_is)
  (case k53 => k_is)
  (case a54 => k_is)
  (case l54 => k_is)
  (case c54 => k_is)
  (case k54 => k_is)
  (case a55 => k_is)
  (case l55 => k_is)
  (case c55 => k_is)
  (case k55 => k_is)
  (case a56 => k_is)
  (case l56 => k_is)
  (case c56 => k_is)
  (case k56 => k_is)
  (case zisinstance => k_is)
  (case zstr => k_is)
  (case zbool => k_is)
  (case zlen => k_is)
  (case zall => k_is)
  (case zrange => k_is)
  (case zlist => k_is)
  (case zenumerate => k_is)
  (case zset => k_is)
  (case zmin => k_is)
  (case zmax => k_is)
  (case zint => k_is)
  (case ztuple => k_is)
  (case zdict => k_is)
  (case zsorted => k_is)
  (case gL => k_is)
  (case gN => k_is)
  (case gMP => k_is)
  (case gMB => k_is)
  (case ytP => k_is)
  (case utP => k_is)
  (case ytB => k_is)
  (case utB => k_is)
  (case ytO => k_is)
  (case utO => k_is)
  (case ysg => k_is)
  (case usg => k_is)
  (case yGr => k_is)
  (case lGr => k_is)
  (case kGr => k_keys)
  (case eG0 => k_is)
  (case eG1 => k_is)
  (case eG2 => k_is)
  (case eG3 => k_is)
  (case eG4 => k_is)
  (case dga => k_is)
  (case drd => k_is)
  (case dfc => k_is)
  (case h0_3 => k_is)
  (case h0_4 => k_is)
  (case h0_5 => k_is)
  (case h0_6 => k_is)
  (case h0_7 => k_is)
  (case h1_3 => k_is)
  (case h1_4 => k_is)
  (case h1_5 => k_is)
  (case h1_6 => k_is)
  (case h1_7 => k_is)
  (case h2_3 => k_is)
  (case h2_4 => k_is)
  (case h2_5 => k_is)
  (case h2_6 => k_is)
  (case h2_7 => k_is)
  (case h3_3 => k_is)
  (case h3_4 => k_is)
  (case h3_5 => k_is)
  (case h3_6 => k_is)
  (case h3_7 => k_is)
  (case h4_3 => k_is)
  (case h4_4 => k_is)
  (case h4_5 => k_is)
  (case h4_6 => k_is)
  (case h4_7 => k_is)
  (case xo => k_exc)
#print axioms PySem.Challenge.cw_callbinds_k22_papers_walked_holds
