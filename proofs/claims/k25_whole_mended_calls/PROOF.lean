import PyProof.Rows.All
import Wide.All
import OpenK.AllK
import Wide.FinOn
import Lean
import PyProof.EqAt
import PyProof.EqKinds
import PyProof.TupleCall
import KE.KTryMore
import PyProof.ExcAttrAll.ValueError
import KE.KRevIter
import PyProof.SetNew
import PyProof.SetRoads
import PyProof.Rows.SetObj
import PyProof.DictCompW
import PyProof.DictItems
import PyProof.Rows.SetFrom
import PyProof.ListRange
import PyProof.Rows.Range3
import KE.IntBitsLaws
import PyProof.AttrMissHeap
import PyProof.FactsAll.bool_1
import KE.KDictOf
import PyProof.WalkInts
import PyProof.CollectIter
import PyProof.Rows.SortWalk
import KE.RegKIsAll
import KE.RegKTryMore
import PySem.Challenge.RW_callbinds_k25_whole_mended_calls
set_option Elab.async false
set_option linter.all false
set_option maxRecDepth 100000
set_option maxHeartbeats 4000000
open PySem.W (instObj methodObj hideAll lookIn plainGet hasDictIn findIn plainGet_of isFn plainOver takerIn makesIn emptyDict keepIn methodCall_KW specialIn kitOne kia_one callWith_K fnOf codeIn KeysLit nsIn excIn mg_of Frag)
namespace L2
open PySem PySem.Spec PyProof.Rows
theorem zz0 : 0<=sizeLine:=by decide
theorem zz2 : 2<=sizeLine:=by decide
theorem zz1 : 1<=sizeLine:=by decide
theorem zz3 : 3<=sizeLine:=by decide
theorem zz4 : 4<=sizeLine:=by decide
theorem zp2147483629:(0:Int) < 2147483629:=by decide
theorem zp2:(0:Int) < 2:=by decide
theorem zp8:(0:Int) < 8:=by decide
theorem zp4:(0:Int) < 4:=by decide
abbrev Key:=Sum Int Str
def j7:Key->Value->Bool
 | .inl k,v=>Value.isInt k v
 | .inr x,v=>Value.isStrOf x v
def zkq (w:World):Key->Int
 | .inl k=>hashInt k
 | .inr x=>hashStr w x
theorem yn:∀ {k:Key} {v:Value},j7 k v = true->(∃ i t,k = Sum.inl i/\v = Value.int i t)\/(∃ x t,k = Sum.inr x/\v = Value.str x t)
 | .inl i,v,h=>by
  obtain ⟨t,e⟩:=Value.isInt_shape (k:=i) (v:=v) h
  exact .inl ⟨i,t,rfl,e⟩
 | .inr x,v,h=>by
  obtain ⟨t,e⟩:=Value.isStrOf_shape (x:=x) (v:=v) h
  exact .inr ⟨x,t,rfl,e⟩
theorem zep (i:Int) (t:Tok):j7 (.inl i) (.int i t) = true:=by simp [j7,Value.isInt]
theorem zeo (x:Str) (t:Tok):j7 (.inr x) (.str x t) = true:=by simp [j7,Value.isStrOf]
theorem zix (a b:Int):decide ((Sum.inl a:Key) = Sum.inl b) = (a == b):=by
 by_cases e:a = b
 ·subst e; simp
 ·have h:¬ (Sum.inl a:Key) = Sum.inl b:=fun q=>e (Sum.inl.inj q)
  rw [decide_eq_false h]
  exact (beq_eq_false_iff_ne.mpr e).symm
theorem zfW (a b:Str):decide ((Sum.inr a:Key) = Sum.inr b) = decide (a = b):=by
 by_cases e:a = b
 ·subst e; simp
 ·have h:¬ (Sum.inr a:Key) = Sum.inr b:=fun q=>e (Sum.inr.inj q)
  rw [decide_eq_false h,decide_eq_false e]
theorem ziw (a:Int) (b:Str):decide ((Sum.inl a:Key) = Sum.inr b) = false:=decide_eq_false (fun q=>nomatch q)
theorem ziv (a:Str) (b:Int):decide ((Sum.inr a:Key) = Sum.inl b) = false:=decide_eq_false (fun q=>nomatch q)
def zZ (prog:Program) (w:World):PySem.KeyKind prog w Key where
 is:=j7
 hash:=zkq w
 inj:=fun v a b ha hb=>by
  rcases yn ha with ⟨i,t,rfl,rfl⟩ | ⟨x,t,rfl,rfl⟩
  ·rcases yn hb with ⟨j,u,rfl,e⟩ | ⟨y,u,rfl,e⟩
   ·injection e with e1 _; rw [e1]
   ·exact nomatch e
  ·rcases yn hb with ⟨j,u,rfl,e⟩ | ⟨y,u,rfl,e⟩
   ·exact nomatch e
   ·injection e with e1 _; rw [e1]
 byValue:=fun k v h=>by
  rcases yn h with ⟨i,t,rfl,rfl⟩ | ⟨x,t,rfl,rfl⟩ <;> rfl
 pyHash:=fun hv h=>by
  rcases yn hv with ⟨i,t,rfl,rfl⟩ | ⟨x,t,rfl,rfl⟩
  ·exact wpAny_pyHash_int h
  ·exact wpAny_pyHash_str h
 eqBool:=fun hu hv h=>by
  rcases yn hu with ⟨i,t,rfl,rfl⟩ | ⟨x,t,rfl,rfl⟩
  ·rcases yn hv with ⟨j,u,rfl,rfl⟩ | ⟨y,u,rfl,rfl⟩
   ·rw [zix] at h; exact wpAny_eqBool_int h
   ·rw [ziw] at h; exact SeqAt.EqAt.int_str i t y u _ _ _ _ h
  ·rcases yn hv with ⟨j,u,rfl,rfl⟩ | ⟨y,u,rfl,rfl⟩
   ·rw [ziv] at h; exact SeqAt.EqAt.str_int x t j u _ _ _ _ h
   ·rw [zfW] at h; exact wpAny_eqBool_str h
 «strs»:=fun k x t v h=>by
  rcases yn h with ⟨i,u,rfl,e⟩ | ⟨y,u,rfl,e⟩
  ·exact nomatch e
  ·injection e with e1 _
   subst e1
   cases v <;> rfl
theorem zbD (prog:Program) (w:World) (i:Int) (t:Tok):(zZ prog w).is (.inl i) (.int i t) = true:=zep i t
theorem zbC (prog:Program) (w:World) (x:Str) (t:Tok):(zZ prog w).is (.inr x) (.str x t) = true:=zeo x t
inductive V where
 | non | bl (b:Bool) | int (i:Int) | str (x:Str) | byt (b:Array UInt8) | flt (b:UInt64) | ref (a:Addr) | ty (n:String)
 deriving DecidableEq
def zO:V->Value->Prop
 | .non,u=>u = Value.none
 | .bl b,u=>u = Value.bool b
 | .int i,u=>∃ t,u = Value.int i t
 | .str x,u=>∃ t,u = Value.str x t
 | .byt b,u=>∃ t,u = Value.bytes b t
 | .flt b,u=>∃ t,u = Value.float b t
 | .ref a,u=>u = Value.ref a
 | .ty n,u=>u = Value.type n
abbrev zK:List V->List Value->Prop:=Paired zO
theorem zK.length {xs:List V} {us:List Value} (r:zK xs us):xs.length = us.length:=Paired.length r
theorem zK.get:∀ {xs:List V} {us:List Value} {i:Nat} {x:V},zK xs us->xs[i]? = some x->∃ u,us[i]? = some u/\zO x u
 | _,_,_,_,.nil,e=>by simp at e
 | _,_,0,_,.cons r _,e=>by simp at e; subst e; exact ⟨_,rfl,r⟩
 | _,_,i + 1,x,.cons _ t,e=>by
  obtain ⟨u,h1,h2⟩:=zK.get (i:=i) (x:=x) t (by simpa using e)
  exact ⟨u,by simpa using h1,h2⟩
theorem zK.set {x:V} {u:Value} (r:zO x u):∀ {xs:List V} {us:List Value} (i:Nat),zK xs us->zK (xs.set i x) (us.set i u)
 | _,_,_,.nil=>.nil
 | _,_,0,.cons _ t=>.cons r t
 | _,_,i + 1,.cons q t=>.cons q (zK.set r i t)
theorem zK.append:∀ {xs ys:List V} {us ws:List Value},zK xs us->zK ys ws->zK (xs ++ ys) (us ++ ws)
 | _,_,_,_,.nil,s=>s
 | _,_,_,_,.cons r t,s=>.cons r (zK.append t s)
theorem zK.take:∀ {xs:List V} {us:List Value} (n:Nat),zK xs us->zK (xs.take n) (us.take n)
 | _,_,0,_=>.nil
 | _,_,_ + 1,.nil=>.nil
 | _,_,n + 1,.cons r t=>.cons r (zK.take n t)
theorem zK.drop:∀ {xs:List V} {us:List Value} (n:Nat),zK xs us->zK (xs.drop n) (us.drop n)
 | _,_,0,r=>r
 | _,_,_ + 1,.nil=>.nil
 | _,_,n + 1,.cons _ t=>zK.drop n t
def wS:Option V->Option Value->Prop
 | some v,some u=>zO v u
 | none,none=>True
 | _,_=>False
def KV {κ : Type}:List (κ × V)->List (κ × Value)->Prop:=Paired fun (p : κ × V) (q : κ × Value)=>p.1 = q.1/\zO p.2 q.2
def kV:Key->V
 | .inl i=>.int i
 | .inr x=>.str x
inductive HO where
 | lst (xs:List V)
 | tup (xs:List V)
 | dK (kvs:List (Key × V)) | dT (kvs:List (List Key × V))
 | set (S:Int->Bool) (n:Nat)
 | ins (C dx:Addr) (fs:List (Str × V))
 | own (x:Addr)
 | xd (fs:List (Str × V))
 | met (f x:Addr)
 | rng (lo hi:Int)
 | frz (o:Obj) (u:HO)
 | tbl (ps:Array Value)
 | ext (φ : Heap->Prop)
abbrev Hp:=Addr->Option HO
def upd (H:Hp) (a:Addr) (o:HO):Hp:=fun b=>if b = a then some o else H b
theorem za {H:Hp} {a:Addr} {o:HO}:upd H a o a = some o:=by unfold upd; rw [if_pos rfl]
theorem zi {H:Hp} {a b:Addr} {o:HO} (h:b ≠ a):upd H a o b = H b:=by unfold upd; rw [if_neg h]
theorem zao {H:Hp} {a:Addr} {o u:HO}:upd (upd H a o) a u = upd H a u:=by
 funext b; unfold upd; split <;> rfl
theorem xK {H:Hp} {a b:Addr} {o u:HO} (h:H a = some o) (h':H b = some u) (d:o ≠ u):a ≠ b:=by
 intro e; subst e; rw [h] at h'; exact d (Option.some.inj h')
theorem zf {H:Hp} {a b:Addr} {o:HO} (h:H a = some o) (h':H b = none):a ≠ b:=by
 intro e; subst e; rw [h] at h'; cases h'
section
variable (P:Program) (w:World)
def yy (H:Hp) (h:Heap) (a:Addr):HO->Prop
 | .lst xs=>xs.length<=sizeLine/\∃ (its:List Value) (n:Nat),zK xs its/\h.get? a = some { cls:=.type "list",data:=.seq its.toArray n }
 | .tup xs=>xs.length<=sizeLine/\∃ its:List Value,zK xs its/\IsTup h a its.toArray
 | .dK kvs=>kvs.length<=sizeLine/\(a == sysModules) = false/\∃ vs,KV kvs vs/\h.DictOf (zZ P w) a vs
 | .dT kvs=>kvs.length<=sizeLine/\(a == sysModules) = false/\∃ xs:List (List Key × Addr × Value),
   Paired (fun (p:List Key × V) (q:List Key × Addr × Value)=>p.1 = q.1/\H q.2.1 = some (.tup (p.1.map kV))/\zO p.2 q.2.2) kvs xs/\
   ∃ o es ep,h.get? a = some o/\o.ExactDict/\o.data = .dict es ep/\es.toList = xs.map (entryOfKey (tupleKind (zZ P w)))/\(xs.map (·.1)).Nodup
 | .set S n=>h.SetOf (intKind P w) a S n
 | .ins C dx fs=>H dx = some (.own a)/\fs.length<=1000/\dx ≠ a/\h.get? a = some (instObj C dx)/\
   ∃ mA,h.Ns1 dx mA/\(∀ f,wS (fs.lookup f) (mA f))/\PySem.Within mA (fs.map (·.1))
 | .own _=>∃ o,h.get? a = some o
 | .xd fs=>∃ mA,h.Ns1 a mA/\∀ f,wS (fs.lookup f) (mA f)
 | .rng lo hi=>∃ t u v,h.get? a = some { cls:=.type "range",data:=.fields #[.int lo t,.int hi u,.int 1 v] }
 | .frz o u=>h.get? a = some o/\yy H h a u
 | .tbl ps=>h.get? a = some { cls:=.none,data:=.fields ps }
 | .met f x=>h.get? a = some (methodObj (.ref f) (.ref x))
 | .ext φ=>φ h/\(∃ o,h.get? a = some o)/\∀ h1 h2:Heap,φ h1->(∀ o,h1.get? a = some o->h2.get? a = some o)->φ h2
def HOk (H:Hp) (h:Heap):Prop:=∀ a o,H a = some o->yy P w H h a o
end
section
variable {P:Program} {w:World} {H H':Hp} {h h':Heap} {a:Addr} {o:HO}
theorem yy.lt (x:yy P w H h a o):a < h.objs.size:=by
 cases o with
 | lst xs=>obtain ⟨_,_,_,_,e⟩:=x; exact Heap.lt_size e
 | tup xs=>obtain ⟨_,_,_,p⟩:=x; exact p.lt
 | dK kvs=>obtain ⟨_,_,_,_,o,_,_,e,_⟩:=x; exact Heap.lt_size e
 | dT kvs=>obtain ⟨_,_,_,_,o,_,_,e,_⟩:=x; exact Heap.lt_size e
 | set S n=>obtain ⟨o,_,_,_,e,_⟩:=x; exact Heap.lt_size e
 | ins C dx fs=>obtain ⟨_,_,_,e,_⟩:=x; exact Heap.lt_size e
 | own y=>obtain ⟨_,e⟩:=x; exact Heap.lt_size e
 | xd fs=>obtain ⟨_,⟨_,_,_,e,_⟩,_⟩:=x; exact Heap.lt_size e
 | rng lo hi=>obtain ⟨_,_,_,e⟩:=x; exact Heap.lt_size e
 | frz ob u=>obtain ⟨e,_⟩:=x; exact Heap.lt_size e
 | tbl ps=>exact Heap.lt_size (show h.get? a = some _ from x)
 | met f y=>exact Heap.lt_size (show h.get? a = some _ from x)
 | ext φ=>obtain ⟨_,⟨_,e⟩,_⟩:=x; exact Heap.lt_size e
theorem Paired.mapP {α β : Type} {F G : α->β->Prop}:∀ {l₁:List α} {l₂:List β},Paired F l₁ l₂->(∀ a b,F a b->G a b)->Paired G l₁ l₂
 | _,_,.nil,_=>.nil
 | _,_,.cons r t,f=>.cons (f _ _ r) (Paired.mapP t f)
theorem Paired.imp' {α β : Type} {F G : α->β->Prop} (f:∀ a b,F a b->G a b) {l₁:List α} {l₂:List β} (r:Paired F l₁ l₂):Paired G l₁ l₂:=Paired.mapP r f
theorem yy.stay (x:yy P w H h a o) (k:∀ b u,(b = a\/H b = some (.own a))->h.get? b = some u->h'.get? b = some u)
  (ho:∀ b,H b = some (.own a)->H' b = some (.own a)) (ht:∀ b xs,H b = some (.tup xs)->H' b = some (.tup xs)):yy P w H' h' a o:=by
 induction o with
 | lst xs=>obtain ⟨z,its,n,r,e⟩:=x; exact ⟨z,its,n,r,k _ _ (.inl rfl) e⟩
 | tup xs=>obtain ⟨z,its,r,ob,e,c⟩:=x; exact ⟨z,its,r,ob,k _ _ (.inl rfl) e,c⟩
 | dK kvs=>obtain ⟨z,y,vs,r,ob,es,ep,e,c⟩:=x; exact ⟨z,y,vs,r,ob,es,ep,k _ _ (.inl rfl) e,c⟩
 | dT kvs=>
  obtain ⟨z,y,xs,r,ob,es,ep,e,c⟩:=x
  exact ⟨z,y,xs,Paired.mapP r fun p q z=>⟨z.1,ht _ _ z.2.1,z.2.2⟩,ob,es,ep,k _ _ (.inl rfl) e,c⟩
 | set S n=>obtain ⟨ob,es,ep,t,e,c⟩:=x; exact ⟨ob,es,ep,t,k _ _ (.inl rfl) e,c⟩
 | ins C dx fs=>
  obtain ⟨d,z,ne,e,mA,⟨od,es,ep,e2,c⟩,r⟩:=x
  exact ⟨ho _ d,z,ne,k _ _ (.inl rfl) e,mA,⟨od,es,ep,k _ _ (.inr d) e2,c⟩,r⟩
 | own y=>obtain ⟨ob,e⟩:=x; exact ⟨ob,k _ _ (.inl rfl) e⟩
 | xd fs=>obtain ⟨mA,⟨od,es,ep,e,c⟩,r⟩:=x; exact ⟨mA,⟨od,es,ep,k _ _ (.inl rfl) e,c⟩,r⟩
 | rng lo hi=>obtain ⟨t,u,v,e⟩:=x; exact ⟨t,u,v,k _ _ (.inl rfl) e⟩
 | frz ob u ih=>obtain ⟨e,q⟩:=x; exact ⟨k _ _ (.inl rfl) e,ih q⟩
 | tbl ps=>
  have e:h.get? a = some { cls:=.none,data:=.fields ps }:=x
  show h'.get? a = some { cls:=.none,data:=.fields ps }
  exact k a _ (.inl rfl) e
 | met f y=>
  have e:h.get? a = some (methodObj (.ref f) (.ref y)):=x
  show h'.get? a = some (methodObj (.ref f) (.ref y))
  exact k a _ (.inl rfl) e
 | ext φ=>obtain ⟨p,⟨o,e⟩,st⟩:=x; exact ⟨st _ _ p fun o q=>k _ _ (.inl rfl) q,⟨o,k _ _ (.inl rfl) e⟩,st⟩
theorem HOk.lt (x:HOk P w H h) (e:H a = some o):a < h.objs.size:=(x a o e).lt
theorem HOk.fresh (x:HOk P w H h) (e:h.objs.size<=a):H a = none:=by
 cases q:H a with
 | none=>rfl
 | some u=>exact absurd (Nat.lt_of_lt_of_le (x.lt q) e) (Nat.lt_irrefl _)
theorem HOk.kept (x:HOk P w H h) (k:∀ b u,h.get? b = some u->h'.get? b = some u):HOk P w H h':=fun a o e=>
 (x a o e).stay (fun b u _ q=>k b u q) (fun _ q=>q) fun _ _ q=>q
theorem HOk.laid (x:HOk P w H h) (k:∀ b u,h.get? b = some u->h'.get? b = some u) (hp:h.objs.size<=a) (new:yy P w (upd H a o) h' a o):HOk P w (upd H a o) h':=fun b u e=>by
 have hn:=x.fresh hp
 by_cases hb:b = a
 ·subst hb; rw [za] at e; cases e; exact new
 ·rw [zi hb] at e
  exact (x b u e).stay (fun c v _ q=>k c v q) (fun c q=>by rw [zi (zf q hn)]; exact q) fun c xs q=>by rw [zi (zf q hn)]; exact q
end
def Rd (H:Hp) (a:Addr) (u:HO):Prop:=H a = some u\/∃ o,H a = some (.frz o u)
theorem Rd.ok {P:Program} {w:World} {H:Hp} {h:Heap} {a:Addr} {u:HO} (r:Rd H a u) (x:HOk P w H h):yy P w H h a u:=by
 rcases r with r | ⟨o,r⟩
 ·exact x a u r
 ·obtain ⟨_,q⟩:=x a _ r
  exact q
def Mut:Option HO->Prop
 | some (.lst _)=>True
 | some (.dK _)=>True
 | some (.dT _)=>True
 | some (.set _ _)=>True
 | some (.ins _ _ _)=>True
 | some (.ext _)=>True
 | _=>False
section
variable {P:Program} {w:World} {H:Hp} {h h':Heap} {x e:Addr} {o':HO}
theorem HOk.write (ok:HOk P w H h) (mu:Mut (H x)) (he:e = x\/H e = some (.own x)) (k:∀ b u,b ≠ e->h.get? b = some u->h'.get? b = some u) (heo:∃ u,h'.get? e = some u)
  (new:yy P w (upd H x o') h' x o'):HOk P w (upd H x o') h':=fun b u q=>by
 have nown:∀ c y,H c = some (.own y)->c ≠ x:=fun c y r z=>by subst z; rw [r] at mu; exact mu
 have ntup:∀ c xs,H c = some (.tup xs)->c ≠ x:=fun c xs r z=>by subst z; rw [r] at mu; exact mu
 by_cases hb:b = x
 ·subst hb; rw [za] at q; cases q; exact new
 ·rw [zi hb] at q
  by_cases hbe:b = e
  ·have q':H b = some (.own x):=by
    rcases he with z | z
    ·exact absurd (hbe.trans z) hb
    ·rw [hbe]; exact z
   rw [q] at q'; cases q'
   obtain ⟨v,hv⟩:=heo
   exact ⟨v,by rw [hbe]; exact hv⟩
  ·refine (ok b u q).stay (fun c v hc r=>k c v ?_ r) (fun c r=>by rw [zi (nown c b r)]; exact r) fun c xs r=>by rw [zi (ntup c xs r)]; exact r
   rcases hc with rfl | hc
   ·exact hbe
   ·rintro rfl
    rcases he with z | z
    ·exact nown c b hc z
    ·rw [hc] at z; cases z; exact hb rfl
end
structure Un (fs ex:List Addr) (H H':Hp) (h h':Heap):Prop where
 keep:∀ b o,h.get? b = some o->H b = none->b ∉ fs->b ∉ ex->h'.get? b = some o
 slot:∀ b o,h.get? b = some o->H b = none->b ∈ fs->b ∉ ex->∃ sl,h'.get? b = some { o with slots:=sl }
 free:∀ b o,h.get? b = some o->H b = none->b ∉ ex->H' b = none
 there:∀ b o,h.get? b = some o->b ∉ ex->∃ o',h'.get? b = some o'
 tups:∀ b xs,H b = some (.tup xs)->H' b = some (.tup xs)
 frzs:∀ b o u,H b = some (.frz o u)->H' b = some (.frz o u)
 tbls:∀ b ps,H b = some (.tbl ps)->∃ more,H' b = some (.tbl (ps ++ more))
section
variable {fs fs' ex ex':List Addr} {H H1 H2:Hp} {h h1 h2 h':Heap} {a x e:Addr} {o:HO}
theorem Un.any (u:Un fs ex H H1 h h1) {b:Addr} {ob:Obj} (q:h.get? b = some ob) (n:H b = none) (hx:b ∉ ex):∃ sl,h1.get? b = some { ob with slots:=sl }:=by
 by_cases hb:b ∈ fs
 ·exact u.slot b ob q n hb hx
 ·exact ⟨ob.slots,u.keep b ob q n hb hx⟩
theorem Un.kept (k:∀ b u,h.get? b = some u->h'.get? b = some u):Un fs ex H H h h':=
 ⟨fun b ob q _ _ _=>k b ob q,fun b ob q _ _ _=>⟨ob.slots,k b ob q⟩,fun _ _ _ n _=>n,fun b ob q _=>⟨ob,k b ob q⟩,fun _ _ q=>q,fun _ _ _ q=>q,fun _ ps q=>⟨#[],by rw [q]; simp⟩⟩
theorem Un.refl:Un fs ex H H h h:=Un.kept fun _ _ q=>q
theorem Un.laid (k:∀ b u,h.get? b = some u->h'.get? b = some u) (hp:h.objs.size<=a) (hn:H a = none):Un fs ex H (upd H a o) h h' where
 keep:=fun b u q _ _ _=>k b u q
 slot:=fun b u q _ _ _=>⟨u.slots,k b u q⟩
 free:=fun b u q n _=>by rw [zi (Nat.ne_of_lt (Nat.lt_of_lt_of_le (Heap.lt_size q) hp))]; exact n
 there:=fun b u q _=>⟨u,k b u q⟩
 tups:=fun b xs q=>by rw [zi (zf q hn)]; exact q
 frzs:=fun b u xs q=>by rw [zi (zf q hn)]; exact q
 tbls:=fun b ps q=>⟨#[],by rw [zi (zf q hn),q]; simp⟩
theorem Un.write (mu:Mut (H x)) (he:e = x\/H e = some (.own x)) (k:∀ b u,b ≠ e->h.get? b = some u->h'.get? b = some u) (heo:∃ u,h'.get? e = some u):Un fs ex H (upd H x o) h h':=by
 have hx:∀ b,H b = none->b ≠ x:=fun b n z=>by subst z; rw [n] at mu; exact mu
 have hb:∀ b,H b = none->b ≠ e:=fun b n z=>by
  subst z
  rcases he with r | r
  ·exact hx b n r
  ·rw [n] at r; cases r
 have hm:∀ b u,H b = some u->¬ Mut (some u)->b ≠ x:=fun b u q nm z=>by subst z; rw [q] at mu; exact nm mu
 refine ⟨fun b u q n _ _=>k b u (hb b n) q,fun b u q n _ _=>⟨u.slots,k b u (hb b n) q⟩,fun b u q n _=>by rw [zi (hx b n)]; exact n,fun b u q _=>?_,
  fun b xs q=>by rw [zi (hm b _ q fun z=>z)]; exact q,fun b u xs q=>by rw [zi (hm b _ q fun z=>z)]; exact q,fun b ps q=>⟨#[],by rw [zi (hm b _ q fun z=>z),q]; simp⟩⟩
 by_cases hbe:b = e
 ·subst hbe; exact heo
 ·exact ⟨u,k b u hbe q⟩
end
def trk (h:Heap) (H:Hp):List Addr:=(List.range h.objs.size).filter fun a=>(H a).isSome
def zaV (h:Heap) (H:Hp):Heap:=hideAll h (trk h H)
theorem zet (h:Heap) (H:Hp):(zaV h H).objs.size = h.objs.size:=PySem.W.hideAll_size _ _
theorem zf0 {h:Heap} {H:Hp} {b:Addr} {o:Obj} (e:h.get? b = some o) (n:H b = none):(zaV h H).get? b = some o:=
 PySem.W.hideAll_get _ e fun hm=>by
  have q:(H b).isSome = true:=(List.mem_filter.mp hm).2
  rw [n] at q; simp at q
theorem zg5 {h:Heap} {H:Hp} {b:Addr} {o:Obj} (e:(zaV h H).get? b = some o):h.get? b = some o/\H b = none:=by
 have e':h.get? b = some o:=PySem.W.of_hideAll (trk h H) e
 refine ⟨e',?_⟩
 cases q:H b with
 | none=>rfl
 | some x=>
  have hm:b ∈ trk h H:=List.mem_filter.mpr ⟨List.mem_range.mpr (Heap.lt_size e'),by simp [q]⟩
  have z:(zaV h H).get? b = none:=PySem.W.hideAll_none (trk h H) hm
  rw [z] at e; cases e
def zhm (g h:Heap) (L:Addr):List (Addr × Obj):=(List.range h.objs.size).filterMap fun a=>if a = L\/(g.get? a).isSome = true then none else (h.get? a).map fun o=>(a,o)
def qu (g h:Heap) (L d:Addr):List (Addr × Obj):=(zhm g h L).filter fun p=>decide (p.1 ≠ d)
structure Mod (K:Frag) (mg:Str->Option Value) (base:Heap):Prop where
 kin:K.In base
 glob:base.Ns mainGlobals mg
 blt:∃ mb,base.Ns builtinsNs mb/\∀ x:Str,x ≠ "__name__"->mb x = bootBuiltins x
 nolimit:base.NoLimit
structure Cx where
 prog:Program
 w:World
 K:Frag
 mg:Str->Option Value
 base:Heap
 A:Around
 N:List Str
 s₀:Shared
 H₀:Hp
 env:Env
 outer:List Env
 stack:List Env
 ex:List Addr
 fn:Str->Bool
 calm:Bool
 pn:List (Addr × Obj)
 xe:Value->Shared->Prop
def frs (l:List Env):List Addr:=l.filterMap (·.frame)
abbrev Cx.fs (X:Cx):List Addr:=frs X.outer
def Vis (sc:Scope) (x:Str):Prop:=sc.names.lookup x = some .local\/sc.names.lookup x = some .cell\/sc.names.lookup x = some .free
def Loc (sc:Scope) (x:Str):Prop:=sc.names.lookup x = some .local\/sc.names.lookup x = some .cell
def zky (env:Env) (h:Heap) (m:Str->Option Value) (x:Str) (u:Value):Prop:=
 (env.kindOf x = some .local/\m x = some u)\/((env.kindOf x = some .cell\/env.kindOf x = some .free)/\∃ c,env.cells.lookup x = some c/\h.IsCell c (some u))
structure Cx.Ok (X:Cx):Prop where
 mod:Mod X.K X.mg X.base
 kind:X.env.scope.kind = .function
 glob:X.env.globals = mainGlobals
 blt:X.env.builtins = builtinsNs
 above:X.s₀.heap.objs.size<=X.env.locals
 inj:∀ x y c,X.env.cells.lookup x = some c->X.env.cells.lookup y = some c->x = y
 has:∀ x,(X.env.kindOf x = some .cell\/X.env.kindOf x = some .free)->∃ c,X.env.cells.lookup x = some c
 cab:∀ x c,X.fn x = true->X.env.cells.lookup x = some c->X.s₀.heap.objs.size<=c
 hd:X.calm = true->X.A.handled = none
 frames:X.A.frames = some X.stack
 stk:X.stack = X.outer\/(X.stack = X.env :: X.outer/\X.env.frame = some X.env.locals)
 exf:∀ b ∈ X.ex,b ≠ X.env.locals/\∀ x c,X.env.cells.lookup x = some c->c ≠ b
 bs:∀ b o,X.base.get? b = some o->X.s₀.heap.get? b = some o/\X.H₀ b = none
 bsz:X.base.objs.size<=X.s₀.heap.objs.size
 noex:∀ b o,X.base.get? b = some o->b ∉ X.ex
 exfs:∀ b ∈ X.ex,b ∉ X.fs
 funs:X.s₀.heap.FunFrames X.base X.outer
 frf:∀ b ∈ X.fs,X.H₀ b = none
structure Inv (X:Cx) (pins:List (Addr × Obj)) (σ : List (Option V)) (H:Hp) (s:Shared):Prop where
 ok:X.Ok
 os:s.os = X.s₀.os
 bare:AllBare s.gens
 base:Un X.fs X.ex X.H₀ H X.s₀.heap s.heap
 loc:∃ m,s.heap.Ns X.env.locals m/\∀ (i:Nat) (x:Str) (v:V),X.N[i]? = some x->σ[i]? = some (some v)->Vis X.env.scope x->∃ u,zO v u/\zky X.env s.heap m x u
 cell:∀ x c,X.env.cells.lookup x = some c->∃ v,s.heap.IsCell c v
 free:H X.env.locals = none
 freeC:∀ x c,X.env.cells.lookup x = some c->H c = none
 pin:∀ p ∈ X.pn ++ pins,s.heap.get? p.1 = some p.2/\H p.1 = none/\p.1 ≠ X.env.locals/\p.1 ∉ X.fs/\∀ v,p.2.data ≠ .cell v
 hok:HOk X.prog X.w H s.heap
 len : σ.length = X.N.length
section
variable {X:Cx} {pins:List (Addr × Obj)} {σ : List (Option V)} {H H':Hp} {s:Shared} {h':Heap}
theorem Cx.Ok.nofr (ok:X.Ok) {b:Addr} {o:Obj} (e:X.base.get? b = some o):b ∉ X.fs:=fun hb=>by
 have:=(ok.funs.mem hb).1
 rw [e] at this; cases this
theorem Inv.bs (I:Inv X pins σ H s):∀ b o,X.base.get? b = some o->s.heap.get? b = some o/\H b = none:=fun b o e=>
 ⟨I.base.keep b o (I.ok.bs b o e).1 (I.ok.bs b o e).2 (I.ok.nofr e) (I.ok.noex b o e),I.base.free b o (I.ok.bs b o e).1 (I.ok.bs b o e).2 (I.ok.noex b o e)⟩
theorem Inv.bk (I:Inv X pins σ H s):∀ b o,X.base.get? b = some o->s.heap.get? b = some o:=fun b o e=>(I.bs b o e).1
theorem Inv.mod (I:Inv X pins σ H s):Mod X.K X.mg X.base:=I.ok.mod
theorem Inv.kIn (I:Inv X pins σ H s):X.K.In s.heap:=I.ok.mod.kin.keeps I.bk
theorem Inv.fr (I:Inv X pins σ H s):∃ m,Fr X.base X.env.locals s.heap m:=
 let ⟨m,hn,_⟩:=I.loc
 ⟨m,hn,I.bk,Nat.le_trans I.ok.bsz I.ok.above⟩
theorem Inv.lt (I:Inv X pins σ H s):X.env.locals < s.heap.objs.size:=let ⟨_,hn,_⟩:=I.loc; hn.lt
theorem Inv.sz (I:Inv X pins σ H s):X.s₀.heap.objs.size<=s.heap.objs.size:=Nat.le_trans I.ok.above (Nat.le_of_lt I.lt)
theorem Inv.nofs (I:Inv X pins σ H s) {a:Addr} (h:s.heap.objs.size<=a):a ∉ X.fs:=fun hb=>by
 obtain ⟨_,o,ho,_⟩:=I.ok.funs.mem hb
 exact absurd (Nat.lt_of_lt_of_le (Heap.lt_size ho) (Nat.le_trans I.sz h)) (Nat.lt_irrefl _)
theorem Inv.cne (I:Inv X pins σ H s):∀ x c,X.env.cells.lookup x = some c->c ≠ X.env.locals:=fun x c e z=>by
 obtain ⟨v,o,ho,hd⟩:=I.cell x c e
 obtain ⟨m,⟨o',es,ep,ho',hd',_⟩,_⟩:=I.loc
 rw [z,ho'] at ho; cases ho; rw [hd'] at hd; cases hd
theorem Inv.funs (I:Inv X pins σ H s):s.heap.FunFrames X.base X.outer:=by
 have all:∀ (l:List Env),(∀ b ∈ frs l,b ∈ X.fs)->X.s₀.heap.FunFrames X.base l->s.heap.FunFrames X.base l:=by
  intro l
  induction l with
  | nil=>intro _ _; trivial
  | cons env r ih=>
   intro hs hl
   obtain ⟨hk,⟨L,o,hf,hn,ho,hd⟩,hr⟩:=hl
   have hL:L ∈ X.fs:=hs L (by unfold frs; rw [List.filterMap_cons,hf]; exact List.mem_cons_self)
   obtain ⟨sl,e⟩:=I.base.slot L o ho (I.ok.frf L hL) hL fun z=>I.ok.exfs L z hL
   exact ⟨hk,⟨L,_,hf,hn,e,hd⟩,ih (fun b hb=>hs b (by unfold frs; rw [List.filterMap_cons,hf]; exact List.mem_cons_of_mem _ hb)) hr⟩
 exact all X.outer (fun _ hb=>hb) I.ok.funs
theorem Inv.stack (I:Inv X pins σ H s):s.heap.FunFrames X.base X.stack:=by
 rcases I.ok.stk with e | ⟨e,hf⟩
 ·rw [e]; exact I.funs
 ·rw [e]
  obtain ⟨m,hn,_⟩:=I.loc
  refine .cons (by rw [I.ok.kind]; decide) hf hn ?_ I.funs
  exact Heap.get?_none_of_le (Nat.le_trans I.ok.bsz I.ok.above)
theorem Inv.stkSub (I:Inv X pins σ H s):∀ b ∈ frs X.stack,b ∈ X.env.locals :: X.fs:=fun b hb=>by
 rcases I.ok.stk with e | ⟨e,hf⟩
 ·rw [e] at hb; exact List.mem_cons_of_mem _ hb
 ·rw [e] at hb
  unfold frs at hb
  rw [List.filterMap_cons,hf] at hb
  exact hb
theorem Inv.stkFree (I:Inv X pins σ H s):∀ b ∈ frs X.stack,H b = none:=fun b hb=>by
 rcases List.mem_cons.mp (I.stkSub b hb) with e | hb
 ·rw [e]; exact I.free
 ·obtain ⟨_,o,ho,_⟩:=I.ok.funs.mem hb
  exact I.base.free b o ho (I.ok.frf b hb) fun z=>I.ok.exfs b z hb
theorem Inv.step {g':Array GenState} {t':Nat} {d':Drawn} {ch:List Addr} (I:Inv X pins σ H s)
  (hch:∀ b ∈ ch,(b ∈ X.ex\/X.s₀.heap.objs.size<=b)/\b ≠ X.env.locals/\(∀ x c,X.env.cells.lookup x = some c->c ≠ b)/\∀ p ∈ X.pn ++ pins,p.1 ≠ b)
  (keep:∀ b o,b ≠ X.env.locals->b ∉ X.fs->b ∉ ch->s.heap.get? b = some o->H b = none->h'.get? b = some o)
  (slot:∀ b o,b ≠ X.env.locals->b ∈ X.fs->b ∉ ch->s.heap.get? b = some o->H b = none->∃ sl,h'.get? b = some { o with slots:=sl }) (free:∀ b o,b ∉ ch->s.heap.get? b = some o->H b = none->H' b = none)
  (there:∀ b o,b ∉ ch->s.heap.get? b = some o->∃ o',h'.get? b = some o')
  (tups:∀ b xs,H b = some (.tup xs)->H' b = some (.tup xs)) (frzs:∀ b o u,H b = some (.frz o u)->H' b = some (.frz o u)) (tbls:∀ b ps,H b = some (.tbl ps)->∃ more,H' b = some (.tbl (ps ++ more)))
  (ns:∀ m,s.heap.Ns X.env.locals m->h'.Ns X.env.locals m) (hok:HOk X.prog X.w H' h') (hg:AllBare g') :
  Inv X pins σ H' { s with heap:=h',gens:=g',drawn:=d',toks:=t' }:=by
 have neL:∀ b o,X.s₀.heap.get? b = some o->b ≠ X.env.locals:=fun b o e=>Nat.ne_of_lt (Nat.lt_of_lt_of_le (Heap.lt_size e) I.ok.above)
 have neC:∀ b o,X.s₀.heap.get? b = some o->b ∉ X.ex->b ∉ ch:=fun b o e hx hb=>by
  rcases (hch b hb).1 with z | z
  ·exact hx z
  ·exact absurd (Nat.lt_of_lt_of_le (Heap.lt_size e) z) (Nat.lt_irrefl _)
 have cellK:∀ x c,X.env.cells.lookup x = some c->∀ v,s.heap.IsCell c v->h'.IsCell c v:=fun x c e v ⟨o,ho,hd⟩=>by
  have nch:c ∉ ch:=fun z=>(hch c z).2.2.1 x c e rfl
  by_cases hc:c ∈ X.fs
  ·obtain ⟨sl,q⟩:=slot c o (I.cne x c e) hc nch ho (I.freeC x c e)
   exact ⟨_,q,hd⟩
  ·exact ⟨o,keep c o (I.cne x c e) hc nch ho (I.freeC x c e),hd⟩
 refine ⟨I.ok,I.os,hg,⟨fun b o e n hb hx=>?_,fun b o e n hb hx=>?_,fun b o e n hx=>?_,fun b o e hx=>?_,fun b xs e=>tups b xs (I.base.tups b xs e),fun b o xs e=>frzs b o xs (I.base.frzs b o xs e),fun b ps e=>?_⟩,?_,fun x c e=>?_,?_,fun x c e=>?_,fun p hp=>?_,hok,I.len⟩
 ·exact keep b o (neL b o e) hb (neC b o e hx) (I.base.keep b o e n hb hx) (I.base.free b o e n hx)
 ·obtain ⟨sl,e1⟩:=I.base.slot b o e n hb hx
  obtain ⟨sl',e2⟩:=slot b _ (neL b o e) hb (neC b o e hx) e1 (I.base.free b o e n hx)
  exact ⟨sl',e2⟩
 ·obtain ⟨o',e1⟩:=I.base.there b o e hx
  exact free b o' (neC b o e hx) e1 (I.base.free b o e n hx)
 ·obtain ⟨o',e1⟩:=I.base.there b o e hx
  exact there b o' (neC b o e hx) e1
 ·obtain ⟨m1,e1⟩:=I.base.tbls b ps e
  obtain ⟨m2,e2⟩:=tbls b _ e1
  exact ⟨m1 ++ m2,by rw [e2,Array.append_assoc]⟩
 ·obtain ⟨m,hn,hl⟩:=I.loc
  refine ⟨m,ns m hn,fun i x v e1 e2 e3=>?_⟩
  obtain ⟨u,r,l⟩:=hl i x v e1 e2 e3
  refine ⟨u,r,?_⟩
  rcases l with l | ⟨k,c,e,z⟩
  ·exact .inl l
  ·exact .inr ⟨k,c,e,cellK x c e _ z⟩
 ·obtain ⟨v,z⟩:=I.cell x c e
  exact ⟨v,cellK x c e v z⟩
 ·obtain ⟨m,⟨o,_,_,ho,_⟩,_⟩:=I.loc
  exact free _ o (fun z=>(hch _ z).2.1 rfl) ho I.free
 ·obtain ⟨v,o,ho,hd⟩:=I.cell x c e
  exact free c o (fun z=>(hch c z).2.2.1 x c e rfl) ho (I.freeC x c e)
 ·obtain ⟨e,n,ne,nf,d⟩:=I.pin p hp
  have nch:p.1 ∉ ch:=fun z=>(hch p.1 z).2.2.2 p hp rfl
  exact ⟨keep p.1 p.2 ne nf nch e n,free p.1 p.2 nch e n,ne,nf,d⟩
theorem Inv.un {t':Nat} (I:Inv X pins σ H s) (u:Un X.fs [] H H' s.heap h') (hok:HOk X.prog X.w H' h'):Inv X pins σ H' { s with heap:=h',toks:=t' }:=by
 obtain ⟨m,⟨o,es,ep,ho,r⟩,_⟩:=id I.loc
 obtain ⟨sl,hL⟩:=u.any ho I.free (by simp)
 exact I.step (g':=s.gens) (d':=s.drawn) (ch:=[]) (fun _ z=>nomatch z) (fun b o _ hb _ e n=>u.keep b o e n hb (by simp)) (fun b o _ hb _ e n=>u.slot b o e n hb (by simp)) (fun b o _ e n=>u.free b o e n (by simp)) (fun b o _ e=>u.there b o e (by simp)) u.tups u.frzs u.tbls (fun m' hm=>by
  obtain ⟨o',es',ep',ho',r'⟩:=hm
  rw [ho] at ho'; cases ho'
  exact ⟨_,es',ep',hL,r'⟩) hok I.bare
theorem Inv.call {g':Array GenState} {t':Nat} {d':Drawn} {ch:List Addr} (I:Inv X pins σ H s) (u:Un (frs X.stack) ch H H' s.heap h') (hok:HOk X.prog X.w H' h') (hg:AllBare g')
  (hch:∀ b ∈ ch,(b ∈ X.ex\/X.s₀.heap.objs.size<=b)/\b ≠ X.env.locals/\(∀ x c,X.env.cells.lookup x = some c->c ≠ b)/\∀ p ∈ X.pn ++ pins,p.1 ≠ b) :
  Inv X pins σ H' { s with heap:=h',gens:=g',drawn:=d',toks:=t' }:=by
 obtain ⟨m,⟨o,es,ep,ho,r⟩,_⟩:=id I.loc
 obtain ⟨sl,hL⟩:=u.any ho I.free fun z=>(hch _ z).2.1 rfl
 exact I.step (ch:=ch) hch (fun b o hL hb hc e n=>u.keep b o e n (fun z=>(List.mem_cons.mp (I.stkSub b z)).elim hL hb) hc) (fun b o _ _ hc e n=>u.any e n hc) (fun b o hc e n=>u.free b o e n hc) (fun b o hc e=>u.there b o e hc) u.tups u.frzs u.tbls (fun m' hm=>by
  obtain ⟨o',es',ep',ho',r'⟩:=hm
  rw [ho] at ho'; cases ho'
  exact ⟨_,es',ep',hL,r'⟩) hok hg
theorem Inv.turned {t':Nat} {it:Addr} (I:Inv X pins σ H s) (k:∀ b o,b ≠ it->s.heap.get? b = some o->h'.get? b = some o) (hn:H it = none) (hL:it ≠ X.env.locals)
  (h1:it ∈ X.ex\/X.s₀.heap.objs.size<=it) (h2:∀ x c,X.env.cells.lookup x = some c->c ≠ it) (h3:∀ p ∈ X.pn ++ pins,p.1 ≠ it):Inv X pins σ H { s with heap:=h',toks:=t' }:=by
 have nit:∀ b u,H b = some u->b ≠ it:=fun b u e z=>by rw [z,hn] at e; cases e
 refine I.step (g':=s.gens) (d':=s.drawn) (ch:=[it]) (fun b hb=>?_) (fun b o _ _ hc e _=>k b o (fun z=>hc (by simp [z])) e) (fun b o _ _ hc e _=>⟨o.slots,k b o (fun z=>hc (by simp [z])) e⟩) (fun _ _ _ _ n=>n)
  (fun b o hc e=>⟨o,k b o (fun z=>hc (by simp [z])) e⟩) (fun _ _ e=>e) (fun _ _ _ e=>e) (fun b ps e=>⟨#[],by rw [e]; simp⟩) (fun m hm=>?_) (fun b u e=>?_) I.bare
 ·have e:b = it:=by simpa using hb
  subst e
  exact ⟨h1,hL,h2,h3⟩
 ·obtain ⟨o,es,ep,ho,r⟩:=hm
  exact ⟨o,es,ep,k _ o (Ne.symm hL) ho,r⟩
 ·refine (I.hok b u e).stay (fun c v hc q=>k c v ?_ q) (fun _ q=>q) fun _ _ q=>q
  rcases hc with z | z
  ·rw [z]; exact nit b u e
  ·exact nit c _ z
theorem Inv.tok (I:Inv X pins σ H s) (t:Nat):Inv X pins σ H { s with toks:=t }:=I.un (h':=s.heap) (t':=t) Un.refl I.hok
theorem Inv.kept {t':Nat} (I:Inv X pins σ H s) (k:∀ b u,s.heap.get? b = some u->h'.get? b = some u):Inv X pins σ H { s with heap:=h',toks:=t' }:=I.un (Un.kept k) (I.hok.kept k)
theorem Inv.laid {a:Addr} {o:HO} {t':Nat} (I:Inv X pins σ H s) (k:∀ b u,s.heap.get? b = some u->h'.get? b = some u) (hp:s.heap.objs.size<=a) (new:yy X.prog X.w (upd H a o) h' a o) :
  Inv X pins σ (upd H a o) { s with heap:=h',toks:=t' }:=I.un (Un.laid k hp (I.hok.fresh hp)) (I.hok.laid k hp new)
theorem Inv.write {x e:Addr} {o:HO} {t':Nat} (I:Inv X pins σ H s) (mu:Mut (H x)) (he:e = x\/H e = some (.own x)) (k:∀ b u,b ≠ e->s.heap.get? b = some u->h'.get? b = some u) (heo:∃ u,h'.get? e = some u)
  (new:yy X.prog X.w (upd H x o) h' x o):Inv X pins σ (upd H x o) { s with heap:=h',toks:=t' }:=I.un (Un.write mu he k heo) (I.hok.write mu he k heo new)
theorem Inv.weak {σ':List (Option V)} (I:Inv X pins σ H s) (hl : σ'.length = σ.length) (w:∀ (i:Nat) v,σ'[i]? = some (some v)->σ[i]? = some (some v)):Inv X pins σ' H s:=
 ⟨I.ok,I.os,I.bare,I.base,let ⟨m,hn,hl'⟩:=I.loc; ⟨m,hn,fun i x v e1 e2 e3=>hl' i x v e1 (w i v e2) e3⟩,I.cell,I.free,I.freeC,I.pin,I.hok,hl.trans I.len⟩
theorem Inv.pins_of {pins':List (Addr × Obj)} (I:Inv X pins σ H s) (h:∀ p ∈ pins',s.heap.get? p.1 = some p.2/\H p.1 = none/\p.1 ≠ X.env.locals/\p.1 ∉ X.fs/\∀ v,p.2.data ≠ .cell v):Inv X pins' σ H s:=
 ⟨I.ok,I.os,I.bare,I.base,I.loc,I.cell,I.free,I.freeC,fun p hp=>(List.mem_append.mp hp).elim (fun z=>I.pin p (List.mem_append_left _ z)) (h p),I.hok,I.len⟩
theorem zby {N:List Str} (hN:N.Nodup) {i j:Nat} {x:Str} (a:N[i]? = some x) (b:N[j]? = some x):i = j:=by
 obtain ⟨h1,e1⟩:=List.getElem?_eq_some_iff.mp a
 obtain ⟨h2,e2⟩:=List.getElem?_eq_some_iff.mp b
 exact (List.getElem_inj hN).mp (e1.trans e2.symm)
theorem qA {M:Model} {A:Around} {E:Value->Shared->Prop} {i:Nat} {x:Str} {v:V} {u:Value} {Q:Unit->Shared->Prop} (I:Inv X pins σ H s) (hN:X.N.Nodup) (hi:X.N[i]? = some x) (hx:Loc X.env.scope x) (r:zO v u)
  (h:∀ s',Inv X pins (σ.set i (some v)) H s'->(∃ a,Heap.SameBut a s.heap s'.heap/\(a = X.env.locals\/X.env.cells.lookup x = some a))->Q () s') (hf:X.fn x = true\/X.env.scope.names.lookup x = some .local:=by first | exact .inl rfl | exact .inr rfl | assumption):wpAny M A (storeName X.env x u) Q E s:=by
 obtain ⟨m,hn,hl⟩:=id I.loc
 have hcls:(X.env.scope.kind == .class || (X.env.scope.kind == .module && X.env.locals != X.env.globals)) = false:=by rw [I.ok.kind]; rfl
 have hiσ : i < σ.length:=by rw [I.len]; exact (List.getElem?_eq_some_iff.mp hi).1
 have cne:=I.cne
 have tracked:∀ {a:Addr} {h':Heap},(∃ o,s.heap.get? a = some o/\H a = none)->Heap.SameBut a s.heap h'->HOk X.prog X.w H h':=fun {a h'} ha hs b ob e=>by
  obtain ⟨_,_,hfree⟩:=ha
  refine (I.hok b ob e).stay (fun c w' hc q=>(hs.2 c ?_).trans q) (fun _ q=>q) fun _ _ q=>q
  rintro rfl
  rcases hc with rfl | hc
  ·rw [hfree] at e; cases e
  ·rw [hfree] at hc; cases hc
 rcases hx with hk | hk
 ·refine wpAny_storeName_local hk hn (fun h' hn' hs=>?_) hcls
  obtain ⟨oL,_,_,hoL,_⟩:=id hn
  refine h _ ⟨I.ok,I.os,I.bare,⟨fun b o e n hb hx=>?_,fun b o e n hb hx=>?_,I.base.free,fun b o e hx=>?_,I.base.tups,I.base.frzs,I.base.tbls⟩,⟨_,hn',fun j y v' e1 e2 e3=>?_⟩,fun y c e=>?_,I.free,I.freeC,fun p hp=>?_,tracked ⟨oL,hoL,I.free⟩ hs,by simpa using I.len⟩ ⟨_,hs,.inl rfl⟩
  ·exact (hs.2 b (Nat.ne_of_lt (Nat.lt_of_lt_of_le (Heap.lt_size e) I.ok.above))).trans (I.base.keep b o e n hb hx)
  ·obtain ⟨sl,e1⟩:=I.base.slot b o e n hb hx
   exact ⟨sl,(hs.2 b (Nat.ne_of_lt (Nat.lt_of_lt_of_le (Heap.lt_size e) I.ok.above))).trans e1⟩
  ·obtain ⟨o',e1⟩:=I.base.there b o e hx
   exact ⟨o',(hs.2 b (Nat.ne_of_lt (Nat.lt_of_lt_of_le (Heap.lt_size e) I.ok.above))).trans e1⟩
  ·by_cases hj:j = i
   ·subst hj
    rw [hi] at e1; cases e1
    rw [List.getElem?_set_self hiσ] at e2
    cases e2
    exact ⟨u,r,.inl ⟨hk,by simp⟩⟩
   ·rw [List.getElem?_set_ne (Ne.symm hj)] at e2
    obtain ⟨u',r',q⟩:=hl j y v' e1 e2 e3
    refine ⟨u',r',?_⟩
    rcases q with ⟨k,e⟩ | ⟨k,c,e,z⟩
    ·refine .inl ⟨k,?_⟩
     have:y ≠ x:=fun e=>hj (zby hN e1 (e ▸ hi))
     simp [this,e]
    ·exact .inr ⟨k,c,e,z.sameBut hs (cne y c e)⟩
  ·obtain ⟨w',z⟩:=I.cell y c e
   exact ⟨w',z.sameBut hs (cne y c e)⟩
  ·obtain ⟨e,n,ne,nf,d⟩:=I.pin p hp
   exact ⟨(hs.2 p.1 ne).trans e,n,ne,nf,d⟩
 ·have hfn:X.fn x = true:=by
   rcases hf with z | z
   ·exact z
   ·rw [z] at hk; cases hk
  obtain ⟨c,hc⟩:=I.ok.has x (.inl hk)
  obtain ⟨w',z⟩:=I.cell x c hc
  refine wpAny_storeName_cell I.ok.kind hk hc z (fun h' hc' hs=>?_)
  obtain ⟨oc,hoc,hocd⟩:=id z
  refine h { s with heap:=h' } ⟨I.ok,I.os,I.bare,⟨fun b o e n hb hx=>?_,fun b o e n hb hx=>?_,I.base.free,fun b o e hx=>?_,I.base.tups,I.base.frzs,I.base.tbls⟩,⟨m,hn.sameBut hs (Ne.symm (cne x c hc)),fun j y v' e1 e2 e3=>?_⟩,fun y c' e=>?_,I.free,I.freeC,fun p hp=>?_,tracked ⟨oc,hoc,I.freeC x c hc⟩ hs,by simpa using I.len⟩ ⟨c,hs,.inr hc⟩
  ·exact (hs.2 b (Nat.ne_of_lt (Nat.lt_of_lt_of_le (Heap.lt_size e) (I.ok.cab x c hfn hc)))).trans (I.base.keep b o e n hb hx)
  ·obtain ⟨sl,e1⟩:=I.base.slot b o e n hb hx
   exact ⟨sl,(hs.2 b (Nat.ne_of_lt (Nat.lt_of_lt_of_le (Heap.lt_size e) (I.ok.cab x c hfn hc)))).trans e1⟩
  ·obtain ⟨o',e1⟩:=I.base.there b o e hx
   exact ⟨o',(hs.2 b (Nat.ne_of_lt (Nat.lt_of_lt_of_le (Heap.lt_size e) (I.ok.cab x c hfn hc)))).trans e1⟩
  ·by_cases hj:j = i
   ·subst hj
    rw [hi] at e1; cases e1
    rw [List.getElem?_set_self hiσ] at e2
    cases e2
    exact ⟨u,r,.inr ⟨.inl hk,c,hc,hc'⟩⟩
   ·rw [List.getElem?_set_ne (Ne.symm hj)] at e2
    obtain ⟨u',r',q⟩:=hl j y v' e1 e2 e3
    refine ⟨u',r',?_⟩
    rcases q with q | ⟨k,c',e,z'⟩
    ·exact .inl q
    ·refine .inr ⟨k,c',e,z'.sameBut hs ?_⟩
     rintro rfl
     exact hj (zby hN e1 (I.ok.inj _ _ _ e hc ▸ hi))
  ·by_cases hcc:c' = c
   ·subst hcc; exact ⟨_,hc'⟩
   ·obtain ⟨w2,z2⟩:=I.cell y c' e
    exact ⟨w2,z2.sameBut hs hcc⟩
  ·obtain ⟨e,n,ne,nf,d⟩:=I.pin p hp
   refine ⟨(hs.2 p.1 ?_).trans e,n,ne,nf,d⟩
   intro q
   rw [q,hoc] at e
   have q':oc = p.2:=Option.some.inj e
   exact d w' (by rw [<- q']; exact hocd)
theorem zbd {M:Model} {A:Around} {E:Value->Shared->Prop} {i:Nat} {x:Str} {v:V} {u:Value} {Q:Unit->Shared->Prop} (I:Inv X pins σ H s) (hN:X.N.Nodup) (hi:X.N[i]? = some x) (hx:Loc X.env.scope x) (r:zO v u)
  (h:∀ s',Inv X pins (σ.set i (some v)) H s'->Q () s') (hf:X.fn x = true\/X.env.scope.names.lookup x = some .local:=by first | exact .inl rfl | exact .inr rfl | assumption):wpAny M A (storeName X.env x u) Q E s:=
 qA I hN hi hx r (fun s' I' _=>h s' I') hf
theorem Inv.call' {s':Shared} {ch:List Addr} (I:Inv X pins σ H s) (ho:s'.os = s.os) (u:Un (frs X.stack) ch H H' s.heap s'.heap) (hok:HOk X.prog X.w H' s'.heap) (hg:AllBare s'.gens)
  (hch:∀ b ∈ ch,(b ∈ X.ex\/X.s₀.heap.objs.size<=b)/\b ≠ X.env.locals/\(∀ x c,X.env.cells.lookup x = some c->c ≠ b)/\∀ p ∈ X.pn ++ pins,p.1 ≠ b):Inv X pins σ H' s':=by
 obtain ⟨h',g',d',t',o'⟩:=s'
 have e:o' = s.os:=ho
 subst e
 exact I.call (g':=g') (t':=t') (d':=d') u hok hg hch
end
abbrev XK:=Value->Option Addr->Hp->Prop
abbrev St:=List (Option V)
abbrev VK:=V->Hp->Prop
abbrev TE:=St->Hp->VK->Prop
abbrev TT:=St->Hp->(Bool->Hp->Prop)->Prop
abbrev TA:=St->Hp->(List V->Hp->Prop)->Prop
structure jh where
 nx:St->Hp->Prop
 rt:VK
 bk:St->Hp->Prop:=fun _ _=>False
 ct:St->Hp->Prop:=fun _ _=>False
abbrev TS:=jh->St->Hp->Prop
def EP (X:Cx) (pins:List (Addr × Obj)) (σ : St) (Q:VK) (u:Value) (s':Shared):Prop:=∃ v H',Inv X pins σ H' s'/\zO v u/\Q v H'
def TP (X:Cx) (pins:List (Addr × Obj)) (σ : St) (Q:Bool->Hp->Prop) (b:Bool) (s':Shared):Prop:=∃ H',Inv X pins σ H' s'/\Q b H'
def AP (X:Cx) (pins:List (Addr × Obj)) (σ : St) (Q:List V->Hp->Prop) (us:List Value) (s':Shared):Prop:=∃ vs H',Inv X pins σ H' s'/\zK vs us/\Q vs H'
def SP (X:Cx) (pins:List (Addr × Obj)) (D:jh) (f:Flow) (s':Shared):Prop:=
 match f with
 | .next=>∃ σ' H',Inv X pins σ' H' s'/\D.nx σ' H'
 | .brk=>∃ σ' H',Inv X pins σ' H' s'/\D.bk σ' H'
 | .cont=>∃ σ' H',Inv X pins σ' H' s'/\D.ct σ' H'
 | .ret u=>∃ v σ' H',Inv X pins σ' H' s'/\zO v u/\D.rt v H'
structure PE (X:Cx) (e:Expr) (t:TE):Prop where
 run:∀ (pins:List (Addr × Obj)) (s:Shared) (σ : St) (H:Hp) (Q:VK),Inv X pins σ H s->t σ H Q->wpAny (model X.prog X.w) X.A (eval e X.env) (EP X pins σ Q) X.xe s
instance {X:Cx} {e:Expr} {t:TE}:CoeFun (PE X e t) (fun _=>∀ (pins:List (Addr × Obj)) (s:Shared) (σ : St) (H:Hp) (Q:VK),Inv X pins σ H s->t σ H Q->wpAny (model X.prog X.w) X.A (eval e X.env) (EP X pins σ Q) X.xe s):=⟨PE.run⟩
structure PT (X:Cx) (e:Expr) (t:TT):Prop where
 run:∀ (pins:List (Addr × Obj)) (s:Shared) (σ : St) (H:Hp) (Q:Bool->Hp->Prop),Inv X pins σ H s->t σ H Q->wpAny (model X.prog X.w) X.A (isTrue e X.env (eval e X.env)) (TP X pins σ Q) X.xe s
instance {X:Cx} {e:Expr} {t:TT}:CoeFun (PT X e t) (fun _=>∀ (pins:List (Addr × Obj)) (s:Shared) (σ : St) (H:Hp) (Q:Bool->Hp->Prop),Inv X pins σ H s->t σ H Q->wpAny (model X.prog X.w) X.A (isTrue e X.env (eval e X.env)) (TP X pins σ Q) X.xe s):=⟨PT.run⟩
structure PW (X:Cx) (e:Expr) (t:TT):Prop where
 run:∀ (whole:Sem Value) (pins:List (Addr × Obj)) (s:Shared) (σ : St) (H:Hp) (Q:Bool->Hp->Prop),Inv X pins σ H s->t σ H Q->wpAny (model X.prog X.w) X.A (isTrue e X.env whole) (TP X pins σ Q) X.xe s
instance {X:Cx} {e:Expr} {t:TT}:CoeFun (PW X e t) (fun _=>∀ (whole:Sem Value) (pins:List (Addr × Obj)) (s:Shared) (σ : St) (H:Hp) (Q:Bool->Hp->Prop),Inv X pins σ H s->t σ H Q->wpAny (model X.prog X.w) X.A (isTrue e X.env whole) (TP X pins σ Q) X.xe s):=⟨PW.run⟩
theorem PW.pt {X:Cx} {e:Expr} {t:TT} (h:PW X e t):PT X e t:=⟨h _⟩
structure PA (X:Cx) (es:List Expr) (t:TA):Prop where
 run:∀ (pos:Pos) (pins:List (Addr × Obj)) (s:Shared) (σ : St) (H:Hp) (Q:List V->Hp->Prop),Inv X pins σ H s->t σ H Q->wpAny (model X.prog X.w) X.A (spliced (backTo pos (starEach es X.env))) (AP X pins σ Q) X.xe s
instance {X:Cx} {es:List Expr} {t:TA}:CoeFun (PA X es t) (fun _=>∀ (pos:Pos) (pins:List (Addr × Obj)) (s:Shared) (σ : St) (H:Hp) (Q:List V->Hp->Prop),Inv X pins σ H s->t σ H Q->wpAny (model X.prog X.w) X.A (spliced (backTo pos (starEach es X.env))) (AP X pins σ Q) X.xe s):=⟨PA.run⟩
structure PS (X:Cx) (st:Stmt) (t:TS):Prop where
 run:∀ (pins:List (Addr × Obj)) (s:Shared) (σ : St) (H:Hp) (D:jh),Inv X pins σ H s->t D σ H->wpAny (model X.prog X.w) X.A (exec st X.env) (SP X pins D) X.xe s
instance {X:Cx} {st:Stmt} {t:TS}:CoeFun (PS X st t) (fun _=>∀ (pins:List (Addr × Obj)) (s:Shared) (σ : St) (H:Hp) (D:jh),Inv X pins σ H s->t D σ H->wpAny (model X.prog X.w) X.A (exec st X.env) (SP X pins D) X.xe s):=⟨PS.run⟩
structure PSs (X:Cx) (st:List Stmt) (t:TS):Prop where
 run:∀ (pins:List (Addr × Obj)) (s:Shared) (σ : St) (H:Hp) (D:jh),Inv X pins σ H s->t D σ H->wpAny (model X.prog X.w) X.A (execs st X.env) (SP X pins D) X.xe s
instance {X:Cx} {st:List Stmt} {t:TS}:CoeFun (PSs X st t) (fun _=>∀ (pins:List (Addr × Obj)) (s:Shared) (σ : St) (H:Hp) (D:jh),Inv X pins σ H s->t D σ H->wpAny (model X.prog X.w) X.A (execs st X.env) (SP X pins D) X.xe s):=⟨PSs.run⟩
theorem thn {α : Type} {t:Sem α} {Q Q' : α->Shared->Prop} {M:Model} {A:Around} {E:Value->Shared->Prop} {s:Shared} (h:wpAny M A t Q E s) (hQ:∀ a s,Q a s->Q' a s):wpAny M A t Q' E s:=wpAny_mono h hQ fun _ _ x=>x
section
variable {X:Cx}
theorem bin {a b:Expr} {ta tb:TE} (ha:PE X a ta) (hb:PE X b tb) {pins:List (Addr × Obj)} {s:Shared} {σ : St} {H:Hp} {R:V->V->Hp->Prop} (I:Inv X pins σ H s) (h:ta σ H fun x H1=>tb σ H1 fun y H2=>R x y H2)
  {α : Type} {Q : α->Shared->Prop} {f:Value->Value->Sem α}
  (hf:∀ v u s2 x y H2,Inv X pins σ H2 s2->zO x v->zO y u->R x y H2->wpAny (model X.prog X.w) X.A (f v u) Q X.xe s2) :
  wpAny (model X.prog X.w) X.A (eval a X.env) (fun v s₁=>wpAny (model X.prog X.w) X.A (eval b X.env) (fun u s₂=>wpAny (model X.prog X.w) X.A (f v u) Q X.xe s₂) X.xe s₁) X.xe s:=by
 refine thn (ha pins s σ H _ I h) fun v s1 ⟨x,H1,I1,r1,q1⟩=>?_
 refine thn (hb pins s1 σ H1 _ I1 q1) fun u s2 ⟨y,H2,I2,r2,q2⟩=>?_
 exact hf v u s2 x y H2 I2 r1 r2 q2
def ziX (i:Nat):TE:=fun σ H Q=>∃ v,σ[i]? = some (some v)/\Q v H
def tC (v:V):TE:=fun _ H Q=>Q v H
theorem zia {i:Nat} {x:Str} {pos:Pos} (hN:X.N[i]? = some x) (hv:Vis X.env.scope x) (hd:(x == ("__debug__" : Str)) = false:=by decide) (hcd:(x == ("__classdict__" : Str)) = false:=by decide):PE X (.Name x pos) (ziX i):=by
 refine ⟨?_⟩
 intro pins s σ H Q I h
 obtain ⟨v,e,h⟩:=h
 obtain ⟨m,hn,hl⟩:=I.loc
 obtain ⟨u,r,l⟩:=hl i x v hN e hv
 have fin:EP X pins σ Q u s:=⟨v,H,I,r,h⟩
 rcases l with ⟨hk,hm⟩ | ⟨hk,c,hc,hcell⟩
 ·exact wpAny_Name (wpAny_loadName_local I.ok.kind hk hn hm fin) hd
 ·rcases hk with hk | hk
  ·exact wpAny_Name (wpAny_loadName_cell I.ok.kind hk hc hcell fin) hd
  ·exact wpAny_Name (wpAny_loadName_free I.ok.kind hk hc hcell fin hcd) hd
theorem zg {i j pos}:PE X (.Constant (.int i) j pos) (tC (.int i)):=⟨fun _ _ _ H _ I h=>wpAny_Constant_int ⟨.int i,H,I.tok _,⟨_,rfl⟩,h⟩⟩
theorem wz {b j pos}:PE X (.Constant (.bool b) j pos) (tC (.bl b)):=⟨fun _ _ _ H _ I h=>Constant_bool ⟨.bl b,H,I,rfl,h⟩⟩
theorem zib {j pos}:PE X (.Constant .none j pos) (tC .non):=⟨fun _ _ _ H _ I h=>Constant_none ⟨.non,H,I,rfl,h⟩⟩
theorem zq {x j pos}:PE X (.Constant (.str x) j pos) (tC (.str x)):=⟨fun _ _ _ H _ I h=>Calls.Constant_str ⟨.str x,H,I.tok _,⟨_,rfl⟩,h⟩⟩
def Gl (X:Cx) (x:Str):Prop:=X.env.kindOf x = some .globalImplicit
theorem vC {E:Value->Shared->Prop} {pins:List (Addr × Obj)} {s:Shared} {σ : St} {H:Hp} {x:Str} {u:Value} {pos:Pos} {Q:Value->Shared->Prop} (I:Inv X pins σ H s) (hg:Gl X x) (hm:X.mg x = some u) (h:Q u s)
  (hd:(x == ("__debug__" : Str)) = false:=by decide):wpAny (model X.prog X.w) X.A (eval (.Name x pos) X.env) Q E s:=
 Calls.Name_function_global I.ok.kind hg (Calls.loadGlobal_global (by rw [I.ok.glob]; exact I.mod.glob.keeps I.bk) hm h) hd
theorem vg {E:Value->Shared->Prop} {pins:List (Addr × Obj)} {s:Shared} {σ : St} {H:Hp} {x:Str} {u:Value} {pos:Pos} {Q:Value->Shared->Prop} (I:Inv X pins σ H s) (hg:Gl X x) (hm:X.mg x = none) (hv:bootBuiltins x = some u) (h:Q u s)
  (hn:x ≠ "__name__":=by decide) (hd:(x == ("__debug__" : Str)) = false:=by decide):wpAny (model X.prog X.w) X.A (eval (.Name x pos) X.env) Q E s:=by
 obtain ⟨mb,h1,h2⟩:=I.mod.blt
 exact Calls.Name_function_global I.ok.kind hg (Calls.loadGlobal_builtin (by rw [I.ok.glob]; exact I.mod.glob.keeps I.bk) hm (by rw [I.ok.blt]; exact h1.keeps I.bk) ((h2 x hn).trans hv) h) hd
theorem wH {x:Str} {v:V} {u:Value} {pos:Pos} (hg:Gl X x) (hm:X.mg x = some u) (r:zO v u) (hd:(x == ("__debug__" : Str)) = false:=by decide):PE X (.Name x pos) (tC v):=⟨fun _ _ _ H _ I h=>vC I hg hm ⟨v,H,I,r,h⟩ hd⟩
theorem zgM {x:Str} {v:V} {u:Value} {pos:Pos} (hg:Gl X x) (hm:X.mg x = none) (hv:bootBuiltins x = some u) (r:zO v u) (hn:x ≠ "__name__":=by decide) (hd:(x == ("__debug__" : Str)) = false:=by decide):PE X (.Name x pos) (tC v):=⟨fun _ _ _ H _ I h=>vg I hg hm hv ⟨v,H,I,r,h⟩ hn hd⟩
variable {a b:Expr} {ta tb:TE} {pos:Pos}
structure PC (X:Cx) (op:CmpOp) (a b:Expr) (t:TE):Prop where
 run:∀ (pins:List (Addr × Obj)) (s:Shared) (σ : St) (H:Hp) (Q:VK),Inv X pins σ H s->t σ H Q->
  wpAny (model X.prog X.w) X.A (eval a X.env) (fun v s₁=>wpAny (model X.prog X.w) X.A (eval b X.env) (fun u s₂=>wpAny (model X.prog X.w) X.A (compareOp op v u) (EP X pins σ Q) X.xe s₂) X.xe s₁) X.xe s
instance {X:Cx} {op:CmpOp} {a b:Expr} {t:TE}:CoeFun (PC X op a b t) (fun _=>∀ (pins:List (Addr × Obj)) (s:Shared) (σ : St) (H:Hp) (Q:VK),Inv X pins σ H s->t σ H Q->
  wpAny (model X.prog X.w) X.A (eval a X.env) (fun v s₁=>wpAny (model X.prog X.w) X.A (eval b X.env) (fun u s₂=>wpAny (model X.prog X.w) X.A (compareOp op v u) (EP X pins σ Q) X.xe s₂) X.xe s₁) X.xe s):=⟨PC.run⟩
theorem zfJ (b:Expr) {op:CmpOp} (h:op ≠ .In) (h2:op ≠ .NotIn):behindInMarks op b = false:=by
 have e1:(op == CmpOp.In) = false:=by cases op <;> first | rfl | exact absurd rfl h
 have e2:(op == CmpOp.NotIn) = false:=by cases op <;> first | rfl | exact absurd rfl h2
 cases b <;> simp [behindInMarks,e1,e2]
def zjT (ta:TE):TE:=fun σ H Q=>ta σ H fun x H1=>Q (.bl (decide (x = .non))) H1
def zi1 (ta:TE):TE:=fun σ H Q=>ta σ H fun x H1=>Q (.bl (!decide (x = .non))) H1
theorem zO.none_iff {x:V} {v:Value} (r:zO x v):(v == Value.none) = decide (x = .non):=by
 cases x with
 | non=>cases r; rfl
 | bl _=>cases r; rfl
 | int _=>obtain ⟨t,rfl⟩:=r; rfl
 | str _=>obtain ⟨t,rfl⟩:=r; rfl
 | byt _=>obtain ⟨t,rfl⟩:=r; rfl
 | flt _=>obtain ⟨t,rfl⟩:=r; rfl
 | ref _=>cases r; rfl
 | ty _=>cases r; rfl
theorem zaO {j pos'} (ha:PE X a ta):PC X .Is a (.Constant .none j pos') (zjT ta):=by
 refine ⟨?_⟩
 intro pins s σ H Q I h
 refine thn (ha pins s σ H _ I h) fun v s1 ⟨x,H1,I1,r1,q1⟩=>?_
 exact Constant_none (is_none_gen ⟨.bl _,H1,I1,by rw [r1.none_iff]; rfl,q1⟩)
theorem zgN {j pos'} (ha:PE X a ta):PC X .IsNot a (.Constant .none j pos') (zi1 ta):=by
 refine ⟨?_⟩
 intro pins s σ H Q I h
 refine thn (ha pins s σ H _ I h) fun v s1 ⟨x,H1,I1,r1,q1⟩=>?_
 exact Constant_none (isnot_none_gen ⟨.bl _,H1,I1,by rw [r1.none_iff]; rfl,q1⟩)
def tB (t:TE):TT:=fun σ H Q=>t σ H fun x H1=>∃ c,x = .bl c/\Q c H1
theorem vR {op:CmpOp} {t:TE} (h:PC X op a b t) (h1:behindInMarks op b = false:=by first | exact zfJ _ (by decide) (by decide) | rfl):PT X (.Compare a [op] [b] pos) (tB t):=by
 refine ⟨?_⟩
 intro pins s σ H Q I hw
 refine wpAny_isTrue_Compare1 (thn (h pins s σ H _ I hw) fun v s1 h1=>thn h1 fun u s2 h2=>thn h2 fun c s3 ⟨x,H1,I1,r1,q1⟩=>?_) h1
 obtain ⟨d,rfl,q⟩:=q1
 cases r1
 exact wpAny_truthy_bool ⟨H1,I1,q⟩
theorem xF {e:Expr} {t:TE} (h:PE X e t) (he:∀ whole,isTrue e X.env whole = (do let v <- whole; standAt e.pos; holding [v] (truthy v)):=by intro _; rfl):PT X e (tB t):=by
 refine ⟨?_⟩
 intro pins s σ H Q I hw
 refine isTrue_plain (thn (h pins s σ H _ I hw) fun v s1 ⟨x,H1,I1,r1,q1⟩=>?_) (he _)
 obtain ⟨d,rfl,q⟩:=q1
 cases r1
 exact wpAny_truthy_bool ⟨H1,I1,q⟩
variable {tA tB':TT} {qu:List Expr}
def zjY (t u:TT):TT:=fun σ H Q=>t σ H fun c H1=>if c = true then u σ H1 Q else Q false H1
def tOr (t u:TT):TT:=fun σ H Q=>t σ H fun c H1=>if c = true then Q true H1 else u σ H1 Q
def zjR (t:TT):TT:=fun σ H Q=>t σ H fun c H1=>Q (!c) H1
theorem yZ (ha:PT X a tA):PW X (.BoolOp .And [a] pos) tA:=by
 refine ⟨?_⟩
 intro wh pins s σ H Q I h
 refine isTrue_and (thn (ha pins s σ H Q I h) fun c s1 e=>?_)
 cases c with
 | true=>exact isTrue_and_nil e
 | false=>exact e
theorem zci (ha:PT X a tA):PW X (.BoolOp .Or [a] pos) tA:=by
 refine ⟨?_⟩
 intro wh pins s σ H Q I h
 refine isTrue_or (thn (ha pins s σ H Q I h) fun c s1 e=>?_)
 cases c with
 | false=>exact isTrue_or_nil e
 | true=>exact e
theorem xw (ha:PT X a tA) (hb:PW X (.BoolOp .And (b :: qu) pos) tB'):PW X (.BoolOp .And (a :: b :: qu) pos) (zjY tA tB'):=by
 refine ⟨?_⟩
 intro wh pins s σ H Q I h
 refine isTrue_and (thn (ha pins s σ H _ I h) fun c s1 ⟨H1,I1,q1⟩=>?_)
 cases c with
 | true=>exact hb wh pins s1 σ H1 Q I1 q1
 | false=>exact ⟨H1,I1,q1⟩
theorem zeV (ha:PT X a tA) (hb:PW X (.BoolOp .Or (b :: qu) pos) tB'):PW X (.BoolOp .Or (a :: b :: qu) pos) (tOr tA tB'):=by
 refine ⟨?_⟩
 intro wh pins s σ H Q I h
 refine isTrue_or (thn (ha pins s σ H _ I h) fun c s1 ⟨H1,I1,q1⟩=>?_)
 cases c with
 | true=>exact ⟨H1,I1,q1⟩
 | false=>exact hb wh pins s1 σ H1 Q I1 q1
theorem wY (ha:PT X a tA):PT X (.UnaryOp .Not a pos) (zjR tA):=by
 refine ⟨?_⟩
 intro pins s σ H Q I h
 exact isTrue_not (ha pins s σ H (fun c H1=>Q (!c) H1) I h)
def zi7 (ta tb:TE):TE:=fun σ H Q=>ta σ H fun x H1=>∃ c,x = .bl c/\if c = true then tb σ H1 Q else Q (.bl false) H1
theorem ze7 {op} {t:TE} (h:PE X a t):PE X (.BoolOp op [a] pos) t:=⟨fun pins s σ H Q I hw=>BoolOp_one (h pins s σ H Q I hw)⟩
theorem zfc (ha:PE X a ta) (hb:PE X (.BoolOp .And (b :: qu) pos) tb):PE X (.BoolOp .And (a :: b :: qu) pos) (zi7 ta tb):=by
 refine ⟨?_⟩
 intro pins s σ H Q I h
 refine BoolOp_and (thn (ha pins s σ H _ I h) fun v s1 ⟨x,H1,I1,r1,q1⟩=>?_)
 obtain ⟨c,rfl,q1⟩:=q1
 cases r1
 refine wpAny_truthy_bool ?_
 cases c with
 | true=>exact hb pins s1 σ H1 Q I1 q1
 | false=>exact ⟨.bl false,H1,I1,rfl,q1⟩
def tIf (t:TT) (ta tb:TE):TE:=fun σ H Q=>t σ H fun c H1=>if c = true then ta σ H1 Q else tb σ H1 Q
theorem ze8 {c:Expr} (hc:PT X c tA) (ha:PE X a ta) (hb:PE X b tb):PE X (.IfExp c a b pos) (tIf tA ta tb):=by
 refine ⟨?_⟩
 intro pins s σ H Q I h
 refine wpAny_IfExp (thn (hc pins s σ H _ I h) fun d s1 ⟨H1,I1,q1⟩=>?_)
 cases d with
 | true=>exact ha pins s1 σ H1 Q I1 q1
 | false=>exact hb pins s1 σ H1 Q I1 q1
end
def SqL (K:Frag) (H:Hp) (a:Addr) (xs:List V):Prop:=
 Rd H a (.lst xs)\/
  ∃ (o:Obj) (its:Array Value) (n:Nat),K.lookup a = some o/\o.cls = .type "list"/\o.dict = none/\o.data = .seq its n/\its.size<=sizeLine/\zK xs its.toList
def SqT (K:Frag) (H:Hp) (a:Addr) (xs:List V):Prop:=
 Rd H a (.tup xs)\/
  ∃ (o:Obj) (its:Array Value) (n:Nat),K.lookup a = some o/\o.cls = .type "tuple"/\o.data = .seq its n/\its.size<=sizeLine/\zK xs its.toList
def zkv:Value->Option V
 | .none=>some .non
 | .bool b=>some (.bl b)
 | .int i _=>some (.int i)
 | .str x _=>some (.str x)
 | .bytes b _=>some (.byt b)
 | .float b _=>some (.flt b)
 | .ref a=>some (.ref a)
 | .type n=>some (.ty n)
 | _=>none
theorem zO.abs {x:V} {u:Value} (r:zO x u):zkv u = some x:=by
 cases x with
 | non=>cases r; rfl
 | bl _=>cases r; rfl
 | int _=>obtain ⟨t,rfl⟩:=r; rfl
 | str _=>obtain ⟨t,rfl⟩:=r; rfl
 | byt _=>obtain ⟨t,rfl⟩:=r; rfl
 | flt _=>obtain ⟨t,rfl⟩:=r; rfl
 | ref _=>cases r; rfl
 | ty _=>cases r; rfl
theorem zO.inj {x y:V} {u:Value} (r:zO x u) (q:zO y u):x = y:=Option.some.inj (r.abs.symm.trans q.abs)
theorem zK.inj:∀ {xs ys:List V} {us:List Value},zK xs us->zK ys us->xs = ys
 | _,_,_,.nil,.nil=>rfl
 | _,_,_,.cons r t,.cons r' t'=>by rw [r.inj r',zK.inj t t']
section
variable {X:Cx} {pins:List (Addr × Obj)} {σ : St} {H:Hp} {s:Shared} {a:Addr} {xs ys:List V}
theorem SqL.of {K:Frag} (h:H a = some (.lst xs)):SqL K H a xs:=.inl (.inl h)
theorem SqT.of {K:Frag} (h:H a = some (.tup xs)):SqT K H a xs:=.inl (.inl h)
theorem Inv.list (I:Inv X pins σ H s) (h:SqL X.K H a xs):∃ its:List Value,zK xs its/\PlainL s.heap a its.toArray/\xs.length<=sizeLine:=by
 rcases h with h | ⟨o,its,n,hk,hc,hd,hs,hz,r⟩
 ·obtain ⟨z,its,n,r,e⟩:=h.ok I.hok
  exact ⟨its,r,⟨_,n,e,rfl,rfl,rfl⟩,z⟩
 ·refine ⟨its.toList,r,⟨o,n,I.kIn a o hk,hc,hd,by simpa using hs⟩,?_⟩
  have e:=r.length
  simp only [Array.length_toList] at e
  omega
theorem Inv.tuple (I:Inv X pins σ H s) (h:SqT X.K H a xs):∃ its:List Value,zK xs its/\IsTup s.heap a its.toArray/\xs.length<=sizeLine:=by
 rcases h with h | ⟨o,its,n,hk,hc,hs,hz,r⟩
 ·obtain ⟨z,its,r,p⟩:=h.ok I.hok
  exact ⟨its,r,p,z⟩
 ·refine ⟨its.toList,r,⟨o,I.kIn a o hk,hc,n,by simpa using hs⟩,?_⟩
  have e:=r.length
  simp only [Array.length_toList] at e
  omega
theorem Inv.list_inj (I:Inv X pins σ H s) (h:SqL X.K H a xs) (h':SqL X.K H a ys):xs = ys:=by
 obtain ⟨its,r,⟨o,n,e,_,_,d⟩,_⟩:=I.list h
 obtain ⟨its',r',⟨o',n',e',_,_,d'⟩,_⟩:=I.list h'
 rw [e] at e'; cases e'
 rw [d] at d'
 injection d' with d1 _
 have:its = its':=by simpa using congrArg Array.toList d1
 subst this
 exact r.inj r'
end
abbrev Cx.wish (X:Cx) (E:Value->Shared->Prop):Cx:={ X with xe:=E }
abbrev Cx.nox (X:Cx):Cx:=X.wish fun _ _=>False
theorem Cx.Ok.wish {X:Cx} (ok:X.Ok) (E:Value->Shared->Prop):(X.wish E).Ok:=
 ⟨ok.mod,ok.kind,ok.glob,ok.blt,ok.above,ok.inj,ok.has,ok.cab,ok.hd,ok.frames,ok.stk,ok.exf,ok.bs,ok.bsz,ok.noex,ok.exfs,ok.funs,ok.frf⟩
theorem Cx.Ok.unwish {X:Cx} {E:Value->Shared->Prop} (ok:(X.wish E).Ok):X.Ok:=
 ⟨ok.mod,ok.kind,ok.glob,ok.blt,ok.above,ok.inj,ok.has,ok.cab,ok.hd,ok.frames,ok.stk,ok.exf,ok.bs,ok.bsz,ok.noex,ok.exfs,ok.funs,ok.frf⟩
section
variable {X:Cx} {pins:List (Addr × Obj)} {σ : St} {H:Hp} {s:Shared} {E:Value->Shared->Prop}
theorem Inv.wish (I:Inv X pins σ H s) (E:Value->Shared->Prop):Inv (X.wish E) pins σ H s:=⟨I.ok.wish E,I.os,I.bare,I.base,I.loc,I.cell,I.free,I.freeC,I.pin,I.hok,I.len⟩
theorem Inv.unwish (I:Inv (X.wish E) pins σ H s):Inv X pins σ H s:=⟨I.ok.unwish,I.os,I.bare,I.base,I.loc,I.cell,I.free,I.freeC,I.pin,I.hok,I.len⟩
theorem SP.unwish {D:jh} {f:Flow} {s':Shared} (h:SP (X.wish E) pins D f s'):SP X pins D f s':=by
 cases f with
 | next=>obtain ⟨σ',H',I,q⟩:=h; exact ⟨σ',H',I.unwish,q⟩
 | brk=>obtain ⟨σ',H',I,q⟩:=h; exact ⟨σ',H',I.unwish,q⟩
 | cont=>obtain ⟨σ',H',I,q⟩:=h; exact ⟨σ',H',I.unwish,q⟩
 | ret u=>obtain ⟨v,σ',H',I,r,q⟩:=h; exact ⟨v,σ',H',I.unwish,r,q⟩
theorem PSs.nox {st:List Stmt} {t:TS} (h:PSs X.nox st t):PSs X st t:=⟨fun pins s σ H D I hw=>
 wpAny_mono (h pins s σ H D (I.wish _) hw) (fun _ _ q=>q.unwish) fun _ _ z=>False.elim z⟩
end
section
variable {X:Cx} {st:Stmt} {qu:List Stmt} {t u:TS} {e:Expr} {te:TE} {pos:Pos}
def zi2:TS:=fun D σ H=>D.nx σ H
def xY (t u:TS):TS:=fun D σ H=>t { D with nx:=u D } σ H
theorem zA:PSs X [] zi2:=⟨fun _ _ σ H _ I h=>wpAny_execs_nil ⟨σ,H,I,h⟩⟩
theorem zd (h1:PS X st t) (h2:PSs X qu u):PSs X (st :: qu) (xY t u):=by
 refine ⟨?_⟩
 intro pins s σ H D I h
 refine wpAny_execs_cons (thn (h1 pins s σ H { D with nx:=u D } I h) fun f s1 q=>?_)
 cases f with
 | next=>
  obtain ⟨σ',H',I',q⟩:=q
  exact h2 pins s1 σ' H' D I' q
 | ret v=>exact q
 | brk=>exact q
 | cont=>exact q
theorem zh (h1:PS X st t):PSs X [st] t:=by
 refine ⟨?_⟩
 intro pins s σ H D I h
 refine wpAny_execs_cons (thn (h1 pins s σ H D I h) fun f s1 q=>?_)
 cases f with
 | next=>exact wpAny_execs_nil q
 | ret v=>exact q
 | brk=>exact q
 | cont=>exact q
theorem Inv.quiet {pins:List (Addr × Obj)} {σ : St} {H:Hp} {s:Shared} (I:Inv X pins σ H s):interactive X.env = false:=by simp [interactive,I.ok.kind]
def zi4 (te:TE):TS:=fun D σ H=>te σ H fun _ H1=>D.nx σ H1
theorem zE (he:PE X e te) (hs:swapsWith e none pos.line X.env = pure false:=by rfl):PS X (.Expr e pos) (zi4 te):=by
 refine ⟨?_⟩
 intro pins s σ H D I h
 exact wpAny_Expr_any (thn (he pins s σ H _ I h) fun v s1 ⟨x,H1,I1,r1,q1⟩=>⟨σ,H1,I1,q1⟩) I.quiet hs
def zjQ (te:TE):TS:=fun D σ H=>te σ H D.rt
theorem zw (he:PE X e te):PS X (.Return (some e) pos) (zjQ te):=by
 refine ⟨?_⟩
 intro pins s σ H D I h
 exact wpAny_Return_some (thn (he pins s σ H _ I h) fun v s1 ⟨x,H1,I1,r1,q1⟩=>⟨x,σ,H1,I1,r1,q1⟩)
def zjU (c:TT) (t u:TS):TS:=fun D σ H=>c σ H fun b H1=>if b = true then t D σ H1 else u D σ H1
theorem zJ {c:Expr} {a b:List Stmt} {tc:TT} (hc:PT X c tc) (ha:PSs X a t) (hb:PSs X b u):PS X (.If c a b pos) (zjU tc t u):=by
 refine ⟨?_⟩
 intro pins s σ H D I h
 refine wpAny_If (thn (hc pins s σ H _ I h) fun d s1 ⟨H1,I1,q1⟩=>?_)
 cases d with
 | true=>exact ha pins s1 σ H1 D I1 q1
 | false=>exact hb pins s1 σ H1 D I1 q1
end
abbrev TG:=V->St->Hp->(St->Hp->Prop)->Prop
abbrev TGs:=List V->St->Hp->(St->Hp->Prop)->Prop
structure PG (X:Cx) (target:Expr) (t:TG):Prop where
 run:∀ (pins:List (Addr × Obj)) (s:Shared) (σ : St) (H:Hp) (v:V) (u:Value) (Q:St->Hp->Prop),Inv X pins σ H s->zO v u->t v σ H Q->
  wpAny (model X.prog X.w) X.A (assign target X.env u) (fun _ s'=>∃ σ' H',Inv X pins σ' H' s'/\Q σ' H') X.xe s
instance {X:Cx} {target:Expr} {t:TG}:CoeFun (PG X target t) (fun _=>∀ (pins:List (Addr × Obj)) (s:Shared) (σ : St) (H:Hp) (v:V) (u:Value) (Q:St->Hp->Prop),Inv X pins σ H s->zO v u->t v σ H Q->
  wpAny (model X.prog X.w) X.A (assign target X.env u) (fun _ s'=>∃ σ' H',Inv X pins σ' H' s'/\Q σ' H') X.xe s):=⟨PG.run⟩
structure PGs (X:Cx) (ts:List Expr) (t:TGs):Prop where
 run:∀ (pins:List (Addr × Obj)) (s:Shared) (σ : St) (H:Hp) (vs:List V) (us:List Value) (Q:St->Hp->Prop),Inv X pins σ H s->zK vs us->t vs σ H Q->
  wpAny (model X.prog X.w) X.A (assignInOrder ((assignEach ts X.env).map (·.2)) us) (fun _ s'=>∃ σ' H',Inv X pins σ' H' s'/\Q σ' H') X.xe s
instance {X:Cx} {ts:List Expr} {t:TGs}:CoeFun (PGs X ts t) (fun _=>∀ (pins:List (Addr × Obj)) (s:Shared) (σ : St) (H:Hp) (vs:List V) (us:List Value) (Q:St->Hp->Prop),Inv X pins σ H s->zK vs us->t vs σ H Q->
  wpAny (model X.prog X.w) X.A (assignInOrder ((assignEach ts X.env).map (·.2)) us) (fun _ s'=>∃ σ' H',Inv X pins σ' H' s'/\Q σ' H') X.xe s):=⟨PGs.run⟩
abbrev ziO:=V->V->V->Hp->(Hp->Prop)->Prop
def zjM (X:Cx) (t:ziO):Prop:=
 ∀ (pins:List (Addr × Obj)) (s:Shared) (σ : St) (H:Hp) (o i v:V) (ov iv u:Value) (Q:Hp->Prop),Inv X pins σ H s->zO o ov->zO i iv->zO v u->t o i v H Q->
  wpAny (model X.prog X.w) X.A (setItem ov iv u) (fun _ s'=>∃ H',Inv X pins σ H' s'/\Q H') X.xe s
section
variable {X:Cx} {pos:Pos}
def yg (i:Nat):TG:=fun v σ H Q=>Q (σ.set i (some v)) H
theorem zk {i:Nat} {x:Str} (hN:X.N.Nodup) (hi:X.N[i]? = some x) (hx:Loc X.env.scope x) (hf:X.fn x = true\/X.env.scope.names.lookup x = some .local:=by first | exact .inl rfl | exact .inr rfl | assumption):PG X (.Name x pos) (yg i):=by
 refine ⟨?_⟩
 intro pins s σ H v u Q I r h
 exact wpAny_assign_Name (zbd I hN hi hx r (fun s' I'=>⟨_,H,I',h⟩) hf)
def zjG:TGs:=fun vs σ H Q=>vs = []/\Q σ H
def zf3 (t:TG) (u:TGs):TGs:=fun vs σ H Q=>∃ v r,vs = v :: r/\t v σ H fun σ' H'=>u r σ' H' Q
theorem zV:PGs X [] zjG:=by
 refine ⟨?_⟩
 intro pins s σ H vs us Q I r h
 obtain ⟨e,h⟩:=h
 subst e
 cases r
 exact assignInOrder_nil ⟨σ,H,I,h⟩
theorem zt {e:Expr} {es:List Expr} {t:TG} {u:TGs} (h1:PG X e t) (h2:PGs X es u)
  (hs:(assignEach (e :: es) X.env).map (·.2) = assign e X.env :: (assignEach es X.env).map (·.2):=by rfl):PGs X (e :: es) (zf3 t u):=by
 refine ⟨?_⟩
 intro pins s σ H vs us Q I r h
 obtain ⟨v,vr,e1,h⟩:=h
 subst e1
 cases r with
 | cons r rr=>
  rw [hs]
  refine assignInOrder_cons (thn (h1 pins s σ H _ _ _ I r h) fun _ s1 ⟨σ1,H1,I1,q1⟩=>?_)
  exact h2 pins s1 σ1 H1 _ _ Q I1 rr q1
def zjF (K:Frag) (n:Nat) (t:TGs):TG:=fun v σ H Q=>∃ a xs,v = .ref a/\SqT K H a xs/\xs.length = n/\t xs σ H Q
theorem yc {es:List Expr} {k:Nat} {t:TGs} {n:Nat} (hc:X.calm = true) (h:PGs X es t)
  (hn:(assignEach es X.env).length = n:=by rfl) (hst:(assignEach es X.env).findIdx? (·.1) = none:=by rfl):PG X (.Tuple es k pos) (zjF X.K n t):=by
 refine ⟨?_⟩
 intro pins s σ H v u Q I r hw
 obtain ⟨a,xs,e1,hq,hl,hw⟩:=hw
 subst e1
 cases r
 obtain ⟨its,rv,ht,hz⟩:=I.tuple hq
 refine assign_Tuple_tuple (I.ok.hd hc) ht (by simp [hn,<- hl,rv.length]) hst fun h' hx=>?_
 have I1:Inv X pins σ H { s with heap:=h' }:=I.kept (t':=s.toks) fun b o e=>hx b o (Nat.ne_of_lt (Heap.lt_size e)) e
 exact h pins _ σ H xs _ Q I1 (by simpa using rv) hw
def zks (to ti:TE) (t:ziO):TG:=fun v σ H Q=>to σ H fun o H1=>ti σ H1 fun i H2=>t o i v H2 fun H3=>Q σ H3
theorem ze6 {o i:Expr} {to ti:TE} {t:ziO} (ho:PE X o to) (hi:PE X i ti) (hs:zjM X t)
  (ha:∀ v,assign (.Subscript o i pos) X.env v = (do
   let ov <- holding [v] (eval o X.env)
   let iv <- holding [v,ov] (eval i X.env)
   standAt pos
   holding [v,ov,iv] (setItem ov iv v)
   release [v,ov,iv] []):=by intro _; rfl):PG X (.Subscript o i pos) (zks to ti t):=by
 refine ⟨?_⟩
 intro pins s σ H v u Q I r h
 rw [ha]
 refine wpAny_bind (wpAny_holding (thn (ho pins s σ H _ I h) fun ov s1 ⟨x,H1,I1,r1,q1⟩=>?_))
 refine wpAny_bind (wpAny_holding (thn (hi pins s1 σ H1 _ I1 q1) fun iv s2 ⟨y,H2,I2,r2,q2⟩=>?_))
 refine wpAny_bind (wpAny_standAt (wpAny_bind (wpAny_holding (thn (hs pins s2 σ H2 x y v ov iv u _ I2 r1 r2 r q2) fun _ s3 ⟨H3,I3,q3⟩=>?_))))
 exact wpAny_release ⟨σ,H3,I3,q3⟩
def zhO (te:TE) (g:TG):TS:=fun D σ H=>te σ H fun x H1=>g x σ H1 D.nx
theorem wg {tg e:Expr} {te:TE} {g:TG} (he:PE X e te) (hg:PG X tg g) (hs:swapsWithSole [tg] e pos.line X.env = pure false:=by rfl) (hw:swappedStores [tg] e X.env = pure none:=by rfl)
  (h1:(assignEach [tg] X.env).map (·.2) = [assign tg X.env]:=by rfl):PS X (.Assign [tg] e pos) (zhO te g):=by
 refine ⟨?_⟩
 intro pins s σ H D I h
 refine wpAny_Assign_stores (thn (he pins s σ H _ I h) fun v s1 ⟨x,H1,I1,r1,q1⟩=>?_) hs hw
 rw [h1]
 exact thn (hg pins s1 σ H1 x v _ I1 r1 q1) fun _ s2 q=>q
theorem zv {i:Nat} {x:Str} {e:Expr} {te:TE} {pos':Pos} (hN:X.N.Nodup) (hi:X.N[i]? = some x) (hx:Loc X.env.scope x) (he:PE X e te) (hs:swapsWith e (some (.Name x pos')) pos.line X.env = pure false:=by rfl) (hf:X.fn x = true\/X.env.scope.names.lookup x = some .local:=by first | exact .inl rfl | exact .inr rfl | assumption) :
  PS X (.Assign [.Name x pos'] e pos) (zhO te (yg i)):=by
 refine ⟨?_⟩
 intro pins s σ H D I h
 refine wpAny_Assign_Name (thn (he pins s σ H _ I h) fun v s1 ⟨y,H1,I1,r1,q1⟩=>?_) hs
 exact zbd I1 hN hi hx r1 (fun s2 I2=>⟨_,H1,I2,q1⟩) hf
def zhH (c:TT) (tb:TS):TS:=fun D σ H=>∃ W:Nat->St->Hp->Prop,(∃ m,W m σ H)/\∀ m σ H,W m σ H->
 c σ H fun b H1=>if b = true then ∃ N:St->Hp->Prop,(∀ σ' H',N σ' H'->∃ m',m' < m/\W m' σ' H')/\tb { D with nx:=N,ct:=N,bk:=D.nx } σ H1 else D.nx σ H1
theorem zeY {c:Expr} {body:List Stmt} {tc:TT} {tb:TS} (hp:PassesOwn (model X.prog X.w) X.A X.env X.xe) (hc:PT X c tc) (hb:PSs X body tb):PS X (.While c body [] pos) (zhH tc tb):=by
 refine ⟨?_⟩
 intro pins s σ H D I h
 obtain ⟨W,⟨m0,w0⟩,turn⟩:=h
 refine wpAny_While (codeAny_whileLoop (fun n s'=>∃ σ' H',Inv X pins σ' H' s'/\W n σ' H') ?_ m0 ⟨σ,H,I,w0⟩)
 rintro n s1 ⟨σ1,H1,I1,w1⟩
 refine wpAny_passesOwn hp (thn (hc pins s1 σ1 H1 _ I1 (turn n σ1 H1 w1)) fun b s2 ⟨H2,I2,q2⟩=>?_)
 cases b with
 | true=>
  obtain ⟨N,hN,q2⟩:=q2
  rw [if_pos rfl]
  refine wpAny_passesOwn hp (thn (hb pins s2 σ1 H2 _ I2 q2) fun f s3 q3=>?_)
  cases f with
  | next=>
   obtain ⟨σ3,H3,I3,n3⟩:=q3
   obtain ⟨m',hm,w3⟩:=hN σ3 H3 n3
   exact ⟨m',hm,σ3,H3,I3,w3⟩
  | cont=>
   obtain ⟨σ3,H3,I3,n3⟩:=q3
   obtain ⟨m',hm,w3⟩:=hN σ3 H3 n3
   exact ⟨m',hm,σ3,H3,I3,w3⟩
  | brk=>exact q3
  | ret v=>exact q3
 | false=>
  rw [if_neg Bool.false_ne_true]
  exact wpAny_execs_nil ⟨σ1,H2,I2,q2⟩
end
structure It where
 go:Nat->Hp->Prop
 yld:Nat->Hp->V->Hp->Prop
 stop:Nat->Hp->Prop
def vk (X:Cx) (pins:List (Addr × Obj)) (H:Hp) (b:Addr):Prop:=
 H b = none/\b ≠ X.env.locals/\b ∉ X.fs/\(b ∈ X.ex\/X.s₀.heap.objs.size<=b)/\(∀ x c,X.env.cells.lookup x = some c->c ≠ b)/\∀ p ∈ X.pn ++ pins,p.1 ≠ b
theorem Inv.fpOk {X:Cx} {pins:List (Addr × Obj)} {σ : St} {H H':Hp} {s:Shared} {b:Addr} (I:Inv X pins σ H s) (hb:s.heap.objs.size<=b) (hn:H' b = none):vk X pins H' b:=by
 refine ⟨hn,Nat.ne_of_gt (Nat.lt_of_lt_of_le I.lt hb),I.nofs hb,.inr (Nat.le_trans I.sz hb),fun x c e z=>?_,fun p hp z=>?_⟩
 ·obtain ⟨v,q⟩:=I.cell x c e
  exact absurd (Nat.lt_of_lt_of_le q.lt (by rw [z]; exact hb)) (Nat.lt_irrefl _)
 ·exact absurd (Nat.lt_of_lt_of_le (Heap.lt_size (I.pin p hp).1) (by rw [z]; exact hb)) (Nat.lt_irrefl _)
structure za3 (P:Program) (w:World) (K:Frag) (tg:Expr) (J:It) (fp:List Addr) (it:Addr) (tn:Nat->Heap->Prop):Prop where
 mem:it ∈ fp
 obj:∀ i h,tn i h->∀ b ∈ fp,∃ o,h.get? b = some o/\∀ v,o.data ≠ .cell v
 keep:∀ i h h',tn i h->(∀ b ∈ fp,∀ o,h.get? b = some o->h'.get? b = some o)->tn i h'
 item:∀ (X:Cx),X.prog = P->X.w = w->X.K = K->X.calm = true->∀ (i:Nat) (pins:List (Addr × Obj)) (s:Shared) (σ : St) (H:Hp) (E:Value->Shared->Prop),Inv X pins σ H s->(∀ b ∈ fp,vk X pins H b)->tn i s.heap->J.go i H->
  wpAny (model P w) X.A (pyNext (.ref it)) (fun r s1=>∃ u,r = some u/\
   wpAny (model P w) X.A (letOwnedTupleGo tg (.ref it) u) (fun _ s2=>∃ x H',Inv X pins σ H' s2/\zO x u/\J.yld i H x H'/\tn (i + 1) s2.heap/\∀ b ∈ fp,H' b = none) E s1) E s
 done:∀ (X:Cx),X.prog = P->X.w = w->X.K = K->X.calm = true->∀ (i:Nat) (pins:List (Addr × Obj)) (s:Shared) (σ : St) (H:Hp) (E:Value->Shared->Prop),Inv X pins σ H s->(∀ b ∈ fp,vk X pins H b)->tn i s.heap->J.stop i H->
  wpAny (model P w) X.A (pyNext (.ref it)) (fun r s1=>r = none/\Inv X pins σ H s1) E s
 self:∀ (A:Around) (i:Nat) (s:Shared) (Q:Value->Shared->Prop) (E:Value->Shared->Prop),tn i s.heap->Q (.ref it) s->wpAny (model P w) A (pyIter (.ref it)) Q E s
abbrev TI:=St->Hp->(It->Hp->Prop)->Prop
def PIE (X:Cx) (pins:List (Addr × Obj)) (σ : St) (tg:Expr) (R:It->Hp->Prop) (itv:Value) (s2:Shared):Prop:=
 ∃ (it:Addr) (fp:List Addr) (tn:Nat->Heap->Prop) (J:It) (H':Hp),itv = .ref it/\Inv X pins σ H' s2/\za3 X.prog X.w X.K tg J fp it tn/\tn 0 s2.heap/\(∀ b ∈ fp,vk X pins H' b)/\R J H'
structure PI (X:Cx) (tg iter:Expr) (wi:TI):Prop where
 run:∀ (pins:List (Addr × Obj)) (s:Shared) (σ : St) (H:Hp) (R:It->Hp->Prop),Inv X pins σ H s->wi σ H R->
  wpAny (model X.prog X.w) X.A (eval iter X.env) (fun v s1=>wpAny (model X.prog X.w) X.A (pyIter v) (PIE X pins σ tg R) X.xe s1) X.xe s
instance {X:Cx} {tg iter:Expr} {wi:TI}:CoeFun (PI X tg iter wi) (fun _=>∀ (pins:List (Addr × Obj)) (s:Shared) (σ : St) (H:Hp) (R:It->Hp->Prop),Inv X pins σ H s->wi σ H R->
  wpAny (model X.prog X.w) X.A (eval iter X.env) (fun v s1=>wpAny (model X.prog X.w) X.A (pyIter v) (PIE X pins σ tg R) X.xe s1) X.xe s):=⟨PI.run⟩
theorem zdr {M:Model} {A:Around} {E:Value->Shared->Prop} {s:Shared} {tg:Expr} {it:Addr} {u:Value} {o:Obj} {n:String} {vs:Array Value} {Q:Unit->Shared->Prop} (ho:s.heap.get? it = some o) (hc:o.cls = .type n) (hd:o.data = .fields vs)
  (hn:["enumerate","zip","dict_itemiterator","dict_reverseitemiterator","odict_iterator","itertools.zip_longest","itertools.pairwise"].contains n = false) (hQ:Q () s):wpAny M A (letOwnedTupleGo tg (.ref it) u) Q E s:=by
 unfold letOwnedTupleGo
 cases tg <;> first
  | exact wpAny_pure hQ
  | (cases u <;> first
    | exact wpAny_pure hQ
    | (refine wpAny_bind (wpAny_load ho ?_)
       rw [hc,hd]
       show wpAny M A (if (["enumerate","zip","dict_itemiterator","dict_reverseitemiterator","odict_iterator","itertools.zip_longest","itertools.pairwise"].contains n && vs[0]? == some (rawInt _)) = true then _ else _) Q E s
       rw [if_neg (by intro h; rw [hn,Bool.false_and] at h; cases h)]
       exact wpAny_pure hQ))
def Itl (K:Frag) (a:Addr):It:=
 ⟨fun i H=>∃ xs x,SqL K H a xs/\xs[i]? = some x,fun i H x H'=>H' = H/\∀ xs,SqL K H a xs->xs[i]? = some x,fun i H=>∃ xs,SqL K H a xs/\xs.length<=i⟩
def Itr (lo:Int) (n:Nat):It:=⟨fun i _=>i < n,fun i H x H'=>H' = H/\x = .int (lo + i),fun i _=>n<=i⟩
theorem zdK {P:Program} {w:World} {K:Frag} {tg:Expr} (a it:Addr):za3 P w K tg (Itl K a) [it] it (fun i h=>h.IsListIter it a i) where
 mem:=by simp
 obj:=fun i h st b hb=>by
  have e:b = it:=by simpa using hb
  subst e
  obtain ⟨o,e,c,d⟩:=st
  exact ⟨o,e,fun v z=>by rw [d] at z; cases z⟩
 keep:=fun i h h' st k=>st.at fun o e=>k it (by simp) o e
 item:=by
  intro X hP hw hK hc i pins s σ H E I hf st hg
  subst hP hw hK
  obtain ⟨xs,x,hq,hx⟩:=hg
  obtain ⟨its,rv,p,hz⟩:=I.list hq
  obtain ⟨u,hu,ru⟩:=rv.get hx
  obtain ⟨f0,f1,f2,f3,f4,f5⟩:=hf it (by simp)
  refine wpAny_pyNext_list_item st p.isList (x:=u) (by simpa using hu) fun h' st' sb=>?_
  have I1:Inv X pins σ H { s with heap:=h' }:=I.turned (t':=s.toks) (fun b o hb e=>(sb.2 b hb).trans e) f0 f1 f3 f4 f5
  obtain ⟨o,e,c,d⟩:=id st'
  exact ⟨u,rfl,zdr (s:={ s with heap:=h' }) e c d (by decide) ⟨x,H,I1,ru,⟨rfl,fun ys hy=>by rw [I.list_inj hy hq]; exact hx⟩,st',fun b hb=>(hf b hb).1⟩⟩
 done:=by
  intro X hP hw hK hc i pins s σ H E I hf st hg
  subst hP hw hK
  obtain ⟨xs,hq,hx⟩:=hg
  obtain ⟨its,rv,p,hz⟩:=I.list hq
  obtain ⟨f0,f1,f2,f3,f4,f5⟩:=hf it (by simp)
  have hl:=rv.length
  exact wpAny_pyNext_list_end (I.ok.hd hc) st p.isList (by simp; omega) fun h' eb=>⟨rfl,I.turned (t':=s.toks) (fun b o hb e=>eb b o hb e) f0 f1 f3 f4 f5⟩
 self:=fun _ _ _ _ _ st h=>wpAny_pyIter_listiter st h
theorem zb5 {P:Program} {w:World} {K:Frag} {tg:Expr} (it:Addr) (lo:Int) (n:Nat):za3 P w K tg (Itr lo n) [it] it (fun i h=>IsRangeIter h it (lo + (i:Nat) * 1) ((n:Int) - (i:Nat)) 1) where
 mem:=by simp
 obj:=fun i h st b hb=>by
  have e:b = it:=by simpa using hb
  subst e
  exact ⟨_,st,fun v z=>by
   have z':Data.fields _ = Data.cell v:=z
   cases z'⟩
 keep:=fun i h h' st k=>k it (by simp) _ st
 item:=by
  intro X hP hw hK hc i pins s σ H E I hf st hg
  subst hP hw hK
  obtain ⟨f0,f1,f2,f3,f4,f5⟩:=hf it (by simp)
  have W:=Walks.range (prog:=X.prog) (w:=X.w) (I.ok.hd hc) it lo 1 n
  refine W.item i s _ _ hg st fun v h' tk hv st' kk=>?_
  obtain ⟨t,rfl⟩:=hv
  have I1:Inv X pins σ H { s with heap:=h',toks:=tk }:=I.turned (fun b o hb e=>kk b o (by simpa using hb) e) f0 f1 f3 f4 f5
  refine ⟨_,rfl,zdr (s:={ s with heap:=h',toks:=tk }) (n:="range_iterator") st' rfl rfl (by decide) ⟨.int (lo + i),H,I1,⟨t,?_⟩,⟨rfl,rfl⟩,st',fun b hb=>(hf b hb).1⟩⟩
  rw [Int.mul_one]
 done:=by
  intro X hP hw hK hc i pins s σ H E I hf st hg
  subst hP hw hK
  obtain ⟨f0,f1,f2,f3,f4,f5⟩:=hf it (by simp)
  exact wpAny_pyNext_range_end (I.ok.hd hc) st (by have:n<=i:=hg; omega) fun h' eb=>⟨rfl,I.turned (t':=s.toks) (fun b o hb e=>eb b o hb e) f0 f1 f3 f4 f5⟩
 self:=fun _ _ _ _ _ st h=>wpAny_pyIter_rangeiter st h
section
variable {X:Cx} {tg:Expr}
def zjD (K:Frag) (tl:TE):TI:=fun σ H R=>tl σ H fun x H1=>∃ a,x = .ref a/\(∃ xs,SqL K H1 a xs)/\R (Itl K a) H1
theorem yH {l:Expr} {tl:TE} (hl:PE X l tl):PI X tg l (zjD X.K tl):=by
 refine ⟨?_⟩
 intro pins s σ H R I h
 refine thn (hl pins s σ H _ I h) fun v s1 ⟨x,H1,I1,r1,q1⟩=>?_
 obtain ⟨a,e,⟨xs,hq⟩,q⟩:=q1
 subst e
 cases r1
 obtain ⟨its,rv,p,hz⟩:=I1.list hq
 refine wpAny_pyIter_list p.isList ?_
 refine ⟨s1.heap.objs.size,[s1.heap.objs.size],_,_,H1,rfl,I1.kept (t':=s1.toks) fun b o e=>Heap.get?_push_of_some _ e,zdK a _,⟨_,Heap.get?_push_size _ rfl,rfl,rfl⟩,fun b hb=>?_,q⟩
 have e:b = s1.heap.objs.size:=by simpa using hb
 subst e
 exact I1.fpOk (Nat.le_refl _) (I1.hok.fresh (Nat.le_refl _))
theorem zbm {pins:List (Addr × Obj)} {σ : St} {H:Hp} {s:Shared} {R:It->Hp->Prop} {E:Value->Shared->Prop} {lo hi:Int} {t u v:Tok} {tk:Nat} (I:Inv X pins σ H s) (h1 : -(2 ^ 62)<=lo) (h2:lo < 2 ^ 62) (h3 : -(2 ^ 62)<=hi) (h4:hi < 2 ^ 62)
  (q:R (Itr lo (hi - lo).toNat) H):wpAny (model X.prog X.w) X.A (pyIter (.ref s.heap.objs.size)) (PIE X pins σ tg R) E { s with heap:=s.heap.push { cls:=.type "range",data:=.fields #[.int lo t,.int hi u,.int 1 v] },toks:=tk }:=by
 refine wpAny_pyIter_range (IsRange.new ..) (small_one h1 h2 h3 h4) ?_
 have I1:Inv X pins σ H { s with heap:=s.heap.push { cls:=.type "range",data:=.fields #[.int lo t,.int hi u,.int 1 v] },toks:=tk }:=I.kept fun b o e=>Heap.get?_push_of_some _ e
 refine ⟨(s.heap.push { cls:=.type "range",data:=.fields #[.int lo t,.int hi u,.int 1 v] }).objs.size,[(s.heap.push { cls:=.type "range",data:=.fields #[.int lo t,.int hi u,.int 1 v] }).objs.size],_,_,H,rfl,
  I1.kept (t':=tk) fun b o e=>Heap.get?_push_of_some _ e,zb5 _ lo (hi - lo).toNat,?_,fun b hb=>?_,q⟩
 ·have e1:lo + ((0:Nat):Int) * 1 = lo:=by simp
  have e2:(((hi - lo).toNat:Nat):Int) - ((0:Nat):Int) = Builtin.Range.rangeSize lo hi 1:=by rw [rangeSize_one]; split <;> omega
  show IsRangeIter _ _ (lo + ((0:Nat):Int) * 1) ((((hi - lo).toNat:Nat):Int) - ((0:Nat):Int)) 1
  rw [e1,e2]
  exact Heap.get?_push_size _ rfl
 ·have e:b = (s.heap.push { cls:=.type "range",data:=.fields #[.int lo t,.int hi u,.int 1 v] }).objs.size:=by simpa using hb
  subst e
  exact I1.fpOk (Nat.le_refl _) (I1.hok.fresh (Nat.le_refl _))
def zjC (ta:TA):TI:=fun σ H R=>ta σ H fun vs H1=>∃ j:Int,vs = [.int j]/\-(2 ^ 62)<=j/\j < 2 ^ 62/\R (Itr 0 j.toNat) H1
def zjB (ta:TA):TI:=fun σ H R=>ta σ H fun vs H1=>∃ i j:Int,vs = [.int i,.int j]/\(-(2 ^ 62)<=i/\i < 2 ^ 62/\-(2 ^ 62)<=j/\j < 2 ^ 62)/\R (Itr i (j - i).toNat) H1
theorem yu {a:Expr} {ta:TA} {p pos:Pos} (hg:Gl X "range") (hm:X.mg "range" = none) (ha:PA X [a] ta) (hs:starEach [a] X.env = [(false,eval a X.env)]:=by rfl):PI X tg (.Call (.Name "range" p) [a] [] pos) (zjC ta):=by
 refine ⟨?_⟩
 intro pins s σ H R I h
 refine Call_ (vg I hg hm boot_range (PyProof.Rows.callWith_type1 (thn (ha pos pins s σ H _ I h) fun us s1 ⟨vs,H1,I1,r1,q1⟩=>?_) hs rfl))
 obtain ⟨j,e,q1,q2,q⟩:=q1
 subst e
 cases r1 with
 | cons r rr=>
  cases rr
  obtain ⟨t,rfl⟩:=r
  exact call_range_1 (zbm I1 (by omega) (by omega) q1 q2 (by simpa using q))
theorem zd1 {a b:Expr} {ta:TA} {p pos:Pos} (hg:Gl X "range") (hm:X.mg "range" = none) (ha:PA X [a,b] ta) (hs:starEach [a,b] X.env = [(false,eval a X.env),(false,eval b X.env)]:=by rfl) (hs2:starEach [b] X.env = [(false,eval b X.env)]:=by rfl) :
  PI X tg (.Call (.Name "range" p) [a,b] [] pos) (zjB ta):=by
 refine ⟨?_⟩
 intro pins s σ H R I h
 refine Call_ (vg I hg hm boot_range (PyProof.Rows.callWith_type1 (thn (ha pos pins s σ H _ I h) fun us s1 ⟨vs,H1,I1,r1,q1⟩=>?_) (by rw [hs,hs2]) (by rw [hs2]; rfl)))
 obtain ⟨i,j,e,⟨q1,q2,q3,q4⟩,q⟩:=q1
 subst e
 cases r1 with
 | cons r rr=>
  cases rr with
  | cons r' rr=>
   cases rr
   obtain ⟨t,rfl⟩:=r
   obtain ⟨t',rfl⟩:=r'
   exact call_range_2 (zbm I1 q1 q2 q3 q4 q)
def zjW (wi:TI) (g:TG) (tb:TS):TS:=fun D σ H=>wi σ H fun J H1=>∃ W:Nat->Nat->St->Hp->Prop,(∃ m,W 0 m σ H1)/\∀ i m σ H,W i m σ H->
 (J.stop i H/\D.nx σ H)\/(J.go i H/\∃ N:St->Hp->Prop,(∀ σ' H',N σ' H'->∃ m',m' < m/\W (i + 1) m' σ' H')/\∀ x H',J.yld i H x H'->g x σ H' fun σ2 H2=>tb { D with nx:=N,ct:=N,bk:=D.nx } σ2 H2)
def u7 (fp:List Addr) (h:Heap):List (Addr × Obj):=fp.filterMap fun b=>(h.get? b).map fun o=>(b,o)
theorem xy {fp:List Addr} {h:Heap} {b:Addr} {o:Obj} (hb:b ∈ fp) (e:h.get? b = some o):(b,o) ∈ u7 fp h:=List.mem_filterMap.mpr ⟨b,hb,by rw [e]; rfl⟩
theorem zea {fp:List Addr} {h:Heap} {p:Addr × Obj} (hp:p ∈ u7 fp h):p.1 ∈ fp/\h.get? p.1 = some p.2:=by
 obtain ⟨b,hb,e⟩:=List.mem_filterMap.mp hp
 cases q:h.get? b with
 | none=>rw [q] at e; cases e
 | some o=>
  rw [q] at e
  have e':(b,o) = p:=Option.some.inj e
  subst e'
  exact ⟨hb,q⟩
theorem Inv.pinned {pins:List (Addr × Obj)} {σ : St} {H:Hp} {s:Shared} {fp:List Addr} (I:Inv X pins σ H s) (hf:∀ b ∈ fp,vk X pins H b) (ho:∀ b ∈ fp,∃ o,s.heap.get? b = some o/\∀ v,o.data ≠ .cell v):Inv X (pins ++ u7 fp s.heap) σ H s:=
 I.pins_of fun p hp=>(List.mem_append.mp hp).elim (fun z=>I.pin p (List.mem_append_right _ z)) fun z=>by
  obtain ⟨hb,e⟩:=zea z
  obtain ⟨f0,f1,f2,_⟩:=hf p.1 hb
  obtain ⟨o,e',d⟩:=ho p.1 hb
  rw [e] at e'; cases e'
  exact ⟨e,f0,f1,f2,d⟩
theorem Inv.unpinned {pins pl:List (Addr × Obj)} {σ : St} {H:Hp} {s:Shared} (I:Inv X (pins ++ pl) σ H s):Inv X pins σ H s:=I.pins_of fun p hp=>I.pin p (List.mem_append_right _ (List.mem_append_left _ hp))
theorem yE {iter:Expr} {body:List Stmt} {wi:TI} {g:TG} {tb:TS} {pos:Pos} (hp:PassesOwn (model X.prog X.w) X.A X.env X.xe) (hc:X.calm = true) (hi:PI X tg iter wi) (hg:PG X tg g) (hb:PSs X body tb)
  (hs:∀ x,foldedSetIterable iter X.env x = pure x:=by intro _; rfl):PS X (.For tg iter body [] pos) (zjW wi g tb):=by
 refine ⟨?_⟩
 intro pins s σ H D I h
 refine wpAny_For (thn (hi pins s σ H _ I h) fun v s1 h1=>thn h1 fun itv s2 h2=>?_) hs
 obtain ⟨it,fp,tn,J,H2,e,I2,T,st2,f2,W,⟨m0,w0⟩,turn⟩:=h2
 subst e
 have stat:∀ {H':Hp},(∀ b ∈ fp,H' b = none)->∀ b ∈ fp,vk X pins H' b:=fun hn b hb=>⟨hn b hb,(f2 b hb).2⟩
 refine codeAny_forLoop_any (fun n s'=>∃ i σ' H',Inv X pins σ' H' s'/\tn i s'.heap/\(∀ b ∈ fp,H' b = none)/\W i n σ' H') ?_ m0 ⟨0,σ,H2,I2,st2,fun b hb=>(f2 b hb).1,w0⟩
 rintro n s3 ⟨i,σ3,H3,I3,st3,fr3,w3⟩
 rcases turn i n σ3 H3 w3 with ⟨stop,qn⟩ | ⟨go,N,hN,step⟩
 ·refine wpAny_passesOwn hp (thn (T.done X rfl rfl rfl hc i pins s3 σ3 H3 X.xe I3 (stat fr3) st3 stop) fun r s4 ⟨hr,I4⟩=>?_)
  subst hr
  exact wpAny_execs_nil ⟨σ3,H3,I4,qn⟩
 ·refine wpAny_passesOwn hp (thn (T.item X rfl rfl rfl hc i pins s3 σ3 H3 X.xe I3 (stat fr3) st3 go) fun r s4 ⟨u,hr,h4⟩=>?_)
  subst hr
  refine wpAny_passesOwn hp (thn h4 fun _ s5 ⟨x,H5,I5,r5,y5,st5,fr5⟩=>?_)
  have I5':=I5.pinned (stat fr5) (T.obj _ _ st5)
  refine wpAny_passesOwn hp (thn (hg _ s5 σ3 H5 x u _ I5' r5 (step x H5 y5)) fun _ s6 ⟨σ6,H6,I6,q6⟩=>?_)
  refine wpAny_passesOwn hp (thn (hb _ s6 σ6 H6 _ I6 q6) fun f s7 q7=>?_)
  have again:∀ {σ7:St} {H7:Hp},Inv X (pins ++ u7 fp s5.heap) σ7 H7 s7->N σ7 H7->∃ m,m < n/\∃ i σ' H',Inv X pins σ' H' s7/\tn i s7.heap/\(∀ b ∈ fp,H' b = none)/\W i m σ' H':=fun {σ7 H7} I7 n7=>by
   obtain ⟨m',hm,w7⟩:=hN σ7 H7 n7
   refine ⟨m',hm,i + 1,σ7,H7,I7.unpinned,T.keep _ _ _ st5 fun b hb o e=>(I7.pin (b,o) (List.mem_append_right _ (List.mem_append_right _ (xy hb e)))).1,fun b hb=>?_,w7⟩
   obtain ⟨o,e,d⟩:=T.obj _ _ st5 b hb
   exact (I7.pin (b,o) (List.mem_append_right _ (List.mem_append_right _ (xy hb e)))).2.1
  cases f with
  | next=>obtain ⟨σ7,H7,I7,n7⟩:=q7; exact again I7 n7
  | cont=>obtain ⟨σ7,H7,I7,n7⟩:=q7; exact again I7 n7
  | brk=>obtain ⟨σ7,H7,I7,q7⟩:=q7; exact ⟨σ7,H7,I7.unpinned,q7⟩
  | ret v=>obtain ⟨x7,σ7,H7,I7,r7,q7⟩:=q7; exact ⟨x7,σ7,H7,I7.unpinned,r7,q7⟩
end
theorem vi {K:Frag} {a:Addr} {xs:List V} {g:TG} {tb:TS} {D:jh} {σ : St} {H:Hp} (Pv:Nat->St->Hp->Prop) (h0:Pv 0 σ H) (hl:∀ i σ H,i<=xs.length->Pv i σ H->SqL K H a xs)
  (hs:∀ i x σ H,xs[i]? = some x->Pv i σ H->g x σ H fun σ2 H2=>tb { D with nx:=Pv (i + 1),ct:=Pv (i + 1),bk:=D.nx } σ2 H2) (hd:∀ σ H,Pv xs.length σ H->D.nx σ H) :
  ∃ W:Nat->Nat->St->Hp->Prop,(∃ m,W 0 m σ H)/\∀ i m σ H,W i m σ H->
   ((Itl K a).stop i H/\D.nx σ H)\/((Itl K a).go i H/\∃ N:St->Hp->Prop,(∀ σ' H',N σ' H'->∃ m',m' < m/\W (i + 1) m' σ' H')/\∀ x H',(Itl K a).yld i H x H'->g x σ H' fun σ2 H2=>tb { D with nx:=N,ct:=N,bk:=D.nx } σ2 H2):=by
 refine ⟨fun i m σ H=>m = xs.length - i/\i<=xs.length/\Pv i σ H,⟨xs.length,by simp,Nat.zero_le _,h0⟩,?_⟩
 rintro i m σ H ⟨rfl,hi,p⟩
 have q:=hl i σ H hi p
 by_cases hlt:i < xs.length
 ·refine .inr ⟨⟨xs,xs[i],q,by simp [hlt]⟩,Pv (i + 1),fun σ' H' p'=>⟨xs.length - (i + 1),by omega,rfl,hlt,p'⟩,fun x H' y=>?_⟩
  obtain ⟨e,y⟩:=y
  subst e
  exact hs i x σ _ (y xs q) p
 ·have e:i = xs.length:=by omega
  subst e
  exact .inl ⟨⟨xs,q,Nat.le_refl _⟩,hd σ H p⟩
theorem xj {lo:Int} {n:Nat} {g:TG} {tb:TS} {D:jh} {σ : St} {H:Hp} (Pv:Nat->St->Hp->Prop) (h0:Pv 0 σ H)
  (hs:∀ i σ H,i < n->Pv i σ H->g (.int (lo + i)) σ H fun σ2 H2=>tb { D with nx:=Pv (i + 1),ct:=Pv (i + 1),bk:=D.nx } σ2 H2) (hd:∀ σ H,Pv n σ H->D.nx σ H) :
  ∃ W:Nat->Nat->St->Hp->Prop,(∃ m,W 0 m σ H)/\∀ i m σ H,W i m σ H->
   ((Itr lo n).stop i H/\D.nx σ H)\/((Itr lo n).go i H/\∃ N:St->Hp->Prop,(∀ σ' H',N σ' H'->∃ m',m' < m/\W (i + 1) m' σ' H')/\∀ x H',(Itr lo n).yld i H x H'->g x σ H' fun σ2 H2=>tb { D with nx:=N,ct:=N,bk:=D.nx } σ2 H2):=by
 refine ⟨fun i m σ H=>m = n - i/\i<=n/\Pv i σ H,⟨n,by simp,Nat.zero_le _,h0⟩,?_⟩
 rintro i m σ H ⟨rfl,hi,p⟩
 by_cases hlt:i < n
 ·refine .inr ⟨hlt,Pv (i + 1),fun σ' H' p'=>⟨n - (i + 1),by omega,rfl,hlt,p'⟩,fun x H' y=>?_⟩
  obtain ⟨e,y⟩:=y
  subst e y
  exact hs i σ _ hlt p
 ·have e:i = n:=by omega
  subst e
  exact .inl ⟨Nat.le_refl _,hd σ H p⟩
abbrev R2:=V->V->Hp->VK->Prop
def OpR (X:Cx) (f:Value->Value->Sem Value) (r:R2):Prop:=
 ∀ (pins:List (Addr × Obj)) (s:Shared) (σ : St) (H:Hp) (x y:V) (v u:Value) (Q:VK),Inv X pins σ H s->zO x v->zO y u->r x y H Q->
  wpAny (model X.prog X.w) X.A (f v u) (EP X pins σ Q) X.xe s
def xk (X:Cx) (f:Value) (r:List V->Hp->VK->Prop):Prop:=
 ∀ (pins:List (Addr × Obj)) (s:Shared) (σ : St) (H:Hp) (xs:List V) (us:List Value) (Q:VK),Inv X pins σ H s->zK xs us->r xs H Q->
  wpAny (model X.prog X.w) X.A (call f us) (EP X pins σ Q) X.xe s
def zkw (X:Cx) (r:V->Hp->(Bool->Hp->Prop)->Prop):Prop:=
 ∀ (pins:List (Addr × Obj)) (s:Shared) (σ : St) (H:Hp) (x:V) (v:Value) (Q:Bool->Hp->Prop),Inv X pins σ H s->zO x v->r x H Q->
  wpAny (model X.prog X.w) X.A (truthy v) (TP X pins σ Q) X.xe s
def tOp (r:R2) (ta tb:TE):TE:=fun σ H Q=>ta σ H fun x H1=>tb σ H1 fun y H2=>r x y H2 Q
def rI (C:Int->Int->Prop) (g:Int->Int->V):R2:=fun x y H Q=>∃ i j,x = .int i/\y = .int j/\C i j/\Q (g i j) H
def rI0 (g:Int->Int->V):R2:=fun x y H Q=>∃ i j,x = .int i/\y = .int j/\Q (g i j) H
section
variable {X:Cx} {a b c:Expr} {ta tb tc:TE} {pos:Pos}
theorem ziL (ha:PE X a ta) (hb:PE X b tb) {pins:List (Addr × Obj)} {s:Shared} {σ : St} {H:Hp} {R:V->V->Hp->Prop} (I:Inv X pins σ H s)
  (h:ta σ H fun x H1=>tb σ H1 fun y H2=>R x y H2) {Q:Value->Shared->Prop} {f:Value->Value->Sem Value}
  (hf:∀ v u s2 x y H2,Inv X pins σ H2 s2->zO x v->zO y u->R x y H2->wpAny (model X.prog X.w) X.A (f v u) Q X.xe s2) :
  wpAny (model X.prog X.w) X.A (eval a X.env) (fun v s₁=>wpAny (model X.prog X.w) X.A (eval b X.env) (fun u s₂=>wpAny (model X.prog X.w) X.A (f v u) Q X.xe s₂) X.xe s₁) X.xe s:=by
 refine thn (ha pins s σ H _ I h) fun v s1 ⟨x,H1,I1,r1,q1⟩=>?_
 refine thn (hb pins s1 σ H1 _ I1 q1) fun u s2 ⟨y,H2,I2,r2,q2⟩=>?_
 exact hf v u s2 x y H2 I2 r1 r2 q2
theorem zr {op:Operator} {r:R2} (ho:OpR X (binaryOp op) r) (ha:PE X a ta) (hb:PE X b tb):PE X (.BinOp a op b pos) (tOp r ta tb):=by
 refine ⟨?_⟩
 intro pins s σ H Q I h
 exact wpAny_BinOp (ziL ha hb I h fun v u s2 x y H2 I2 rx ry q=>ho pins s2 σ H2 x y v u Q I2 rx ry q)
theorem opI {f:Value->Value->Sem Value} {C:Int->Int->Prop} {g:Int->Int->Int}
  (rule:∀ (i j:Int) (t u:Tok) (s:Shared) (Q:Value->Shared->Prop) (E:Value->Shared->Prop),C i j->Q (.int (g i j) s.toks) { s with toks:=s.toks + 1 }->wpAny (model X.prog X.w) X.A (f (.int i t) (.int j u)) Q E s) :
  OpR X f (rI C fun i j=>.int (g i j)):=by
 intro pins s σ H x y v u Q I rx ry h
 obtain ⟨i,j,rfl,rfl,hc,q⟩:=h
 obtain ⟨t,rfl⟩:=rx
 obtain ⟨t',rfl⟩:=ry
 exact rule i j t t' s _ _ hc ⟨.int (g i j),H,I.tok _,⟨_,rfl⟩,q⟩
theorem zjk {f:Value->Value->Sem Value} {g:Int->Int->Int}
  (rule:∀ (i j:Int) (t u:Tok) (s:Shared) (Q:Value->Shared->Prop) (E:Value->Shared->Prop),Q (.int (g i j) s.toks) { s with toks:=s.toks + 1 }->wpAny (model X.prog X.w) X.A (f (.int i t) (.int j u)) Q E s) :
  OpR X f (rI0 fun i j=>.int (g i j)):=by
 intro pins s σ H x y v u Q I rx ry h
 obtain ⟨i,j,rfl,rfl,q⟩:=h
 obtain ⟨t,rfl⟩:=rx
 obtain ⟨t',rfl⟩:=ry
 exact rule i j t t' s _ _ ⟨.int (g i j),H,I.tok _,⟨_,rfl⟩,q⟩
theorem zih {f:Value->Value->Sem Value} {g:Int->Int->Bool}
  (rule:∀ (i j:Int) (t u:Tok) (s:Shared) (Q:Value->Shared->Prop) (E:Value->Shared->Prop),Q (.bool (g i j)) s->wpAny (model X.prog X.w) X.A (f (.int i t) (.int j u)) Q E s) :
  OpR X f (rI0 fun i j=>.bl (g i j)):=by
 intro pins s σ H x y v u Q I rx ry h
 obtain ⟨i,j,rfl,rfl,q⟩:=h
 obtain ⟨t,rfl⟩:=rx
 obtain ⟨t',rfl⟩:=ry
 exact rule i j t t' s _ _ ⟨.bl (g i j),H,I,rfl,q⟩
def zkA (i j:Int):Prop:=0 < j/\j < 1073741824
def zkz (i j:Int):Prop:=0<=j/\j<=1000000/\i.natAbs < 2 ^ 64
def ziS (i j:Int):Prop:=(-(2 ^ 64) < i/\i < 2 ^ 64)\/(-(2 ^ 64) < j/\j < 2 ^ 64)
theorem ziS.ok {i j:Int} (h:ziS i j):IntMulOk i j:=by
 rcases h with ⟨h1,h2⟩ | ⟨h1,h2⟩
 ·exact .of_left (intBits_le_64 h1 h2)
 ·exact .of_right (intBits_le_64 h1 h2)
theorem yo:OpR X (binaryOp .Add) (rI0 fun i j=>.int (i + j)):=zjk fun _ _ _ _ _ _ _ q=>add_int q
theorem wK:OpR X (binaryOp .Sub) (rI0 fun i j=>.int (i - j)):=zjk fun _ _ _ _ _ _ _ q=>sub_int q
theorem wj:OpR X (binaryOp .Mult) (rI ziS fun i j=>.int (i * j)):=opI fun _ _ _ _ _ _ _ hc q=>mul_int q hc.ok
theorem xq:OpR X (binaryOp .FloorDiv) (rI zkA fun i j=>.int (i / j)):=opI fun i j _ _ _ _ _ hc q=>by
 have h1:(0:Int) < j:=hc.1
 have h2:j < 1073741824:=hc.2
 exact floordiv_int (by omega) (by rw [Int.fdiv_eq_ediv_of_nonneg i (by omega)]; exact q) (.inl (PyProof.noPylong_small (by omega)))
theorem z5:OpR X (binaryOp .Mod) (rI (fun _ j=>0 < j) fun i j=>.int (i % j)):=opI fun i j _ _ _ _ _ hc q=>by
 have h1:(0:Int) < j:=hc
 exact mod_int' (by omega) (by rw [Int.fmod_eq_emod_of_nonneg i (by omega)]; exact q)
theorem vS:OpR X (binaryOp .Pow) (rI zkz fun i j=>.int (i ^ j.toNat)):=opI fun _ _ _ _ _ _ _ hc q=>pow_int_small hc.1 hc.2.1 hc.2.2 q
end
def zi9:V->V->Bool
 | .non,.non=>true | .non,.int _=>true | .int _,.non=>true | .non,.bl _=>true | .bl _,.non=>true | .non,.str _=>true | .str _,.non=>true
 | .int _,.int _=>true | .bl _,.bl _=>true | .str _,.str _=>true | .byt _,.byt _=>true
 | .int _,.str _=>true | .str _,.int _=>true | .bl _,.str _=>true | .str _,.bl _=>true
 | _,_=>false
def rEq:R2:=fun x y H Q=>zi9 x y = true/\Q (.bl (decide (x = y))) H
def rNe:R2:=fun x y H Q=>zi9 x y = true/\Q (.bl (!decide (x = y))) H
theorem zdC {i j:Int}:decide (V.int i = V.int j) = (i == j):=by
 rw [Bool.eq_iff_iff]
 simp
theorem zgc {i j:Bool}:decide (V.bl i = V.bl j) = (i == j):=by
 rw [Bool.eq_iff_iff]
 simp
theorem zdB {i j:Str}:decide (V.str i = V.str j) = (i == j):=by
 rw [Bool.eq_iff_iff]
 simp
theorem zdD {i j:Array UInt8}:decide (V.byt i = V.byt j) = (i.toList == j.toList):=by
 rw [Bool.eq_iff_iff]
 cases i
 cases j
 simp
section
variable {X:Cx} {a b c:Expr} {ta tb tc:TE} {pos:Pos}
theorem zX {pins:List (Addr × Obj)} {σ : St} {H:Hp} {s:Shared} {Q:VK} {k k':Bool} (I:Inv X pins σ H s) (q:Q (.bl k) H) (e:k = k'):EP X pins σ Q (.bool k') s:=by
 subst e
 exact ⟨.bl k,H,I,rfl,q⟩
theorem ym:OpR X (compareOp .Eq) rEq:=by
 intro pins s σ H x y v u Q I rx ry h
 obtain ⟨hs,q⟩:=h
 cases x with
 | non=>
  cases rx
  cases y with
  | non=>cases ry; exact PySem.EqNone.eq_none_none (zX I q (by simp))
  | bl j=>cases ry; exact PySem.EqNone.eq_none_bool (zX I q (by simp))
  | int j=>obtain ⟨t',rfl⟩:=ry; exact PySem.EqNone.eq_none_int (zX I q (by simp))
  | str j=>obtain ⟨t',rfl⟩:=ry; exact PySem.EqNone.eq_none_str (zX I q (by simp))
  | _=>exact absurd (show false = true from hs) Bool.false_ne_true
 | bl i=>
  cases rx
  cases y with
  | non=>cases ry; exact PySem.EqNone.eq_bool_none (zX I q (by simp))
  | bl j=>cases ry; exact eq_bool (zX I q zgc)
  | str j=>obtain ⟨t',rfl⟩:=ry; exact PySem.EqMixed.eq_bool_str (zX I q (by simp))
  | _=>exact absurd (show false = true from hs) Bool.false_ne_true
 | int i=>
  obtain ⟨t,rfl⟩:=rx
  cases y with
  | non=>cases ry; exact PySem.EqNone.eq_int_none (zX I q (by simp))
  | int j=>obtain ⟨t',rfl⟩:=ry; exact eq_int (zX I q zdC)
  | str j=>obtain ⟨t',rfl⟩:=ry; exact PySem.EqMixed.eq_int_str (zX I q (by simp))
  | _=>exact absurd (show false = true from hs) Bool.false_ne_true
 | str i=>
  obtain ⟨t,rfl⟩:=rx
  cases y with
  | non=>cases ry; exact PySem.EqNone.eq_str_none (zX I q (by simp))
  | bl j=>cases ry; exact PySem.EqMixed.eq_str_bool (zX I q (by simp))
  | int j=>obtain ⟨t',rfl⟩:=ry; exact PySem.EqMixed.eq_str_int (zX I q (by simp))
  | str j=>obtain ⟨t',rfl⟩:=ry; exact eq_str (zX I q zdB)
  | _=>exact absurd (show false = true from hs) Bool.false_ne_true
 | byt i=>
  obtain ⟨t,rfl⟩:=rx
  cases y with
  | byt j=>obtain ⟨t',rfl⟩:=ry; exact PySem.W.eq_bytes (zX I q zdD)
  | _=>exact absurd (show false = true from hs) Bool.false_ne_true
 | _=>cases y <;> exact absurd (show false = true from hs) Bool.false_ne_true
theorem zhv:OpR X (compareOp .NotEq) rNe:=by
 intro pins s σ H x y v u Q I rx ry h
 obtain ⟨hs,q⟩:=h
 cases x with
 | non=>
  cases rx
  cases y with
  | non=>cases ry; exact PySem.EqNone.ne_none_none (zX I q (by simp))
  | bl j=>cases ry; exact PySem.EqNone.ne_none_bool (zX I q (by simp))
  | int j=>obtain ⟨t',rfl⟩:=ry; exact PySem.EqNone.ne_none_int (zX I q (by simp))
  | str j=>obtain ⟨t',rfl⟩:=ry; exact PySem.EqNone.ne_none_str (zX I q (by simp))
  | _=>exact absurd (show false = true from hs) Bool.false_ne_true
 | bl i=>
  cases rx
  cases y with
  | non=>cases ry; exact PySem.EqNone.ne_bool_none (zX I q (by simp))
  | bl j=>cases ry; exact ne_bool (zX I q (congrArg not zgc))
  | str j=>obtain ⟨t',rfl⟩:=ry; exact PySem.EqMixed.ne_bool_str (zX I q (by simp))
  | _=>exact absurd (show false = true from hs) Bool.false_ne_true
 | int i=>
  obtain ⟨t,rfl⟩:=rx
  cases y with
  | non=>cases ry; exact PySem.EqNone.ne_int_none (zX I q (by simp))
  | int j=>obtain ⟨t',rfl⟩:=ry; exact ne_int (zX I q (congrArg not zdC))
  | str j=>obtain ⟨t',rfl⟩:=ry; exact PySem.EqMixed.ne_int_str (zX I q (by simp))
  | _=>exact absurd (show false = true from hs) Bool.false_ne_true
 | str i=>
  obtain ⟨t,rfl⟩:=rx
  cases y with
  | non=>cases ry; exact PySem.EqNone.ne_str_none (zX I q (by simp))
  | bl j=>cases ry; exact PySem.EqMixed.ne_str_bool (zX I q (by simp))
  | int j=>obtain ⟨t',rfl⟩:=ry; exact PySem.EqMixed.ne_str_int (zX I q (by simp))
  | str j=>obtain ⟨t',rfl⟩:=ry; exact ne_str (zX I q (congrArg not zdB))
  | _=>exact absurd (show false = true from hs) Bool.false_ne_true
 | byt i=>
  obtain ⟨t,rfl⟩:=rx
  cases y with
  | byt j=>obtain ⟨t',rfl⟩:=ry; exact PySem.W.ne_bytes (zX I q (congrArg not zdD))
  | _=>exact absurd (show false = true from hs) Bool.false_ne_true
 | _=>cases y <;> exact absurd (show false = true from hs) Bool.false_ne_true
theorem jk:OpR X (compareOp .Lt) (rI0 fun i j=>.bl (decide (i < j))):=zih fun _ _ _ _ _ _ _ q=>lt_int q
theorem zfh:OpR X (compareOp .LtE) (rI0 fun i j=>.bl (decide (i<=j))):=zih fun _ _ _ _ _ _ _ q=>le_int q
theorem zbv:OpR X (compareOp .Gt) (rI0 fun i j=>.bl (decide (j < i))):=zih fun _ _ _ _ _ _ _ q=>gt_int q
theorem zd5:OpR X (compareOp .In) (fun x y H Q=>∃ i j,x = .str i/\y = .str j/\Q (.bl (!(Builtin.Str.occurrences j i 0 j.length 1).isEmpty)) H):=by
 intro pins s σ H x y v u Q I rx ry h
 obtain ⟨i,j,rfl,rfl,q⟩:=h
 obtain ⟨t,rfl⟩:=rx
 obtain ⟨t',rfl⟩:=ry
 exact in_str (zX I q rfl)
theorem OpR.or {f:Value->Value->Sem Value} {r r':R2} (h:OpR X f r) (h':OpR X f r'):OpR X f (fun x y H Q=>r x y H Q\/r' x y H Q):=by
 intro pins s σ H x y v u Q I rx ry q
 rcases q with q | q
 ·exact h pins s σ H x y v u Q I rx ry q
 ·exact h' pins s σ H x y v u Q I rx ry q
theorem zx (b:Expr) {op:CmpOp} (h:op ≠ .In:=by decide) (h2:op ≠ .NotIn:=by decide):behindInMarks op b = false:=by
 have e1:(op == CmpOp.In) = false:=by cases op <;> first | rfl | exact absurd rfl h
 have e2:(op == CmpOp.NotIn) = false:=by cases op <;> first | rfl | exact absurd rfl h2
 cases b <;> simp [behindInMarks,e1,e2]
theorem xb {op:CmpOp} {r:R2} (ho:OpR X (compareOp op) r) (ha:PE X a ta) (hb:PE X b tb) (hm:behindInMarks op b = false):PE X (.Compare a [op] [b] pos) (tOp r ta tb):=by
 refine ⟨?_⟩
 intro pins s σ H Q I h
 exact wpAny_Compare1 (ziL ha hb I h fun v u s2 x y H2 I2 rx ry q=>ho pins s2 σ H2 x y v u Q I2 rx ry q) hm
def zho (t:TE):TT:=fun σ H Q=>t σ H fun x H'=>∃ k,x = .bl k/\Q k H'
theorem zo {op:CmpOp} {r:R2} (ho:OpR X (compareOp op) r) (ha:PE X a ta) (hb:PE X b tb) (hm:behindInMarks op b = false):PT X (.Compare a [op] [b] pos) (zho (tOp r ta tb)):=by
 refine ⟨?_⟩
 intro pins s σ H Q I h
 refine wpAny_isTrue_Compare1 (thn (ha pins s σ H _ I h) fun v s1 ⟨x,H1,I1,r1,q1⟩=>thn (hb pins s1 σ H1 _ I1 q1) fun u s2 ⟨y,H2,I2,r2,q2⟩=>
  thn (ho pins s2 σ H2 x y v u _ I2 r1 r2 q2) fun c s3 ⟨z,H3,I3,r3,k,e,q3⟩=>?_) hm
 subst e
 cases r3
 exact wpAny_truthy_bool ⟨H3,I3,q3⟩
def zhN (r r':R2) (ta tb tc:TE):TE:=fun σ H Q=>ta σ H fun x H1=>tb σ H1 fun y H2=>r x y H2 fun z H3=>∃ k,z = .bl k/\
 (if k = true then tc σ H3 fun w' H4=>r' y w' H4 Q else Q (.bl false) H3)
theorem zeX {op op':CmpOp} {r r':R2} (ho:OpR X (compareOp op) r) (ho':OpR X (compareOp op') r') (ha:PE X a ta) (hb:PE X b tb) (hc:PE X c tc)
  (hm:lastMarks [op,op'] [b,c] = false:=by with_unfolding_all rfl):PT X (.Compare a [op,op'] [b,c] pos) (zho (zhN r r' ta tb tc)):=by
 refine ⟨?_⟩
 intro pins s σ H Q I h
 refine isTrue_chain (thn (ha pins s σ H _ I h) fun v s1 ⟨x,H1,I1,r1,q1⟩=>test_link (thn (hb pins s1 σ H1 _ I1 q1) fun u s2 ⟨y,H2,I2,r2,q2⟩=>
  thn (ho pins s2 σ H2 x y v u _ I2 r1 r2 q2) fun d s3 ⟨z,H3,I3,r3,k,e,q3⟩=>?_)) hm
 subst e
 cases r3
 refine wpAny_truthy_bool ?_
 cases k with
 | false=>
  obtain ⟨k',e',q'⟩:=q3
  cases e'
  exact ite_ff ⟨H3,I3,q'⟩
 | true=>
  refine ite_tt (test_last (thn (hc pins s3 σ H3 _ I3 q3) fun w' s4 ⟨z',H4,I4,r4,q4⟩=>thn (ho' pins s4 σ H4 y z' u w' _ I4 r2 r4 q4) fun d' s5 ⟨z2,H5,I5,r5,k2,e2,q5⟩=>?_))
  subst e2
  cases r5
  exact wpAny_truthy_bool ⟨H5,I5,q5⟩
def zjL (K:Frag) (x:V) (H:Hp) (k:Bool):Prop:=
 match x with
 | .non=>k = false
 | .bl b=>k = b
 | .int i=>k = (i != 0)
 | .str y=>y.length<=sizeLine/\k = ((y.length:Int) != 0)
 | .byt y=>y.size<=sizeLine/\k = ((y.size:Int) != 0)
 | .ref p=>(∃ xs,SqL K H p xs/\k = !xs.isEmpty)\/(∃ xs,SqT K H p xs/\k = !xs.isEmpty)\/∃ kvs,H p = some (.dK kvs)/\k = !kvs.isEmpty
 | _=>False
theorem zcF {κ : Type} {kvs:List (κ × V)} {vs:List (κ × Value)} (r:KV kvs vs):(!vs.isEmpty) = !kvs.isEmpty:=by
 cases r <;> rfl
theorem qb {xs:List V} {its:List Value} (r:zK xs its):(!its.toArray.isEmpty) = !xs.isEmpty:=by
 cases r <;> simp
theorem vY:(sizeLine:Nat) < 2 ^ 63:=by rw [sizeLine_eq]; decide
theorem zhG:zkw X (fun x H Q=>∃ k,zjL X.K x H k/\Q k H):=by
 intro pins s σ H x v Q I rx h
 obtain ⟨k,e,q⟩:=h
 have hl:=vY
 have hs:sizeLine = 16777216:=sizeLine_eq
 cases x with
 | non=>
  cases rx
  have e':k = false:=e
  subst e'
  exact truthy_none ⟨H,I,q⟩
 | bl b=>
  cases rx
  have e':k = b:=e
  subst e'
  exact wpAny_truthy_bool ⟨H,I,q⟩
 | int i=>
  obtain ⟨t,rfl⟩:=rx
  have e':k = (i != 0):=e
  subst e'
  exact PySem.P.truthy_int ⟨H,I,q⟩
 | str y=>
  obtain ⟨t,rfl⟩:=rx
  obtain ⟨hy,e'⟩:y.length<=sizeLine/\k = ((y.length:Int) != 0):=e
  subst e'
  exact PySem.P.truthy_str (by omega) ⟨H,I.tok _,q⟩
 | byt y=>
  obtain ⟨t,rfl⟩:=rx
  obtain ⟨hy,e'⟩:y.size<=sizeLine/\k = ((y.size:Int) != 0):=e
  subst e'
  exact PySem.W.truthy_bytes (by omega) ⟨H,I.tok _,q⟩
 | ref p=>
  cases rx
  have e':(∃ xs,SqL X.K H p xs/\k = !xs.isEmpty)\/(∃ xs,SqT X.K H p xs/\k = !xs.isEmpty)\/∃ kvs,H p = some (.dK kvs)/\k = !kvs.isEmpty:=e
  rcases e' with ⟨xs,hx,e'⟩ | ⟨xs,hx,e'⟩ | ⟨kvs,hx,e'⟩
  ·subst e'
   obtain ⟨its,r,pl,hz⟩:=I.list hx
   have hlen:=r.length
   exact wpAny_truthy_list pl.isList (by simp only [List.size_toArray]; omega) ⟨H,I.tok _,by rw [qb r]; exact q⟩
  ·subst e'
   obtain ⟨its,r,pl,hz⟩:=I.tuple hx
   have hlen:=r.length
   exact truthy_tuple pl (by simp only [List.size_toArray]; omega) ⟨H,I.tok _,by rw [qb r]; exact q⟩
  ·subst e'
   obtain ⟨hz,hS,vs,r,m⟩:kvs.length<=sizeLine/\(p == sysModules) = false/\∃ vs,KV kvs vs/\s.heap.DictOf (zZ X.prog X.w) p vs:=I.hok p _ hx
   have hlen:kvs.length = vs.length:=Paired.length r
   exact wpAny_truthy_dict hS m (by omega) ⟨H,I.tok _,by rw [zcF r]; exact q⟩
 | _=>exact (show False from e).elim
theorem zeW (ha:PE X a ta) (he:∀ whole,isTrue a X.env whole = (do let v <- whole; standAt a.pos; holding [v] (truthy v))) :
  PT X a (fun σ H Q=>ta σ H fun x H'=>∃ k,zjL X.K x H' k/\Q k H'):=by
 refine ⟨?_⟩
 intro pins s σ H Q I h
 exact isTrue_plain (thn (ha pins s σ H _ I h) fun v s1 ⟨x,H1,I1,r1,q1⟩=>zhG pins s1 σ H1 x v Q I1 r1 q1) (he _)
theorem jV:OpR X (binaryOp .Add) (fun x y H Q=>∃ i j,x = .str i/\y = .str j/\i.length + j.length<=sizeLine/\Q (.str (i ++ j)) H):=by
 intro pins s σ H x y v u Q I rx ry h
 obtain ⟨i,j,rfl,rfl,hz,q⟩:=h
 obtain ⟨t,rfl⟩:=rx
 obtain ⟨t',rfl⟩:=ry
 exact add_str (fun t' tk=>⟨.str (i ++ j),H,I.tok _,⟨_,rfl⟩,q⟩) hz
theorem wO {x:V} {us:List Value} (r:zK [x] us):∃ u,us = [u]/\zO x u:=by
 cases r with
 | cons r1 r2=>cases r2; exact ⟨_,rfl,r1⟩
theorem zcW {x y:V} {us:List Value} (r:zK [x,y] us):∃ u w',us = [u,w']/\zO x u/\zO y w':=by
 cases r with
 | cons r1 r2=>
  cases r2 with
  | cons r3 r4=>cases r4; exact ⟨_,_,rfl,r1,r3⟩
theorem zeC (hc:X.calm = true):xk X (.builtin "max") (fun xs H Q=>∃ i j,xs = [.int i,.int j]/\Q (.int (if j > i then j else i)) H):=by
 intro pins s σ H xs us Q I r h
 obtain ⟨i,j,rfl,q⟩:=h
 obtain ⟨u,w',rfl,⟨t,rfl⟩,⟨t',rfl⟩⟩:=zcW r
 refine max_two_ints (I.ok.hd hc) fun h' tk k=>⟨_,H,I.kept k,?_,q⟩
 by_cases hj:j > i
 ·rw [if_pos hj,if_pos hj]; exact ⟨_,rfl⟩
 ·rw [if_neg hj,if_neg hj]; exact ⟨_,rfl⟩
theorem zai (hc:X.calm = true):xk X (.builtin "min") (fun xs H Q=>∃ i j,xs = [.int i,.int j]/\Q (.int (if j < i then j else i)) H):=by
 intro pins s σ H xs us Q I r h
 obtain ⟨i,j,rfl,q⟩:=h
 obtain ⟨u,w',rfl,⟨t,rfl⟩,⟨t',rfl⟩⟩:=zcW r
 refine min_two_ints (I.ok.hd hc) fun h' tk k=>⟨_,H,I.kept k,?_,q⟩
 by_cases hj:j < i
 ·rw [if_pos hj,if_pos hj]; exact ⟨_,rfl⟩
 ·rw [if_neg hj,if_neg hj]; exact ⟨_,rfl⟩
theorem zeD:xk X (.type "int") (fun xs H Q=>(∃ i,xs = [.int i]/\Q (.int i) H)\/∃ k,xs = [.bl k]/\Q (.int (if k then 1 else 0)) H):=by
 intro pins s σ H xs us Q I r h
 rcases h with ⟨i,rfl,q⟩ | ⟨k,rfl,q⟩
 ·obtain ⟨u,rfl,t,rfl⟩:=wO r
  exact call_int_int ⟨.int i,H,I,⟨_,rfl⟩,q⟩
 ·obtain ⟨u,rfl,r1⟩:=wO r
  cases r1
  exact call_int_bool ⟨.int (if k then 1 else 0),H,I.tok _,⟨_,rfl⟩,q⟩
end
structure zcR (h:Heap) (x dx C:Addr) (mA:Str->Option Value):Prop where
 obj:h.get? x = some (instObj C dx)
 ns:h.Ns1 dx mA
 ne:dx ≠ x
theorem zei {h:Heap} {dx:Addr} {mA:Str->Option Value} (n:h.Ns1 dx mA):∃ od,h.get? dx = some od/\∀ name,lookIn name od = some (mA name):=by
 obtain ⟨o,es,ep,ho,hd,hk,_,hm⟩:=n
 refine ⟨o,ho,fun name=>?_⟩
 have e:=hm name
 unfold nsFind findBy at e
 rw [<- Array.find?_toList] at e
 unfold lookIn
 rw [hd]
 dsimp only
 split
 ·rename_i y q
  rw [q] at e
  exact congrArg some e
 ·rename_i q
  rw [q] at e
  have a:es.toList.any (·.refKey) = false:=by
   rw [List.any_eq_false]
   intro y hy
   obtain ⟨z,t,hkey⟩:=hk y (Array.mem_toList_iff.mp hy)
   simp [DictEntry.refKey,hkey]
  have a':¬ es.toList.any (·.refKey) = true:=by rw [a]; exact Bool.false_ne_true
  rw [if_neg a']
  exact congrArg some e
theorem zcR.look {h:Heap} {x dx C:Addr} {mA:Str->Option Value} (I:zcR h x dx C mA):∃ od,PySem.W.InstAt h x (instObj C dx) C (some od)/\∀ name,lookIn name od = some (mA name):=
 let ⟨od,ho,hl⟩:=zei I.ns
 ⟨od,⟨I.obj,rfl,rfl,ho⟩,hl⟩
section
variable {prog:Program} {w:World} {A:Around} {E:Value->Shared->Prop} {s:Shared} {K:Frag} {x dx C f:Addr} {mA:Str->Option Value} {name:Str} {v:Value}
theorem zhb {expr:Bool} {Q:Value->Shared->Prop} (X:K.In s.heap) (I:zcR s.heap x dx C mA) (hg:plainGet K C name = true) (hh:hasDictIn K C = true)
  (ha:findIn K (.ref C) name = some none) (hv:mA name = some v) (hv':PySem.W.handedIn v = true) (h:Q v { s with toks:=s.toks + 1 }) :
  wpAny (model prog w) A (getAttr (.ref x) name expr) Q E s:=by
 obtain ⟨od,J,hl⟩:=I.look
 exact PySem.W.get_value X J (plainGet_of hg).1 (PySem.W.findObj_own hh ha rfl (by rw [hl,hv])) hv' h
theorem zf2 {pl:Sem Bool} {Q:Value × List Value->Shared->Prop} (X:K.In s.heap) (I:zcR s.heap x dx C mA) (hg:plainGet K C name = true)
  (hf:findIn K (.ref C) name = some (some (.ref f))) (ht:isFn K (.ref f) = true) (hv:mA name = none) (h:Q (.ref f,[.ref x]) s) :
  wpAny (model prog w) A (getMethod (.ref x) name pl) Q E s:=by
 obtain ⟨od,J,hl⟩:=I.look
 exact PySem.W.method_fn X J (plainGet_of hg).1 (plainGet_of hg).2 hf (beq_iff_eq.mp ht) (by show (lookIn name od).map (·.isSome) = some false; rw [hl,hv]; rfl) h
theorem zgt {ns:List Str} {Q:Unit->Shared->Prop} (X:K.In s.heap) (I:zcR s.heap x dx C mA)
  (hs:findIn K (.ref C) "__setattr__" = some (some (.builtin "object.__setattr__"))) (hp:plainOver K C = true) (ht:takerIn K C name = some none) (hh:hasDictIn K C = true)
  (hw:PySem.Within mA ns) (hsz:ns.length<=sizeLine)
  (h:∀ h',zcR h' x dx C (fun y=>if y = name then some v else mA y)->Heap.SameBut dx s.heap h'->Q () { s with heap:=h',toks:=s.toks + 2 }) :
  wpAny (model prog w) A (setAttr (.ref x) name v) Q E s:=by
 obtain ⟨od,J,hl⟩:=I.look
 refine PySem.W.set_plain X J hs (PySem.W.osa_open (s:={ s with toks:=s.toks + 1 }) (r:=none) X J hp ht fun b=>?_)
 obtain ⟨cd,hc,hd'⟩:=PySem.W.any_some hh
 have hx:s.heap.get? x = some ⟨.ref C,some dx,.plain,#[]⟩:=I.obj
 refine wpAny_bind (wpAny_pure (wpAny_bind (wpAny_bind (wpAny_loadPart hx (wpAny_bind (PySem.W.Looks.here (s:={ s with toks:=s.toks + 1 }) (PySem.W.looks_clsIn X hc) ?_))))))
 rw [hd']
 refine wpAny_pure (a:=some dx) (wpAny_bind (wpAny_pure (wpAny_bind ?_)))
 refine wpAny_nsSet1 (s:={ s with toks:=s.toks + 1 }) I.ns fun h' hn2 hs2=>?_
 obtain ⟨oD,esD,epD,hoD,hdD,hcD⟩:=hn2.count (PySem.Within.cons name v hw)
 refine wpAny_bind (wpAny_lookBehind hoD (by rw [hdD]; exact pastItsLine_dict (Nat.le_trans hcD (by rw [List.length_cons]; omega))) ?_)
 exact wpAny_pure (h _ ⟨(hs2.2 _ (Ne.symm I.ne)).trans I.obj,hn2,I.ne⟩ hs2)
theorem zfO {R:Result->Shared->Prop} {vs:List Value} {kw:List (Str × Value)} (X:K.In s.heap) (hm:makesIn K C = true)
  (hi:findIn K (.ref C) "__init__" = some (some (.ref f))) (hf:PySem.W.typeIn K (.ref f) = some (.type "function"))
  (h:codeAny (model prog w) (A.under (.builtin "type.__call__" ⟨.ref C :: vs,kw⟩)) (.call (.ref f) ⟨.ref (s.heap.objs.size + 1) :: vs,kw⟩) (PySem.W.InitBack (s.heap.objs.size + 1) R)
   { s with heap:=(s.heap.push emptyDict).push (instObj C s.heap.objs.size) }) :
  codeAny (model prog w) A (.call (.ref C) ⟨vs,kw⟩) R s:=by
 obtain ⟨hh,g,d,t,os⟩:=s
 exact PySem.W.make_core (PySem.W.makes_of X hm) (PySem.W.looks_findIn X hi) (fun self=>PySem.W.bind_fn X self hf) (.inl rfl) h
end
def zT (f:Str) (v:V):List (Str × V)->List (Str × V)
 | []=>[(f,v)]
 | (g,x) :: r=>if g = f then (g,v) :: r else (g,x) :: zT f v r
theorem zj (f g:Str) (v:V):∀ fs:List (Str × V),(zT f v fs).lookup g = if g = f then some v else fs.lookup g
 | []=>by
  show List.lookup g [(f,v)] = _
  by_cases h:g = f
  ·have hb:(g == f) = true:=beq_iff_eq.mpr h
   simp only [List.lookup,hb,if_pos h]
  ·have hb:(g == f) = false:=beq_eq_false_iff_ne.mpr h
   simp only [List.lookup,hb,if_neg h]
 | (k,x) :: r=>by
  have ih:=zj f g v r
  rw [show zT f v ((k,x) :: r) = (if k = f then (k,v) :: r else (k,x) :: zT f v r) from rfl]
  by_cases hk:k = f
  ·rw [if_pos hk]
   by_cases h:g = k
   ·have hb:(g == k) = true:=beq_iff_eq.mpr h
    simp only [List.lookup,hb,if_pos (h.trans hk)]
   ·have hb:(g == k) = false:=beq_eq_false_iff_ne.mpr h
    simp only [List.lookup,hb,if_neg (fun e:g = f=>h (e.trans hk.symm))]
  ·rw [if_neg hk]
   by_cases h:g = k
   ·have hb:(g == k) = true:=beq_iff_eq.mpr h
    simp only [List.lookup,hb,if_neg (fun e:g = f=>hk (h.symm.trans e))]
   ·have hb:(g == k) = false:=beq_eq_false_iff_ne.mpr h
    simp only [List.lookup,hb]
    exact ih
theorem jd (f:Str) (v:V):∀ fs:List (Str × V),f ∈ (zT f v fs).map (·.1)/\∀ g,g ∈ fs.map (·.1)->g ∈ (zT f v fs).map (·.1)
 | []=>⟨by simp [zT],fun g h=>by simp at h⟩
 | (k,x) :: r=>by
  obtain ⟨i1,i2⟩:=jd f v r
  rw [show zT f v ((k,x) :: r) = (if k = f then (k,v) :: r else (k,x) :: zT f v r) from rfl]
  by_cases hk:k = f
  ·rw [if_pos hk]
   subst hk
   exact ⟨by simp,fun g h=>by simpa using h⟩
  ·rw [if_neg hk]
   refine ⟨?_,fun g h=>?_⟩
   ·rw [List.map_cons]
    exact List.mem_cons_of_mem _ i1
   ·rw [List.map_cons] at h |-
    rcases List.mem_cons.mp h with e | e
    ·exact List.mem_cons.mpr (.inl e)
    ·exact List.mem_cons_of_mem _ (i2 g e)
theorem jl (f:Str) (v:V):∀ fs:List (Str × V),(zT f v fs).length<=fs.length + 1
 | []=>by simp [zT]
 | (k,x) :: r=>by
  have ih:=jl f v r
  rw [show zT f v ((k,x) :: r) = (if k = f then (k,v) :: r else (k,x) :: zT f v r) from rfl]
  by_cases hk:k = f
  ·rw [if_pos hk,List.length_cons,List.length_cons]; omega
  ·rw [if_neg hk,List.length_cons,List.length_cons]; omega
theorem wS.some_of {v:V} {o:Option Value} (r:wS (some v) o):∃ u,o = some u/\zO v u:=by
 cases o with
 | none=>exact (show False from r).elim
 | some u=>exact ⟨u,rfl,r⟩
theorem wS.none_of {o:Option Value} (r:wS none o):o = none:=by
 cases o with
 | none=>rfl
 | some u=>exact (show False from r).elim
theorem zeu {v:V} {u:Value} (r:zO v u):PySem.W.handedIn u = true:=by
 cases v with
 | non=>cases (show u = Value.none from r); rfl
 | bl b=>cases (show u = Value.bool b from r); rfl
 | int i=>obtain ⟨t,e⟩:=(show ∃ t,u = Value.int i t from r); cases e; rfl
 | str x=>obtain ⟨t,e⟩:=(show ∃ t,u = Value.str x t from r); cases e; rfl
 | byt b=>obtain ⟨t,e⟩:=(show ∃ t,u = Value.bytes b t from r); cases e; rfl
 | flt b=>obtain ⟨t,e⟩:=(show ∃ t,u = Value.float b t from r); cases e; rfl
 | ref a=>cases (show u = Value.ref a from r); rfl
 | ty n=>cases (show u = Value.type n from r); rfl
section
variable {P:Program} {w:World} {H H':Hp} {h h':Heap} {a C dx:Addr} {fs fs':List (Str × V)}
theorem jD (hok:HOk P w H h) (e:H a = some (.ins C dx fs)):∃ mA,zcR h a dx C mA/\(∀ f,wS (fs.lookup f) (mA f))/\PySem.Within mA (fs.map (·.1))/\fs.length<=1000/\H dx = some (.own a):=by
 obtain ⟨d,z,ne,ob,mA,n,r,q⟩:=(show yy P w H h a (.ins C dx fs) from hok a _ e)
 exact ⟨mA,⟨ob,n,ne⟩,r,q,z,d⟩
end
structure Cls (K:Frag) (C:Addr):Prop where
 pg:plainGet K C Str.empty = true
 hd:hasDictIn K C = true
 po:plainOver K C = true
 sa:findIn K (.ref C) "__setattr__" = some (some (.builtin "object.__setattr__"))
theorem Cls.get {K:Frag} {C:Addr} (c:Cls K C) (f:Str):plainGet K C f = true:=c.pg
def xf (K:Frag) (C:Addr) (f:Str):Prop:=findIn K (.ref C) f = some none
theorem xf.taker {K:Frag} {C:Addr} {f:Str} (n:xf K C f):takerIn K C f = some none:=by
 unfold takerIn
 rw [show findIn K (.ref C) f = some none from n]
 rfl
structure y6 (K:Frag) (C:Addr) (m:Str) (f:Addr):Prop where
 at_:findIn K (.ref C) m = some (some (.ref f))
 fn:isFn K (.ref f) = true
 kp:keepIn K (.ref f) = true
section
variable {X:Cx} {pins:List (Addr × Obj)} {σ : St} {H:Hp} {s:Shared} {a C dx:Addr} {fs:List (Str × V)} {f:Str} {v:V} {A:Around} {E:Value->Shared->Prop}
theorem zcG {b:Bool} {Q:Value->Shared->Prop} (I:Inv X pins σ H s) (e:H a = some (.ins C dx fs)) (c:Cls X.K C) (n:xf X.K C f) (l:fs.lookup f = some v)
  (h:∀ u s',Inv X pins σ H s'->zO v u->Q u s'):wpAny (model X.prog X.w) A (getAttr (.ref a) f b) Q E s:=by
 obtain ⟨mA,O,r,_,_,_⟩:=jD I.hok e
 obtain ⟨u,hu,ru⟩:=wS.some_of (v:=v) (o:=mA f) (by rw [<- l]; exact r f)
 exact zhb I.kIn O (c.get f) c.hd n hu (zeu ru) (h u _ (I.tok _) ru)
theorem wN {m:Str} {g:Addr} {pl:Sem Bool} {Q:Value × List Value->Shared->Prop} (I:Inv X pins σ H s) (e:H a = some (.ins C dx fs)) (c:Cls X.K C) (k:y6 X.K C m g) (l:fs.lookup m = none)
  (h:Q (.ref g,[.ref a]) s):wpAny (model X.prog X.w) A (getMethod (.ref a) m pl) Q E s:=by
 obtain ⟨mA,O,r,_,_,_⟩:=jD I.hok e
 have hn:mA m = none:=wS.none_of (by rw [<- l]; exact r m)
 exact zf2 I.kIn O (c.get m) k.at_ k.fn hn h
theorem zcg {y:V} {u:Value} {Q:Unit->Shared->Prop} (I:Inv X pins σ H s) (e:H a = some (.ins C dx fs)) (c:Cls X.K C) (n:xf X.K C f) (hl:fs.length < 1000) (ry:zO y u)
  (h:∀ s',Inv X pins σ (upd H a (.ins C dx (zT f y fs))) s'->Q () s'):wpAny (model X.prog X.w) A (setAttr (.ref a) f u) Q E s:=by
 obtain ⟨mA,O,r,wi,_,ho⟩:=jD I.hok e
 have hz:(fs.map (·.1)).length<=sizeLine:=by rw [List.length_map,sizeLine_eq]; omega
 refine zgt I.kIn O c.sa c.po n.taker c.hd wi hz fun h' O' sb=>h _ ?_
 have hd:∃ o,h'.get? dx = some o:=let ⟨o,_,_,e',_⟩:=O'.ns; ⟨o,e'⟩
 refine I.write (x:=a) (e:=dx) (by rw [e]; exact True.intro) (.inr ho) (fun b q hb z=>(sb.2 b hb).trans z) hd ?_
 refine ⟨by rw [zi O.ne]; exact ho,?_,O.ne,O'.obj,_,O'.ns,fun g=>?_,fun g hg=>?_⟩
 ·have:=jl f y fs; omega
 ·show wS ((zT f y fs).lookup g) (if g = f then some u else mA g)
  rw [zj]
  by_cases q:g = f
  ·rw [if_pos q,if_pos q]; exact ry
  ·rw [if_neg q,if_neg q]; exact r g
 ·by_cases q:g = f
  ·rw [q]; exact (jd f y fs).1
  ·refine (jd f y fs).2 g (wi g fun z=>hg ?_)
   show (if g = f then some u else mA g) = none
   rw [if_neg q]; exact z
theorem Inv.made (I:Inv X pins σ H s):Inv X pins σ (upd (upd H s.heap.objs.size (.own (s.heap.objs.size + 1))) (s.heap.objs.size + 1) (.ins C s.heap.objs.size []))
  { s with heap:=(s.heap.push emptyDict).push (instObj C s.heap.objs.size) }:=by
 have e1:(s.heap.push emptyDict).get? s.heap.objs.size = some emptyDict:=Heap.get?_push_size s.heap rfl
 have e2:((s.heap.push emptyDict).push (instObj C s.heap.objs.size)).get? (s.heap.objs.size + 1) = some (instObj C s.heap.objs.size):=by
  have:=Heap.get?_push_size (s.heap.push emptyDict) (o:=instObj C s.heap.objs.size) rfl
  rwa [Heap.size_push] at this
 have e3:(s.heap.push emptyDict).Ns s.heap.objs.size (fun _=>none):=⟨emptyDict,#[],_,e1,rfl,(fun e he=>absurd he (by simp)),fun _=>rfl⟩
 have I1:=I.laid (a:=s.heap.objs.size) (o:=.own (s.heap.objs.size + 1)) (h':=s.heap.push emptyDict) (t':=s.toks) (fun b u q=>Heap.get?_push_of_some _ q) (Nat.le_refl _) ⟨_,e1⟩
 refine I1.laid (a:=s.heap.objs.size + 1) (o:=.ins C s.heap.objs.size []) (t':=s.toks) (fun b u q=>Heap.get?_push_of_some _ q) (Nat.le_of_eq (Heap.size_push _ _)) ?_
 have ne:s.heap.objs.size ≠ s.heap.objs.size + 1:=Nat.ne_of_lt (Nat.lt_succ_self _)
 refine ⟨by rw [zi ne,za],Nat.zero_le _,ne,e2,fun _=>none,(Heap.Ns1.of_empty e3).at fun o q=>Heap.get?_push_of_some _ q,fun _=>True.intro,fun y hy=>absurd rfl hy⟩
theorem zhj {prog:Program} {w:World} {env:Env} {e:Expr} {f:Str} {pos:Pos} {s:Shared} {Q:Value->Shared->Prop} (hb:attributeBase e f env (eval e env) = eval e env)
  (h:wpAny (model prog w) A (eval e env) (fun o s₁=>wpAny (model prog w) A (getAttr o f true) Q E s₁) E s):wpAny (model prog w) A (eval (.Attribute e f pos) env) Q E s:=
 Attribute_any_ h (by rw [arm_eval_Attribute,hb])
end
def zi3 (K:Frag) (ta:TE) (f:Str):TE:=fun σ H Q=>ta σ H fun x H1=>∃ a C dx fs v,x = .ref a/\H1 a = some (.ins C dx fs)/\Cls K C/\xf K C f/\fs.lookup f = some v/\Q v H1
def zj0 (K:Frag) (ta tv:TE) (f:Str):TS:=fun D σ H=>tv σ H fun y H1=>ta σ H1 fun x H2=>∃ a C dx fs,x = .ref a/\H2 a = some (.ins C dx fs)/\Cls K C/\xf K C f/\fs.length < 1000/\
 D.nx σ (upd H2 a (.ins C dx (zT f y fs)))
section
variable {X:Cx} {o e value:Expr} {f:Str} {pos pos' tpos:Pos} {ta tv:TE}
theorem yO (he:PE X e ta) (hb:attributeBase e f X.env (eval e X.env) = eval e X.env):PE X (.Attribute e f pos) (zi3 X.K ta f):=by
 refine ⟨?_⟩
 intro pins s σ H Q I h
 refine zhj hb (thn (he pins s σ H _ I h) fun u s1 ⟨x,H1,I1,rx,a,C,dx,fs,v,ex,ea,c,n,l,q⟩=>?_)
 subst ex
 obtain rfl:u = Value.ref a:=rx
 exact zcG I1 ea c n l fun u' s2 I2 ru=>⟨v,H1,I2,ru,q⟩
theorem wG (ha:PE X o ta) (hv:PE X value tv) (hs:swapsWith value (some (.Attribute o f pos')) pos.line X.env = pure false):PS X (.Assign [.Attribute o f pos'] value pos) (zj0 X.K ta tv f):=by
 refine ⟨?_⟩
 intro pins s σ H D I h
 refine plainObj_wpAny_Assign_Attribute (thn (hv pins s σ H _ I h) fun u s1 ⟨y,H1,I1,ry,q⟩=>thn (ha pins s1 σ H1 _ I1 q) fun ov s2 ⟨x,H2,I2,rx,a,C,dx,fs,ex,ea,c,n,l,q2⟩=>?_) hs
 subst ex
 obtain rfl:ov = Value.ref a:=rx
 exact zcg I2 ea c n l ry fun s3 I3=>⟨σ,_,I3,q2⟩
theorem zhy {pl:Sem Bool} {m:Str} {apos:Pos} {args:List Expr} {pins:List (Addr × Obj)} {s:Shared} {σ : St} {H:Hp} {Q:Value->Shared->Prop} {te:TE} (he:PE X e te) (I:Inv X pins σ H s)
  (h:te σ H fun x H1=>∃ a C dx fs g,x = .ref a/\H1 a = some (.ins C dx fs)/\Cls X.K C/\y6 X.K C m g/\fs.lookup m = none/\
   ∀ s1,Inv X pins σ H1 s1->wpAny (model X.prog X.w) X.A (callWith pos (.ref g) [.ref a] (backTo pos (starEach args X.env)) (backToKw pos (keywordEach [] X.env))) Q X.xe s1)
  (ht:eval (.Call (.Attribute e m apos) args [] pos) X.env = (do
   let ov <- eval e X.env
   standAt apos.atName
   let (f,first) <- holding [ov] (getMethod ov m pl)
   callWith pos f first (backTo pos (starEach args X.env)) (backToKw pos (keywordEach [] X.env)))) :
  wpAny (model X.prog X.w) X.A (eval (.Call (.Attribute e m apos) args [] pos) X.env) Q X.xe s:=by
 refine methodCall_KW (pl:=pl) (thn (he pins s σ H _ I h) fun u s1 ⟨x,H1,I1,rx,a,C,dx,fs,g,ex,ea,c,k,l,q⟩=>?_) ht
 subst ex
 obtain rfl:u = Value.ref a:=rx
 exact wN I1 ea c k l (q s1 I1)
end
section
variable {X:Cx} {pins:List (Addr × Obj)} {σ : St} {H:Hp} {s:Shared} {A:Around} {E:Value->Shared->Prop} {Q:Value->Shared->Prop} {c:Value} {b:Bool}
inductive vL (K:Frag) (H:Hp):V->Value->Prop where
 | non:vL K H .non (.type "NoneType")
 | bl (x:Bool):vL K H (.bl x) (.type "bool")
 | int (i:Int):vL K H (.int i) (.type "int")
 | str (x:Str):vL K H (.str x) (.type "str")
 | flt (x:UInt64):vL K H (.flt x) (.type "float")
 | lst {a:Addr} {xs:List V} (e:H a = some (.lst xs)):vL K H (.ref a) (.type "list")
 | frz {a:Addr} {o:Obj} {xs:List V} (e:H a = some (.frz o (.lst xs))):vL K H (.ref a) (.type "list")
 | tup {a:Addr} {xs:List V} (e:H a = some (.tup xs)):vL K H (.ref a) (.type "tuple")
 | dK {a:Addr} {kvs:List (Key × V)} (e:H a = some (.dK kvs)):vL K H (.ref a) (.type "dict")
 | dT {a:Addr} {kvs:List (List Key × V)} (e:H a = some (.dT kvs)):vL K H (.ref a) (.type "dict")
 | ins {a C dx:Addr} {fs:List (Str × V)} (e:H a = some (.ins C dx fs)) (cl:Cls K C) (ha:findIn K (.ref C) "__class__" = some (some (.builtin "object.__class__")))
   (hn:specialIn K (.builtin "object.__class__") "__get__" = some (some (.builtin "getset_descriptor.__get__"))) (htk:PySem.W.takesIn K (.builtin "object.__class__") = some true)
   (hm:PySem.W.mroIn K C (.type "object") = some true):vL K H (.ref a) (.ref C)
theorem zer {x:V} {u t:Value} (I:Inv X pins σ H s) (rx:zO x u) (ty:vL X.K H x t) (e:kitOne X.K t c = some b) (h:∀ tk,Q (.bool b) { s with toks:=tk }) :
  wpAny (model X.prog X.w) A (call (.builtin "isinstance") [u,c]) Q E s:=by
 cases ty with
 | non=>cases (show u = Value.none from rx); exact kia_one PySem.W.kitx_none I.kIn True.intro e (fun z=>nomatch z) h
 | bl y=>cases (show u = Value.bool y from rx); exact kia_one PySem.W.kitx_bool I.kIn True.intro e (fun z=>nomatch z) h
 | int i=>obtain ⟨t,q⟩:=(show ∃ t,u = Value.int i t from rx); cases q; exact kia_one PySem.W.kitx_int I.kIn True.intro e (fun z=>nomatch z) h
 | str y=>obtain ⟨t,q⟩:=(show ∃ t,u = Value.str y t from rx); cases q; exact kia_one PySem.W.kitx_str I.kIn True.intro e (fun z=>nomatch z) h
 | flt y=>obtain ⟨t,q⟩:=(show ∃ t,u = Value.float y t from rx); cases q; exact kia_one PySem.W.kitx_float I.kIn True.intro e (fun z=>nomatch z) h
 | @lst a xs ea=>
  cases (show u = Value.ref a from rx)
  obtain ⟨_,_,n,_,h1⟩:=(show yy X.prog X.w H s.heap a (.lst xs) from I.hok a _ ea)
  exact kia_one PySem.W.kitx_list I.kIn ⟨_,h1,rfl⟩ e (fun z=>nomatch z) h
 | @frz a ob xs ea=>
  cases (show u = Value.ref a from rx)
  obtain ⟨_,_,_,n,_,h1⟩:=(show yy X.prog X.w H s.heap a (.frz ob (.lst xs)) from I.hok a _ ea)
  exact kia_one PySem.W.kitx_list I.kIn ⟨_,h1,rfl⟩ e (fun z=>nomatch z) h
 | @tup a xs ea=>
  cases (show u = Value.ref a from rx)
  obtain ⟨_,_,_,p⟩:=(show yy X.prog X.w H s.heap a (.tup xs) from I.hok a _ ea)
  obtain ⟨o,h1,h2,_⟩:=p
  exact kia_one PySem.W.kitx_tuple I.kIn ⟨o,h1,h2⟩ e (fun z=>nomatch z) h
 | @dK a kvs ea=>
  cases (show u = Value.ref a from rx)
  obtain ⟨_,_,vs,_,p⟩:=(show yy X.prog X.w H s.heap a (.dK kvs) from I.hok a _ ea)
  obtain ⟨o,es,ep,h1,h2,_⟩:=p
  exact kia_one PySem.W.kitx_dict I.kIn ⟨o,h1,h2.1⟩ e (fun z=>nomatch z) h
 | @dT a kvs ea=>
  cases (show u = Value.ref a from rx)
  obtain ⟨_,_,xs,_,o,es,ep,h1,h2,_⟩:=(show yy X.prog X.w H s.heap a (.dT kvs) from I.hok a _ ea)
  exact kia_one PySem.W.kitx_dict I.kIn ⟨o,h1,h2.1⟩ e (fun z=>nomatch z) h
 | @ins a C dx fs ea cl ha hn htk hm=>
  cases (show u = Value.ref a from rx)
  obtain ⟨mA,O,_⟩:=jD I.hok ea
  obtain ⟨od,J,_⟩:=O.look
  exact kia_one (PySem.W.kitx_own (cl.get _) cl.hd ha hn htk hm) I.kIn J e (fun z=>nomatch z) h
end
structure ya (k:Nat) (A:Around):Prop where
 hd:A.handled = none
 dp:A.depth + 3 * k + 5 < recursionLimit
 un:A.units + 16 * k + 200 < cLine
theorem ya.mono {j k:Nat} {A:Around} (r:ya k A) (h:j<=k):ya j A:=⟨r.hd,by have:=r.dp; omega,by have:=r.un; omega⟩
theorem ya.deeper {k:Nat} {A:Around} (r:ya (k + 1) A) (env:Env):ya k (A.deeper env):=
 ⟨r.hd,by have:=r.dp; show A.depth + 1 + 3 * k + 5 < _; omega,by have:=r.un; show A.units + 3 + 16 * k + 200 < _; omega⟩
theorem zcv {A:Around} {C:Addr} {us:List Value} {kw:List (Str × Value)}:(A.under (.builtin "type.__call__" ⟨.ref C :: us,kw⟩)).depth = A.depth + 1:=by
 first | rfl | simp [Around.under,Code.weight,Code.isCreation,Code.isGuard,Code.isCaller,Code.frames,Code.isFrame,guardIds]
theorem zcu {A:Around} {C:Addr} {us:List Value} {kw:List (Str × Value)}:(A.under (.builtin "type.__call__" ⟨.ref C :: us,kw⟩)).units = A.units + 1:=by
 first | rfl | simp [Around.under,Code.cUnits,Code.frames,Code.isFrame]
theorem ya.make {k:Nat} {A:Around} (r:ya (k + 1) A) (C:Addr) (us:List Value) (kw:List (Str × Value)):ya k (A.under (.builtin "type.__call__" ⟨.ref C :: us,kw⟩)):=
 ⟨r.hd,by have:=r.dp; rw [zcv]; omega,by have:=r.un; rw [zcu]; omega⟩
theorem ya.depth {k:Nat} {A:Around} (r:ya k A):A.depth < recursionLimit:=by have:=r.dp; omega
theorem ya.units {k:Nat} {A:Around} (r:ya k A):A.units + 64 < cLine:=by have:=r.un; omega
theorem ya.units0 {k:Nat} {A:Around} (r:ya k A):A.units < cLine:=by have:=r.un; omega
def zhJ:TA:=fun _ H Q=>Q [] H
def zhr (ta:TE) (tr:TA):TA:=fun σ H Q=>ta σ H fun x H1=>tr σ H1 fun xs H2=>Q (x :: xs) H2
section
variable {X:Cx} {e:Expr} {es:List Expr} {te:TE} {t:TA} {pos:Pos}
theorem zb:PA X [] zhJ:=⟨fun _ _ _ _ H Q I h=>Calls.spliced_nil ⟨[],H,I,.nil,h⟩⟩
theorem zgO (ha:PE X e te) (hr:PA X es t) (hs:starEach (e :: es) X.env = (false,eval e X.env) :: starEach es X.env:=by rfl):PA X (e :: es) (zhr te t):=by
 refine ⟨?_⟩
 intro pos pins s σ H Q I h
 rw [hs]
 show wpAny _ _ (spliced ((false,eval e X.env) :: backTo pos (starEach es X.env))) _ _ s
 refine Calls.spliced_cons (thn (ha pins s σ H _ I h) fun u s1 ⟨x,H1,I1,r1,q1⟩=>?_)
 exact thn (hr pos pins s1 σ H1 _ I1 q1) fun us s2 ⟨xs,H2,I2,r2,q2⟩=>⟨x :: xs,H2,I2,.cons r1 r2,q2⟩
def zjP (t:TA):TE:=fun σ H Q=>t σ H fun xs H1=>xs.length<=sizeLine/\∀ p,H1 p = none->Q (.ref p) (upd H1 p (.tup xs))
def zjS (t:TA):TE:=fun σ H Q=>t σ H fun xs H1=>xs.length<=sizeLine/\∀ p,H1 p = none->Q (.ref p) (upd H1 p (.lst xs))
theorem zH {x1} (h:PA X es t):PE X (.Tuple es x1 pos) (zjP t):=by
 refine ⟨?_⟩
 intro pins s σ H Q I hq
 refine wpAny_Tuple_spliced (thn (h pos pins s σ H _ I hq) fun us s1 ⟨xs,H1,I1,r,z,q⟩=>⟨by rw [<- r.length]; exact z,?_⟩)
 have hf:H1 s1.heap.objs.size = none:=I1.hok.fresh (Nat.le_refl _)
 refine ⟨.ref s1.heap.objs.size,upd H1 s1.heap.objs.size (.tup xs),I1.laid (t':=s1.toks) (fun b u e=>Heap.get?_push_of_some _ e) (Nat.le_refl _) ?_,rfl,q _ hf⟩
 exact ⟨z,us,r,⟨_,Heap.get?_push_size _ rfl,rfl,_,rfl⟩⟩
theorem zM (h:PA X es t):PE X (.List es pos) (zjS t):=by
 refine ⟨?_⟩
 intro pins s σ H Q I hq
 refine wpAny_List_spliced (thn (h pos pins s σ H _ I hq) fun us s1 ⟨xs,H1,I1,r,z,q⟩=>⟨by rw [<- r.length]; exact z,?_⟩)
 have hf:H1 s1.heap.objs.size = none:=I1.hok.fresh (Nat.le_refl _)
 refine ⟨.ref s1.heap.objs.size,upd H1 s1.heap.objs.size (.lst xs),I1.laid (t':=s1.toks) (fun b u e=>Heap.get?_push_of_some _ e) (Nat.le_refl _) ?_,rfl,q _ hf⟩
 exact ⟨z,us,0,r,Heap.get?_push_size _ rfl⟩
end
abbrev Sp:=List V->Hp->VK->XK->Prop
abbrev CXT:=List Env->Hp->Shared->XK->Value->Shared->Prop
structure zcU (P:Program) (w:World) (K:Frag) (mg:Str->Option Value) (base:Heap) (A:Around) (outer:List Env) (s:Shared) (H:Hp):Prop where
 frames:A.frames = some outer
 mod:Mod K mg base
 bs:∀ b o,base.get? b = some o->s.heap.get? b = some o/\H b = none
 bsz:base.objs.size<=s.heap.objs.size
 funs:s.heap.FunFrames base outer
 frf:∀ b ∈ frs outer,H b = none
 hok:HOk P w H s.heap
 bare:AllBare s.gens
def CE (outer:List Env) (P:Program) (w:World) (H:Hp) (s:Shared) (Q:VK) (u:Value) (s':Shared):Prop:=
 ∃ v H',s'.os = s.os/\AllBare s'.gens/\Un (frs outer) [] H H' s.heap s'.heap/\HOk P w H' s'.heap/\zO v u/\Q v H'
def CR (CX:CXT) (outer:List Env) (P:Program) (w:World) (H:Hp) (s:Shared) (Q:VK) (E:XK) (r:Result) (s':Shared):Prop:=
 match r with
 | .ok (.ret u)=>CE outer P w H s Q u s'
 | .ok _=>False
 | .error e=>CX outer H s E e s'
structure zC (P:Program) (w:World) (K:Frag) (mg:Str->Option Value) (base:Heap) (CX:CXT) (k:Nat) (f:Addr) (fd:FuncData) (ps:List Str) (sp:Sp):Prop where
 len:∀ vs H Q E,sp vs H Q E->vs.length = ps.length
 run:∀ (A:Around) (outer:List Env) (s:Shared) (H:Hp) (args:Args) (us:List Value) (vs:List V) (Q:VK) (E:XK),ya k A->zcU P w K mg base A outer s H->BindsTo s fd args (ps.zip us)->zK vs us->sp vs H Q E->
  codeAny (model P w) A (.call (.ref f) args) (CR CX outer P w H s Q E) s
theorem zcU.make {P:Program} {w:World} {K:Frag} {mg:Str->Option Value} {base:Heap} {A:Around} {outer:List Env} {s:Shared} {H:Hp} (e:zcU P w K mg base A outer s H) (C:Addr) (us:List Value) (kw:List (Str × Value)) :
  zcU P w K mg base (A.under (.builtin "type.__call__" ⟨.ref C :: us,kw⟩)) outer s H:=⟨by first | exact e.frames | (simpa [Around.under,Code.envs,Code.isFrame,pushEnvs] using e.frames),e.mod,e.bs,e.bsz,e.funs,e.frf,e.hok,e.bare⟩
section
variable {X:Cx} {pins:List (Addr × Obj)} {σ : St} {H:Hp} {s s':Shared}
theorem Inv.env0 (I:Inv X pins σ H s):zcU X.prog X.w X.K X.mg X.base X.A X.stack s H:=
 ⟨I.ok.frames,I.ok.mod,I.bs,Nat.le_trans I.ok.bsz I.sz,I.stack,I.stkFree,I.hok,I.bare⟩
theorem Inv.after {Q:VK} {u:Value} (I:Inv X pins σ H s) (h:CE X.stack X.prog X.w H s Q u s'):EP X pins σ Q u s':=by
 obtain ⟨v,H',os,bare,un,hok,r,q⟩:=h
 obtain ⟨hh,g,d,t,os'⟩:=s'
 obtain rfl:os' = s.os:=os
 exact ⟨v,H',I.call (h':=hh) (g':=g) (d':=d) (t':=t) (ch:=[]) un hok bare (fun b z=>absurd z (by simp)),r,q⟩
end
def zc0 (sp:Sp) (dvs:List V) (E:XK) (t:TA):TE:=fun σ H Q=>t σ H fun vs H1=>sp (vs ++ dvs) H1 Q E
def zhp (C:Addr) (m:Str) (sp:Sp) (dvs:List V) (E:XK) (ta:TE) (t:TA):TE:=fun σ H Q=>ta σ H fun x H1=>∃ a dx fs,x = .ref a/\H1 a = some (.ins C dx fs)/\fs.lookup m = none/\
 t σ H1 fun vs H2=>sp (x :: (vs ++ dvs)) H2 Q E
def zhq (C:Addr) (sp:Sp) (dvs:List V) (E:XK) (t:TA):TE:=fun σ H Q=>t σ H fun vs H1=>∀ x dx,H1 x = none->H1 dx = none->dx ≠ x->
 sp (.ref x :: (vs ++ dvs)) (upd (upd H1 dx (.own x)) x (.ins C dx [])) (fun v H2=>v = .non/\Q (.ref x) H2) E
def zS (K:Frag) (fd:FuncData) (ps:List Str) (ds:List Value):Prop:=
 ∀ (s:Shared) (us:List Value),K.In s.heap->(us ++ ds).length = ps.length->BindsTo s fd ⟨us,[]⟩ (ps.zip (us ++ ds))
theorem zS.all {K:Frag} {fd:FuncData} {ps:List Str} (h:∀ us:List Value,us.length = ps.length->bindArgs fd ⟨us,[]⟩ = pure (ps.zip us)):zS K fd ps []:=fun s us _ hl=>by
 rw [List.append_nil] at hl |-
 exact .of_eq (h us hl)
def xz (CX:CXT) (X:Cx) (E:XK):Prop:=∀ (pins:List (Addr × Obj)) (σ : St) (H:Hp) (s:Shared) (e:Value) (s':Shared),Inv X pins σ H s->CX X.stack H s E e s'->X.xe e s'
section
variable {X:Cx} {CX:CXT} {k:Nat} {f C:Addr} {fd:FuncData} {ps:List Str} {sp:Sp} {dvs:List V} {ds:List Value} {E:XK} {x m:Str} {p pos apos:Pos} {e o:Expr} {es:List Expr} {ta:TE} {t:TA}
theorem jP {pins:List (Addr × Obj)} {σ : St} {H:Hp} {s:Shared} {Q:VK} {us:List Value} {vs:List V} (F:zC X.prog X.w X.K X.mg X.base CX k f fd ps sp) (hr:ya k X.A) (hb:zS X.K fd ps ds) (hd:zK dvs ds) (hx:xz CX X E)
  (I:Inv X pins σ H s) (r:zK vs us) (h:sp (vs ++ dvs) H Q E):wpAny (model X.prog X.w) X.A (call (.ref f) us) (EP X pins σ Q) X.xe s:=by
 have r2:zK (vs ++ dvs) (us ++ ds):=r.append hd
 have hl:(us ++ ds).length = ps.length:=by rw [<- r2.length]; exact F.len _ _ _ _ h
 refine wpAny_call (codeAny_mono (F.run X.A X.stack s H ⟨us,[]⟩ (us ++ ds) (vs ++ dvs) Q E hr I.env0 (hb s us I.kIn hl) r2 h) fun r s' hq=>?_)
 cases r with
 | error e=>exact hx pins σ H s e s' I hq
 | ok fl=>
  cases fl with
  | ret u=>exact I.after hq
  | next=>exact False.elim hq
  | brk=>exact False.elim hq
  | cont=>exact False.elim hq
theorem zdh (F:zC X.prog X.w X.K X.mg X.base CX k f fd ps sp) (hr:ya k X.A) (hg:Gl X x) (hm:X.mg x = some (.ref f)) (hk:keepIn X.K (.ref f) = true) (hb:zS X.K fd ps ds) (hd:zK dvs ds) (hx:xz CX X E)
  (ha:PA X (e :: es) t) (hdb:(x == ("__debug__" : Str)) = false:=by decide) (he:starEach (e :: es) X.env = (false,eval e X.env) :: starEach es X.env:=by rfl) (hpl:(backTo pos (starEach es X.env)).any (·.1) = false:=by rfl) :
  PE X (.Call (.Name x p) (e :: es) [] pos) (zc0 sp dvs E t):=by
 refine ⟨?_⟩
 intro pins s σ H Q I h
 refine wpAny_Call_Name_kw (vC I hg hm ?_ hdb)
 refine callWith_K (h₀:=X.base) I.ok.mod.kin hk (thn (ha pos pins s σ H _ I h) fun us s1 ⟨vs,H1,I1,r,q⟩=>⟨I1.kIn,?_⟩) he hpl
 exact jP F hr hb hd hx I1 r q
theorem zaN {pl:Sem Bool} (he:PE X o ta) (c:Cls X.K C) (hm:y6 X.K C m f) (F:zC X.prog X.w X.K X.mg X.base CX k f fd ps sp) (hr:ya k X.A) (hb:zS X.K fd ps ds) (hd:zK dvs ds) (hx:xz CX X E) (ha:PA X (e :: es) t)
  (hst:starEach (e :: es) X.env = (false,eval e X.env) :: starEach es X.env:=by rfl) (hpl:(backTo pos (starEach es X.env)).any (·.1) = false:=by rfl)
  (ht:eval (.Call (.Attribute o m apos) (e :: es) [] pos) X.env = (do
   let ov <- eval o X.env
   standAt apos.atName
   let (f,first) <- holding [ov] (getMethod ov m pl)
   callWith pos f first (backTo pos (starEach (e :: es) X.env)) (backToKw pos (keywordEach [] X.env))):=by rfl) :
  PE X (.Call (.Attribute o m apos) (e :: es) [] pos) (zhp C m sp dvs E ta t):=by
 refine ⟨?_⟩
 intro pins s σ H Q I h
 refine methodCall_KW (pl:=pl) (thn (he pins s σ H _ I h) fun u s1 ⟨x,H1,I1,rx,a,dx,fs,ex,ea,l,q⟩=>?_) ht
 subst ex
 obtain rfl:u = Value.ref a:=rx
 refine wN I1 ea c hm l ?_
 refine callWith_K (first:=[.ref a]) (h₀:=X.base) I.ok.mod.kin hm.kp (thn (ha pos pins s1 σ H1 _ I1 q) fun us s2 ⟨vs,H2,I2,r,q2⟩=>⟨I2.kIn,?_⟩) hst hpl
 exact jP (us:=.ref a :: us) (vs:=.ref a :: vs) F hr hb hd hx I2 (.cons rfl r) q2
theorem yF {pl:Sem Bool} (he:PE X o ta) (c:Cls X.K C) (hm:y6 X.K C m f) (F:zC X.prog X.w X.K X.mg X.base CX k f fd ps sp) (hr:ya k X.A) (hb:zS X.K fd ps ds) (hd:zK dvs ds) (hx:xz CX X E)
  (ht:eval (.Call (.Attribute o m apos) [] [] pos) X.env = (do
   let ov <- eval o X.env
   standAt apos.atName
   let (f,first) <- holding [ov] (getMethod ov m pl)
   callWith pos f first (backTo pos (starEach [] X.env)) (backToKw pos (keywordEach [] X.env))):=by rfl) :
  PE X (.Call (.Attribute o m apos) [] [] pos) (zhp C m sp dvs E ta zhJ):=by
 refine ⟨?_⟩
 intro pins s σ H Q I h
 refine methodCall_KW (pl:=pl) (thn (he pins s σ H _ I h) fun u s1 ⟨x,H1,I1,rx,a,dx,fs,ex,ea,l,q⟩=>?_) ht
 subst ex
 obtain rfl:u = Value.ref a:=rx
 refine wN I1 ea c hm l ?_
 exact PySem.W.callWith_K0 (first:=[.ref a]) I1.kIn hm.kp (jP (us:=[.ref a]) (vs:=[.ref a]) F hr hb hd hx I1 (.cons rfl .nil) q)
structure Mk (K:Frag) (C f:Addr):Prop where
 makes:makesIn K C = true
 init:findIn K (.ref C) "__init__" = some (some (.ref f))
 fn:isFn K (.ref f) = true
 kp:keepIn K (.ref C) = true
theorem zeT {pins:List (Addr × Obj)} {σ : St} {H:Hp} {s:Shared} {Q:VK} {us:List Value} {vs:List V} (M:Mk X.K C f) (F:zC X.prog X.w X.K X.mg X.base CX k f fd ps sp) (hr:ya (k + 1) X.A) (hb:zS X.K fd ps ds) (hd:zK dvs ds)
  (hx:xz CX X E) (I:Inv X pins σ H s) (r:zK vs us)
  (h:∀ x dx,H x = none->H dx = none->dx ≠ x->sp (.ref x :: (vs ++ dvs)) (upd (upd H dx (.own x)) x (.ins C dx [])) (fun v H2=>v = .non/\Q (.ref x) H2) E) :
  wpAny (model X.prog X.w) X.A (call (.ref C) us) (EP X pins σ Q) X.xe s:=by
 have hq:=h (s.heap.objs.size + 1) s.heap.objs.size (I.hok.fresh (Nat.le_succ _)) (I.hok.fresh (Nat.le_refl _)) (Nat.ne_of_lt (Nat.lt_succ_self _))
 have I2:=Inv.made (C:=C) I
 have r2:zK (V.ref (s.heap.objs.size + 1) :: (vs ++ dvs)) (Value.ref (s.heap.objs.size + 1) :: (us ++ ds)):=.cons rfl (r.append hd)
 have hl:(Value.ref (s.heap.objs.size + 1) :: us ++ ds).length = ps.length:=by
  have e:=r2.length
  rw [F.len _ _ _ _ hq] at e
  exact e.symm
 refine wpAny_call (zfO (f:=f) I.kIn M.makes M.init (beq_iff_eq.mp M.fn) (codeAny_mono (F.run _ X.stack _ _ ⟨Value.ref (s.heap.objs.size + 1) :: us,[]⟩ (Value.ref (s.heap.objs.size + 1) :: (us ++ ds)) _ _ E (hr.make C us [])
  (I2.env0.make C us []) (hb _ (Value.ref (s.heap.objs.size + 1) :: us) I2.kIn hl) r2 hq) fun r s' hq'=>?_))
 cases r with
 | error e=>exact hx pins σ _ _ e s' I2 hq'
 | ok fl=>
  cases fl with
  | ret u=>
   obtain ⟨v,H',I3,rv,ev,q3⟩:=I2.after hq'
   subst ev
   exact ⟨rv,⟨V.ref (s.heap.objs.size + 1),H',I3,rfl,q3⟩⟩
  | next=>exact False.elim hq'
  | brk=>exact False.elim hq'
  | cont=>exact False.elim hq'
theorem zdf (M:Mk X.K C f) (F:zC X.prog X.w X.K X.mg X.base CX k f fd ps sp) (hr:ya (k + 1) X.A) (hg:Gl X x) (hm:X.mg x = some (.ref C)) (hb:zS X.K fd ps ds) (hd:zK dvs ds) (hx:xz CX X E)
  (ha:PA X (e :: es) t) (hdb:(x == ("__debug__" : Str)) = false:=by decide) (he:starEach (e :: es) X.env = (false,eval e X.env) :: starEach es X.env:=by rfl) (hpl:(backTo pos (starEach es X.env)).any (·.1) = false:=by rfl) :
  PE X (.Call (.Name x p) (e :: es) [] pos) (zhq C sp dvs E t):=by
 refine ⟨?_⟩
 intro pins s σ H Q I h
 refine wpAny_Call_Name_kw (vC I hg hm ?_ hdb)
 refine callWith_K (h₀:=X.base) I.ok.mod.kin M.kp (thn (ha pos pins s σ H _ I h) fun us s1 ⟨vs,H1,I1,r,q⟩=>⟨I1.kIn,?_⟩) he hpl
 exact zeT M F hr hb hd hx I1 r q
end
section
variable {X:Cx} {CX:CXT} {k:Nat} {f C:Addr} {fd:FuncData} {ps ks:List Str} {sp:Sp} {E:XK} {x m:Str} {p pos apos kpos:Pos} {e o:Expr} {es:List Expr} {kws:List Keyword} {te ta:TE} {t tk:TA} {nm:Option Str}
structure v0 (K:Frag) (fd:FuncData) (ps ks:List Str) (g:List Value->List Value->List Value) (gV:List V->List V->List V):Prop where
 to:∀ (s:Shared) (us ws:List Value),K.In s.heap->(g us ws).length = ps.length->BindsTo s fd ⟨us,ks.zip ws⟩ (ps.zip (g us ws))
 rel:∀ {vs:List V} {us:List Value} {zs:List V} {ws:List Value},zK vs us->zK zs ws->zK (gV vs zs) (g us ws)
variable {g:List Value->List Value->List Value} {gV:List V->List V->List V}
end
structure zu (N P:List Str) (sc:Scope):Prop where
 kind:sc.kind = .function
 co:sc.isCoroutine = false
 gen:sc.isGenerator = false
 nd:N.Nodup
 pre:N.take P.length = P
 par:∀ x ∈ P,sc.names.lookup x = some .local\/sc.names.lookup x = some .cell
 nofree:∀ y ∈ sc.names,y.2 ≠ .free
theorem zaj {kindOf:Str->Option NameKind} {x:Str}:∀ {binds:List (Str × Value)} {m:Str->Option Value},(∀ v,(x,v) ∉ binds)->bindL kindOf binds m x = m x
 | [],_,_=>rfl
 | (n,v) :: r,m,h=>by
  unfold bindL
  rw [zaj fun w hw=>h w (List.mem_cons_of_mem _ hw)]
  split
  ·have:x ≠ n:=by rintro rfl; exact h v List.mem_cons_self
   simp [this]
  ·rfl
theorem zal {kindOf:Str->Option NameKind} {x:Str}:∀ {binds:List (Str × Value)} {m:Str->Option Value},(∀ v,(x,v) ∉ binds)->bindC kindOf binds m x = m x
 | [],_,_=>rfl
 | (n,v) :: r,m,h=>by
  unfold bindC
  rw [zal fun w hw=>h w (List.mem_cons_of_mem _ hw)]
  split
  ·rfl
  ·have:x ≠ n:=by rintro rfl; exact h v List.mem_cons_self
   simp [this]
theorem zak {kindOf:Str->Option NameKind} {x:Str} {v:Value}:∀ {P:List Str} {vs:List Value} {i:Nat} {m:Str->Option Value},P.Nodup->P[i]? = some x->vs[i]? = some v->kindOf x = some .local->
  bindL kindOf (P.zip vs) m x = some v
 | [],_,_,_,_,h,_,_=>by simp at h
 | _ :: _,[],_,_,_,_,h,_=>by simp at h
 | p :: P,w :: vs,0,m,nd,h1,h2,hk=>by
  simp at h1 h2; subst h1; subst h2
  show bindL kindOf ((p,w) :: P.zip vs) m p = _
  unfold bindL
  rw [zaj fun v hv=>(List.nodup_cons.mp nd).1 (List.of_mem_zip hv).1,if_pos hk]
  simp
 | p :: P,w :: vs,i + 1,m,nd,h1,h2,hk=>by
  show bindL kindOf ((p,w) :: P.zip vs) m x = _
  unfold bindL
  exact zak (i:=i) (List.nodup_cons.mp nd).2 (by simpa using h1) (by simpa using h2) hk
theorem zam {kindOf:Str->Option NameKind} {x:Str} {v:Value}:∀ {P:List Str} {vs:List Value} {i:Nat} {m:Str->Option Value},P.Nodup->P[i]? = some x->vs[i]? = some v->kindOf x ≠ some .local->
  bindC kindOf (P.zip vs) m x = some v
 | [],_,_,_,_,h,_,_=>by simp at h
 | _ :: _,[],_,_,_,_,h,_=>by simp at h
 | p :: P,w :: vs,0,m,nd,h1,h2,hk=>by
  simp at h1 h2; subst h1; subst h2
  show bindC kindOf ((p,w) :: P.zip vs) m p = _
  unfold bindC
  rw [zal fun v hv=>(List.nodup_cons.mp nd).1 (List.of_mem_zip hv).1,if_neg hk]
  simp
 | p :: P,w :: vs,i + 1,m,nd,h1,h2,hk=>by
  show bindC kindOf ((p,w) :: P.zip vs) m x = _
  unfold bindC
  exact zam (i:=i) (List.nodup_cons.mp nd).2 (by simpa using h1) (by simpa using h2) hk
def wT (N:List Str) (vs:List V):St:=vs.map some ++ List.replicate (N.length - vs.length) none
def qj (CX:CXT) (P:Program) (w:World) (K:Frag) (mg:Str->Option Value) (base:Heap) (N:List Str) (qual:Str) (scope:Scope) (f:Addr) (cd:Value) (A:Around) (outer:List Env) (s:Shared) (H:Hp) (E:XK):Cx where
 prog:=P
 w:=w
 K:=K
 mg:=mg
 base:=base
 A:=A.deeper (envOfC qual scope s.heap.objs.size f cd)
 N:=N
 s₀:=s
 H₀:=H
 env:=envOfC qual scope s.heap.objs.size f cd
 outer:=outer
 stack:=envOfC qual scope s.heap.objs.size f cd :: outer
 ex:=[]
 calm:=true
 fn:=fun _=>true
 pn:=[]
 xe:=fun e s'=>wpAny (model P w) (A.deeper (envOfC qual scope s.heap.objs.size f cd)) (leaving (envOfC qual scope s.heap.objs.size f cd) e) (fun _ s''=>CX outer H s E e s'') (fun e' s''=>CX outer H s E e' s'') s'
theorem zbY {sc:Scope} {n:Nat} {x:Str} (h:sc.names.lookup x = some .cell):∃ c,(cellsFrom n sc.names []).lookup x = some c:=by
 have q:=PySem.W.cellsFrom_some sc.names n [] (.inl h)
 exact Option.isSome_iff_exists.mp q
theorem zes {CX:CXT} {P:Program} {w:World} {K:Frag} {mg:Str->Option Value} {base:Heap} {N ps:List Str} {qual:Str} {scope:Scope} {f:Addr} {cd:Value} {A:Around} {outer:List Env} {s s1:Shared} {H:Hp} {E:XK} {us:List Value} {vs:List V}
  (S:zu N ps scope) (hd:A.handled = none) (e0:zcU P w K mg base A outer s H) (hl:vs.length = ps.length) (r:zK vs us)
  (x:InCallC s s.heap.objs.size (bindL (envOfC qual scope s.heap.objs.size f cd).kindOf (ps.zip us) fun _=>none) (cellsFrom (s.heap.objs.size + 1) scope.names []) (bindC (envOfC qual scope s.heap.objs.size f cd).kindOf (ps.zip us) fun _=>none) s1) :
  Inv (qj CX P w K mg base N qual scope f cd A outer s H E) [] (wT N vs) H s1:=by
 have hpl:ps.length<=N.length:=by have:=congrArg List.length S.pre; rw [List.length_take] at this; omega
 obtain ⟨h1,tk,rfl,hk⟩:=x.done
 have noA:∀ b:Addr,b ∉ (qj CX P w K mg base N qual scope f cd A outer s H E).ex:=fun b z=>absurd (show b ∈ ([]:List Addr) from z) (by simp)
 refine ⟨⟨e0.mod,S.kind,rfl,rfl,Nat.le_refl _,fun y z c h1 h2=>?_,fun y hy=>?_,fun y c _ h=>?_,fun _=>hd,Around.frames_deeper e0.frames,.inr ⟨rfl,rfl⟩,fun b z=>absurd z (noA b),e0.bs,e0.bsz,fun b _ _=>noA b,fun b z=>absurd z (noA b),e0.funs,e0.frf⟩,
  rfl,e0.bare,Un.kept hk,⟨_,x.toInCall.ns,fun i y v h1 h2 h3=>?_⟩,fun y c h=>⟨_,x.cell y c h⟩,e0.hok.fresh (Nat.le_refl _),fun y c h=>?_,fun p hp=>absurd (show p ∈ ([]:List (Addr × Obj)) from hp) (by simp),e0.hok.kept hk,?_⟩
 ·exact name_of_addr x.apart (PySem.mem_of_lookup h1) (PySem.mem_of_lookup h2)
 ·have hy:scope.names.lookup y = some .cell\/scope.names.lookup y = some .free:=hy
  rcases hy with hy | hy
  ·exact zbY hy
  ·exact absurd rfl (S.nofree _ (PySem.mem_of_lookup hy))
 ·exact Nat.le_of_lt (x.above y c (PySem.mem_of_lookup h))
 ·have hi:i < vs.length:=by
   unfold wT at h2
   by_cases hi:i < vs.length
   ·exact hi
   ·rw [List.getElem?_append_right (by simpa using hi)] at h2
    rw [List.getElem?_replicate] at h2
    split at h2 <;> cases h2
  have ha:vs[i]? = some v:=by
   unfold wT at h2
   rw [List.getElem?_append_left (by simpa using hi),List.getElem?_map] at h2
   cases e:vs[i]? with
   | none=>rw [e] at h2; cases h2
   | some a=>rw [e] at h2; cases h2; rfl
  obtain ⟨u,hu,rv⟩:=r.get ha
  have hp:ps[i]? = some y:=by
   rw [<- S.pre,List.getElem?_take_of_lt (by omega)]; exact h1
  have ndP:ps.Nodup:=by rw [<- S.pre]; exact S.nd.sublist (List.take_sublist _ _)
  refine ⟨u,rv,?_⟩
  rcases S.par y (List.mem_of_getElem? hp) with k | k
  ·exact .inl ⟨k,zak ndP hp hu k⟩
  ·obtain ⟨c,e⟩:=zbY (n:=s.heap.objs.size + 1) k
   refine .inr ⟨.inl k,c,e,?_⟩
   have q:=x.cell y c e
   rw [zam ndP hp hu (by show scope.names.lookup y ≠ _; rw [k]; decide)] at q
   exact q
 ·exact e0.hok.fresh (Nat.le_of_lt (x.above y c (PySem.mem_of_lookup h)))
 ·unfold wT
  show _ = N.length
  rw [List.length_append,List.length_map,List.length_replicate]
  omega
theorem zdx {CX:CXT} {P:Program} {w:World} {K:Frag} {mg:Str->Option Value} {base:Heap} {k:Nat} {f:Addr} {name qual:Str} {params:Arguments} {body:List Stmt} {scope:Scope} {dV kV doc pm cdv ct oc:Value} {an od:Option Addr}
  {osl:Array (Option Value)} {N ps:List Str} {sp:Sp} (lk:K.lookup f = some ⟨oc,od,.func (fnOf name qual params body scope dV kV doc pm an cdv ct),osl⟩) (hcd:codeIn K cdv qual = true) (S:zu N ps scope)
  (len:∀ vs H Q E,sp vs H Q E->vs.length = ps.length)
  (hbody:∀ (A:Around) (outer:List Env) (s:Shared) (H:Hp) (vs:List V) (Q:VK) (E:XK),ya k (A.deeper (envOfC qual scope s.heap.objs.size f cdv))->sp vs H Q E->
   ∃ t,PSs (qj CX P w K mg base N qual scope f cdv A outer s H E) body t/\t { nx:=fun _ H'=>Q .non H',rt:=Q } (wT N vs) H) :
  zC P w K mg base CX (k + 1) f (fnOf name qual params body scope dV kV doc pm an cdv ct) ps sp:=by
 refine ⟨len,fun A outer s H args us vs Q E hr e0 hb r hsp=>?_⟩
 have hl:=len _ _ _ _ hsp
 have KX:K.In s.heap:=e0.mod.kin.keeps fun b o e=>(e0.bs b o e).1
 have lim:s.heap.NoLimit:=e0.mod.nolimit.keeps fun b o e=>(e0.bs b o e).1
 have hkind:∀ y ∈ ps.zip us,scope.names.lookup y.1 = some .local\/(scope.names.lookup y.1 = some .cell/\((cellsFrom (s.heap.objs.size + 1) scope.names []).lookup y.1).isSome = true):=fun ⟨n,v⟩ hy=>by
  rcases S.par n (List.of_mem_zip hy).1 with q | q
  ·exact .inl q
  ·exact .inr ⟨q,PySem.W.cellsFrom_some _ _ _ (.inl q)⟩
 refine codeAny_call_function hr.depth (KX _ _ lk) rfl S.co S.gen rfl (PySem.W.codeRec_of KX hcd) (hb _ _ _ _ ?_)
 refine wpAny_newFunctionEnv_cells S.kind hkind fun env he s1 x=>?_
 subst he
 refine ⟨lim.keeps x.toInCall.keep,codeAny_func ?_⟩
 obtain ⟨t,ht,hq⟩:=hbody A outer s H vs Q E (hr.deeper _) hsp
 have I:Inv (qj CX P w K mg base N qual scope f cdv A outer s H E) [] (wT N vs) H s1:=zes S hr.hd e0 hl r x
 refine wpAny_mono (ht [] s1 (wT N vs) H _ I hq) (fun fl s' hs=>?_) fun e s' hs=>hs
 have fin:∀ {σ':St} {H':Hp} {v:V} {u:Value},Inv (qj CX P w K mg base N qual scope f cdv A outer s H E) [] σ' H' s'->zO v u->Q v H'->CE outer P w H s Q u s':=
  fun {σ' H' v u} J rv q=>⟨v,H',J.os,J.bare,J.base,J.hok,rv,q⟩
 cases fl with
 | ret u=>
  obtain ⟨v,σ',H',J,rv,q⟩:=hs
  exact fin J rv q
 | next=>
  obtain ⟨σ',H',J,q⟩:=hs
  exact fin (v:=V.non) (u:=Value.none) J rfl q
 | brk=>
  obtain ⟨_,_,_,q⟩:=hs
  exact False.elim q
 | cont=>
  obtain ⟨_,_,_,q⟩:=hs
  exact False.elim q
section
variable {X:Cx} {x:Str} {p pos:Pos} {e:Expr} {es:List Expr} {t:TA} {id T:String} {r:List V->Hp->VK->Prop}
def tCB (r:List V->Hp->VK->Prop) (t:TA):TE:=fun σ H Q=>t σ H fun vs H1=>r vs H1 Q
theorem zfb (hc:xk X (.builtin id) r) (hg:Gl X x) (hm:X.mg x = none) (hv:bootBuiltins x = some (.builtin id)) (ha:PA X (e :: es) t) (hn:x ≠ "__name__":=by decide) (hdb:(x == ("__debug__" : Str)) = false:=by decide)
  (he:starEach (e :: es) X.env = (false,eval e X.env) :: starEach es X.env:=by rfl) (hpl:(backTo pos (starEach es X.env)).any (·.1) = false:=by rfl):PE X (.Call (.Name x p) (e :: es) [] pos) (tCB r t):=by
 refine ⟨?_⟩
 intro pins s σ H Q I h
 refine wpAny_Call_Name_kw (vg I hg hm hv ?_ hn hdb)
 exact PyProof.Rows.callWith_builtin1 (thn (ha pos pins s σ H _ I h) fun us s1 ⟨vs,H1,I1,r1,q1⟩=>hc pins s1 σ H1 vs us Q I1 r1 q1) he hpl
theorem zd2 (hc:xk X (.type T) r) (hg:Gl X x) (hm:X.mg x = none) (hv:bootBuiltins x = some (.type T)) (ha:PA X (e :: es) t) (hn:x ≠ "__name__":=by decide) (hdb:(x == ("__debug__" : Str)) = false:=by decide)
  (he:starEach (e :: es) X.env = (false,eval e X.env) :: starEach es X.env:=by rfl) (hpl:(backTo pos (starEach es X.env)).any (·.1) = false:=by rfl):PE X (.Call (.Name x p) (e :: es) [] pos) (tCB r t):=by
 refine ⟨?_⟩
 intro pins s σ H Q I h
 refine wpAny_Call_Name_kw (vg I hg hm hv ?_ hn hdb)
 exact PyProof.Rows.callWith_type1 (thn (ha pos pins s σ H _ I h) fun us s1 ⟨vs,H1,I1,r1,q1⟩=>hc pins s1 σ H1 vs us Q I1 r1 q1) he hpl
theorem zcl (hc:xk X (.type T) r) (hg:Gl X x) (hm:X.mg x = none) (hv:bootBuiltins x = some (.type T)) (hn:x ≠ "__name__":=by decide) (hdb:(x == ("__debug__" : Str)) = false:=by decide) :
  PE X (.Call (.Name x p) [] [] pos) (tCB r zhJ):=by
 refine ⟨?_⟩
 intro pins s σ H Q I h
 refine wpAny_Call_Name_kw (vg I hg hm hv ?_ hn hdb)
 exact PyProof.Rows.callWith_type0 (hc pins s σ H [] [] Q I .nil h)
end
end L2
namespace HT
open PySem PyProof.Rows
section
open PySem.SeqAt
open PySem.AutoSeq1 (wpAny_loadPart')
open PySem.MeetsSeq PySem.MeetsSeq2 PySem.MeetsSeq3
end
section
variable {prog:Program} {w:World} {A:Around} {E:Value->Shared->Prop} {s:Shared}
def sIx (n d:Nat):Option Int->Nat
 | none=>d
 | some v=>if v < 0 then (v + (n:Int)).toNat else min v.toNat n
theorem zjc (n d:Nat):sIx n d none = d:=rfl
theorem zjO (n d k:Nat):sIx n d (some (k:Int)) = min k n:=by
 show (if (k:Int) < 0 then ((k:Int) + (n:Int)).toNat else min (k:Int).toNat n) = min k n
 rw [if_neg (by omega),Int.toNat_natCast]
end
end HT
namespace L2
open PySem PySem.Spec PyProof.Rows
abbrev TO:=St->Hp->(Option Int->Hp->Prop)->Prop
structure PO (X:Cx) (e:Option Expr) (t:TO):Prop where
 run:∀ (pins:List (Addr × Obj)) (s:Shared) (σ : St) (H:Hp) (Q:Option Int->Hp->Prop),Inv X pins σ H s->t σ H Q->
  wpAny (model X.prog X.w) X.A (evalPart e X.env) (fun u s'=>∃ o H',Inv X pins σ H' s'/\IsPart u o/\Q o H') X.xe s
instance {X:Cx} {e:Option Expr} {t:TO}:CoeFun (PO X e t) (fun _=>∀ (pins:List (Addr × Obj)) (s:Shared) (σ : St) (H:Hp) (Q:Option Int->Hp->Prop),Inv X pins σ H s->t σ H Q->
  wpAny (model X.prog X.w) X.A (evalPart e X.env) (fun u s'=>∃ o H',Inv X pins σ H' s'/\IsPart u o/\Q o H') X.xe s):=⟨PO.run⟩
def zgo:TO:=fun _ H Q=>Q none H
def zi0 (t:TE):TO:=fun σ H Q=>t σ H fun x H1=>∃ i,x = .int i/\Q (some i) H1
section
variable {X:Cx} {e:Expr} {te:TE} {lo hi:Option Expr} {tl th:TO} {pos p2:Pos}
theorem yp:PO X none zgo:=by
 refine ⟨?_⟩
 intro pins s σ H Q I h
 rw [evalPart_none]
 exact wpAny_pure ⟨none,H,I,.none,h⟩
theorem z9 (h:PE X e te):PO X (some e) (zi0 te):=by
 refine ⟨?_⟩
 intro pins s σ H Q I hw
 rw [evalPart_some]
 refine thn (h pins s σ H _ I hw) fun u s1 ⟨x,H1,I1,r1,q1⟩=>?_
 obtain ⟨i,rfl,q⟩:=q1
 obtain ⟨t,rfl⟩:=r1
 exact ⟨some i,H1,I1,.int i t,q⟩
def SlR (X:Cx) (r:V->Option Int->Option Int->Hp->VK->Prop):Prop:=
 ∀ (pins:List (Addr × Obj)) (s:Shared) (σ : St) (H:Hp) (x:V) (v vl vu:Value) (lo hi:Option Int) (sl:Addr) (Q:VK),Inv X pins σ H s->zO x v->s.heap.IsSliceOf sl vl vu .none->IsPart vl lo->IsPart vu hi->r x lo hi H Q->
  ∃ T id,typeLookup (.type T) "__getitem__" = pure (some (.builtin id))/\s.TypeIs v T/\wpAny (model X.prog X.w) X.A (getItem v (.ref sl)) (EP X pins σ Q) X.xe s
def tSl (r:V->Option Int->Option Int->Hp->VK->Prop) (te:TE) (tl th:TO):TE:=fun σ H Q=>te σ H fun x H1=>tl σ H1 fun l H2=>th σ H2 fun u H3=>r x l u H3 Q
theorem zY {r:V->Option Int->Option Int->Hp->VK->Prop} (hr:SlR X r) (he:PE X e te) (hl:PO X lo tl) (hu:PO X hi th):PE X (.Subscript e (.Slice lo hi none p2) pos) (tSl r te tl th):=by
 refine ⟨?_⟩
 intro pins s σ H Q I h
 refine Subscript_ (thn (he pins s σ H _ I h) fun v s1 ⟨x,H1,I1,r1,q1⟩=>?_)
 refine wpAny_Slice (thn (hl pins s1 σ H1 _ I1 q1) fun vl s2 ⟨l,H2,I2,pl,q2⟩=>thn (hu pins s2 σ H2 _ I2 q2) fun vu s3 ⟨u,H3,I3,pu,q3⟩=>?_)
 rw [evalPart_none]
 refine wpAny_pure ?_
 have I4:Inv X pins σ H3 { s3 with heap:=s3.heap.push { cls:=.type "slice",data:=.fields #[vl,vu,.none] } }:=I3.kept (t':=s3.toks) fun b ob q=>Heap.get?_push_of_some _ q
 obtain ⟨T,id,hT,ht,hg⟩:=hr pins { s3 with heap:=s3.heap.push { cls:=.type "slice",data:=.fields #[vl,vu,.none] } } σ H3 x v vl vu l u s3.heap.objs.size Q I4 r1 (Heap.IsSliceOf.new ..) pl pu q3
 show wpAny (model X.prog X.w) X.A (subscriptTail e (.Slice lo hi none p2) v (.ref s3.heap.objs.size)) (EP X pins σ Q) X.xe { s3 with heap:=s3.heap.push { cls:=.type "slice",data:=.fields #[vl,vu,.none] } }
 exact tail_any (ops:=[.ref s3.heap.objs.size,v]) ht hT hg (by with_unfolding_all rfl)
def xN (xs:List V) (lo hi:Option Int):List V:=(xs.drop (HT.sIx xs.length 0 lo)).take (HT.sIx xs.length xs.length hi - HT.sIx xs.length 0 lo)
theorem zbU (xs:List V) (lo hi:Option Int):(xN xs lo hi).length<=xs.length:=by
 unfold xN
 rw [List.length_take,List.length_drop]
 omega
end
def ixN (n:Nat) (i:Int):Option Nat:=if 0<=i then (if i < n then some i.toNat else none) else if -(n:Int)<=i then some (i + n).toNat else none
def atI {α : Type} (xs:List α) (i:Int):Option α:=(ixN xs.length i).bind fun j=>xs[j]?
theorem zdq {n:Nat} {i:Int} {j:Nat} (h:ixN n i = some j):seqIndex? i n = some j/\j < n/\-(n:Int)<=i/\i < n:=by
 unfold ixN at h
 by_cases h0 : 0<=i
 ·rw [if_pos h0] at h
  by_cases h1:i < n
  ·rw [if_pos h1] at h
   have e:i.toNat = j:=Option.some.inj h
   exact ⟨by rw [seqIndex_of h0 h1,e],by omega,by omega,h1⟩
  ·rw [if_neg h1] at h; cases h
 ·rw [if_neg h0] at h
  by_cases h1 : -(n:Int)<=i
  ·rw [if_pos h1] at h
   have e:(i + n).toNat = j:=Option.some.inj h
   exact ⟨by rw [seqIndex_neg (by omega) h1,e],by omega,h1,by omega⟩
  ·rw [if_neg h1] at h; cases h
theorem za2 {α : Type} {xs:List α} {i:Int} {v : α} (h:atI xs i = some v):∃ j,seqIndex? i xs.length = some j/\xs[j]? = some v/\j < xs.length/\-(xs.length:Int)<=i/\i < xs.length:=by
 unfold atI at h
 cases e:ixN xs.length i with
 | none=>rw [e] at h; cases h
 | some j=>
  rw [e] at h
  obtain ⟨h1,h2,h3,h4⟩:=zdq e
  exact ⟨j,h1,h,h2,h3,h4⟩
theorem y4 {α : Type} {xs:List α} {j:Nat} {v : α} (h:xs[j]? = some v):atI xs (j:Int) = some v:=by
 have hj:j < xs.length:=(List.getElem?_eq_some_iff.mp h).1
 have e:ixN xs.length (j:Int) = some j:=by
  unfold ixN
  rw [if_pos (by omega),if_pos (by omega)]; simp
 unfold atI; rw [e]; exact h
def zhn (b:Expr):Prop:=∀ o i,subscripted b false o i = operate [o,i] (getItem o i)
def IxR (X:Cx) (r:R2):Prop:=
 ∀ (value slice:Expr) (pins:List (Addr × Obj)) (s:Shared) (σ : St) (H:Hp) (x y:V) (v u:Value) (Q:VK),Inv X pins σ H s->zO x v->zO y u->r x y H Q->
  subscripted slice false v u = operate [v,u] (getItem v u)->wpAny (model X.prog X.w) X.A (subscriptTail value slice v u) (EP X pins σ Q) X.xe s
def MtR (X:Cx) (id:String) (r:V->List V->Hp->VK->Prop):Prop:=
 ∀ (pins:List (Addr × Obj)) (s:Shared) (σ : St) (H:Hp) (x:V) (xs:List V) (v:Value) (us:List Value) (Q:VK),Inv X pins σ H s->zO x v->zK xs us->r x xs H Q->
  wpAny (model X.prog X.w) X.A (call (.builtin id) (v :: us)) (EP X pins σ Q) X.xe s
section
variable {X:Cx} {a b:Expr} {ta tb:TE} {pos:Pos}
theorem zI {r:R2} (hr:IxR X r) (ha:PE X a ta) (hb:PE X b tb) (hs:zhn b):PE X (.Subscript a b pos) (tOp r ta tb):=by
 refine ⟨?_⟩
 intro pins s σ H Q I h
 exact Subscript_ (ziL ha hb I h fun v u s2 x y H2 I2 rx ry q=>hr a b pins s2 σ H2 x y v u Q I2 rx ry q (hs _ _))
def zh6 (K:Frag):R2:=fun x y H Q=>∃ p xs i v,x = .ref p/\y = .int i/\SqL K H p xs/\atI xs i = some v/\Q v H
def zh5 (K:Frag):R2:=fun x y H Q=>∃ p xs i v,x = .ref p/\y = .int i/\SqT K H p xs/\atI xs i = some v/\Q v H
def zj5:R2:=fun x y H Q=>∃ z i c,x = .str z/\y = .int i/\z.length<=sizeLine/\atI z.cps.toList i = some c/\Q (.str ⟨#[c]⟩) H
theorem yf:IxR X (zh6 X.K):=by
 intro value slice pins s σ H x y v u Q I rx ry h hs
 obtain ⟨p,xs,i,z,rfl,rfl,hq,he,q⟩:=h
 cases rx
 obtain ⟨t,rfl⟩:=ry
 obtain ⟨its,r,pl,hz⟩:=I.list hq
 obtain ⟨j,h1,h2,h3,h4,h5⟩:=za2 he
 obtain ⟨w,ew,rw'⟩:=r.get h2
 have hl:=r.length
 have hn:=vY
 have fin:EP X pins σ Q w s:=⟨z,H,I,rw',q⟩
 by_cases h0 : 0<=i
 ·have hj:i.toNat = j:=by
   rw [seqIndex_of h0 h5] at h1
   exact Option.some.inj h1
  exact item_listR pl.isList h0 (by omega) (by rw [hj]; simpa using ew) fin hs
 ·have hj:(i + (its.toArray.size:Int)).toNat = j:=by
   rw [seqIndex_neg (by omega) h4] at h1
   rw [List.size_toArray,<- hl]
   exact Option.some.inj h1
  exact subscriptTail_builtinR (x:=w) pl.isList.typeIs slot_list_getitem.lookup
   (wpAny_getItem_list_neg (Q:=fun r s'=>r = w/\EP X pins σ Q r s') pl.isList (by omega) (by rw [List.size_toArray] <;> omega) (by omega) (by rw [hj]; simpa using ew) ⟨rfl,fin⟩) hs
theorem zQ:IxR X (zh5 X.K):=by
 intro value slice pins s σ H x y v u Q I rx ry h hs
 obtain ⟨p,xs,i,z,rfl,rfl,hq,he,q⟩:=h
 cases rx
 obtain ⟨t,rfl⟩:=ry
 obtain ⟨its,r,pl,hz⟩:=I.tuple hq
 obtain ⟨j,h1,h2,h3,h4,h5⟩:=za2 he
 obtain ⟨w,ew,rw'⟩:=r.get h2
 have hl:=r.length
 have hn:=vY
 have fin:EP X pins σ Q w s:=⟨z,H,I,rw',q⟩
 exact subscriptTail_builtinR (x:=w) pl.typeIs slot_tuple_getitem.lookup
  (getItem_tuple (j:=j) (Q:=fun r s'=>r = w/\EP X pins σ Q r s') pl (by omega) (by omega) (by rw [List.size_toArray,<- hl]; exact h1) (by simpa using ew) ⟨rfl,fin⟩) hs
theorem zfX:IxR X zj5:=by
 intro value slice pins s σ H x y v u Q I rx ry h hs
 obtain ⟨z,i,c,rfl,rfl,hz,he,q⟩:=h
 obtain ⟨t,rfl⟩:=rx
 obtain ⟨t',rfl⟩:=ry
 obtain ⟨j,h1,h2,h3,h4,h5⟩:=za2 he
 have hl:z.cps.toList.length = z.length:=by simp [Str.length]
 rw [hl] at h1 h4 h5
 have hn:=vY
 exact tail_any (typeIs_str s z t) slot_str_getitem.lookup (getItem_str (c:=c) (by
  have e1:decide (i < -(2 ^ 63:Int)) = false:=decide_eq_false (by omega)
  have e2:decide (i>=2 ^ 63) = false:=decide_eq_false (by omega)
  rw [e1,e2,Bool.or_false]) (by rw [h1]; simpa using h2) ⟨.str ⟨#[c]⟩,H,I.tok _,⟨_,rfl⟩,q⟩) hs
theorem zct (its:List Value) (n j:Nat) (u:Value):Obj.mapSeq (·.setIfInBounds j u) { cls:=.type "list",data:=.seq its.toArray n } = { cls:=.type "list",data:=.seq (its.set j u).toArray n }:=by
 simp [Obj.mapSeq]
theorem Inv.lst {pins:List (Addr × Obj)} {σ : St} {H:Hp} {s:Shared} {p:Addr} {xs:List V} (I:Inv X pins σ H s) (h:H p = some (.lst xs)) :
  ∃ (its:List Value) (n:Nat),zK xs its/\s.heap.get? p = some { cls:=.type "list",data:=.seq its.toArray n }/\xs.length<=sizeLine:=by
 obtain ⟨z,its,n,r,e⟩:=I.hok p _ h
 exact ⟨its,n,r,e,z⟩
theorem Inv.lstUpd {pins:List (Addr × Obj)} {σ : St} {H:Hp} {s:Shared} {p:Addr} {xs ys:List V} {its its':List Value} {n n':Nat} {f:Obj->Obj} (I:Inv X pins σ H s) (h:H p = some (.lst xs))
  (ho:s.heap.get? p = some { cls:=.type "list",data:=.seq its.toArray n }) (hf:f { cls:=.type "list",data:=.seq its.toArray n } = { cls:=.type "list",data:=.seq its'.toArray n' }) (r:zK ys its') (hz:ys.length<=sizeLine) (t:Nat) :
  Inv X pins σ (upd H p (.lst ys)) { s with heap:=s.heap.update p f,toks:=t }:=by
 have e:(s.heap.update p f).get? p = some { cls:=.type "list",data:=.seq its'.toArray n' }:=by
  rw [Heap.get?_update_self f ho (by rw [hf] <;> rfl),hf]
 refine I.write (x:=p) (e:=p) (by rw [h]; trivial) (.inl rfl) (fun b u hb q=>(Heap.get?_update_other _ _ (Ne.symm hb)).trans q) ⟨_,e⟩ ?_
 exact ⟨hz,its',n',r,e⟩
def zjf:V->V->V->Hp->(Hp->Prop)->Prop:=fun o i v H Q=>∃ p xs k j,o = .ref p/\i = .int k/\H p = some (.lst xs)/\ixN xs.length k = some j/\Q (upd H p (.lst (xs.set j v)))
theorem zbh:zjM X zjf:=by
 intro pins s σ H o i v ov iv u Q I ro ri rv h
 obtain ⟨p,xs,k,j,rfl,rfl,hp,hj,q⟩:=h
 cases ro
 obtain ⟨t,rfl⟩:=ri
 obtain ⟨its,n,r,ho,hz⟩:=I.lst hp
 obtain ⟨h1,h2,h3,h4⟩:=zdq hj
 have hl:=r.length
 have hn:=vY
 have I':Inv X pins σ (upd H p (.lst (xs.set j v))) { s with heap:=s.heap.update p (Obj.mapSeq (·.setIfInBounds j u)) }:=
  I.lstUpd hp ho (zct its n j u) (r.set rv j) (by rw [List.length_set]; exact hz) s.toks
 by_cases h0 : 0<=k
 ·have hk:k.toNat = j:=by
   rw [seqIndex_of h0 h4] at h1
   exact Option.some.inj h1
  exact PySem.W.ki_setAt ho h0 (by omega) (by rw [List.size_toArray,<- hl]; exact h4) (by rw [hk]; exact ⟨_,I',q⟩)
 ·have hk:(k + (its.toArray.size:Int)).toNat = j:=by
   rw [seqIndex_neg (by omega) h3] at h1
   rw [List.size_toArray,<- hl]
   exact Option.some.inj h1
  exact PySem.W.ki_setBack ho (by omega) (by rw [List.size_toArray,<- hl]; exact h3) (by omega) (by rw [hk]; exact ⟨_,I',q⟩)
theorem zaF (lo hi:Option Int) (n:Nat):(sliceBounds lo hi none n).1 = ((HT.sIx n 0 lo:Nat):Int)/\(sliceBounds lo hi none n).2.1 = ((HT.sIx n n hi:Nat):Int)/\(sliceBounds lo hi none n).2.2 = 1:=by
 refine ⟨?_,?_,rfl⟩
 ·cases lo with
  | none=>simp [sliceBounds,HT.sIx]
  | some i=>
   simp only [sliceBounds,HT.sIx,Option.getD_none,show (1:Int) > 0 by decide,if_true]
   by_cases h:i < 0
   ·simp only [h,if_true] <;> omega
   ·simp only [h,if_false] <;> omega
 ·cases hi with
  | none=>simp [sliceBounds,HT.sIx]
  | some i=>
   simp only [sliceBounds,HT.sIx,Option.getD_none,show (1:Int) > 0 by decide,if_true]
   by_cases h:i < 0
   ·simp only [h,if_true] <;> omega
   ·simp only [h,if_false] <;> omega
theorem qt (its:List Value) (lo hi:Option Int):slicePick its.toArray lo hi none = ((its.drop (HT.sIx its.length 0 lo)).take (HT.sIx its.length its.length hi - HT.sIx its.length 0 lo)).toArray:=by
 obtain ⟨h1,h2,h3⟩:=zaF lo hi its.toArray.size
 unfold slicePick
 rw [h1,h2,h3]
 simp only [sliceRange_one,pick_run,List.size_toArray] <;> rfl
def zje (K:Frag):V->Option Int->Option Int->Hp->VK->Prop:=fun x lo hi H Q=>∃ a xs,x = .ref a/\SqL K H a xs/\∀ p,H p = none->Q (.ref p) (upd H p (.lst (xN xs lo hi)))
theorem yj:SlR X (zje X.K):=by
 intro pins s σ H x v vl vu lo hi sl Q I rx hs pl pu h
 obtain ⟨a,xs,rfl,hx,q⟩:=h
 cases rx
 obtain ⟨its,r,ht,hz⟩:=I.list hx
 have hlen:=r.length
 refine ⟨"list",_,slot_list_getitem.lookup,ht.isList.typeIs,?_⟩
 refine wpAny_getItem_list_slice ht.isList hs pl pu .none (by simp) ?_ (by rw [List.size_toArray] <;> omega)
 rw [qt,<- hlen]
 refine ⟨.ref s.heap.objs.size,_,I.laid (t':=s.toks) (o:=.lst (xN xs lo hi)) (fun b ob q=>Heap.get?_push_of_some _ q) (Nat.le_refl _) ?_,rfl,q _ (I.hok.fresh (Nat.le_refl _))⟩
 exact ⟨Nat.le_trans (zbU xs lo hi) hz,_,0,(r.drop (HT.sIx xs.length 0 lo)).take (HT.sIx xs.length xs.length hi - HT.sIx xs.length 0 lo),Heap.get?_push_size _ rfl⟩
def xu:V->Bool
 | .non=>true
 | .bl _=>true
 | .int _=>true
 | .str _=>true
 | _=>false
def eqV:V->V->Bool
 | .non,.non=>true
 | .bl a,.bl b=>a == b
 | .bl a,.int b=>(if a then 1 else 0) == b
 | .int a,.bl b=>a == (if b then 1 else 0)
 | .int a,.int b=>a == b
 | .str a,.str b=>a == b
 | _,_=>false
theorem zf8 {A:Around} {s:Shared} {y x:V} {u v:Value} (ry:zO y u) (rx:zO x v) (fy:xu y = true) (fx:xu x = true):SeqAt.EqAt A s u v (eqV y x):=by
 cases y with
 | non=>
  cases ry
  cases x with
  | non=>cases rx; exact SeqAt.EqAt.same _
  | bl b=>cases rx; exact SeqAt.EqAt.none_bool b
  | int b=>obtain ⟨t,rfl⟩:=rx; exact SeqAt.EqAt.none_int b t
  | str b=>obtain ⟨t,rfl⟩:=rx; exact SeqAt.EqAt.none_str b t
  | _=>exact absurd (show false = true from fx) Bool.false_ne_true
 | bl a=>
  cases ry
  cases x with
  | non=>cases rx; exact SeqAt.EqAt.bool_none a
  | bl b=>cases rx; exact SeqAt.EqAt.bool_bool a b
  | int b=>obtain ⟨t,rfl⟩:=rx; exact SeqAt.EqAt.bool_int a b t
  | str b=>obtain ⟨t,rfl⟩:=rx; exact SeqAt.EqAt.bool_str a b t
  | _=>exact absurd (show false = true from fx) Bool.false_ne_true
 | int a=>
  obtain ⟨t',rfl⟩:=ry
  cases x with
  | non=>cases rx; exact SeqAt.EqAt.int_none a t'
  | bl b=>cases rx; exact SeqAt.EqAt.int_bool a t' b
  | int b=>obtain ⟨t,rfl⟩:=rx; exact SeqAt.EqAt.int_int a t' b t
  | str b=>obtain ⟨t,rfl⟩:=rx; exact SeqAt.EqAt.int_str a t' b t
  | _=>exact absurd (show false = true from fx) Bool.false_ne_true
 | str a=>
  obtain ⟨t',rfl⟩:=ry
  cases x with
  | non=>cases rx; exact SeqAt.EqAt.str_none a t'
  | bl b=>cases rx; exact SeqAt.EqAt.str_bool a t' b
  | int b=>obtain ⟨t,rfl⟩:=rx; exact SeqAt.EqAt.str_int a t' b t
  | str b=>obtain ⟨t,rfl⟩:=rx; exact SeqAt.EqAt.str_str a t' b t
  | _=>exact absurd (show false = true from fx) Bool.false_ne_true
 | _=>exact absurd (show false = true from fy) Bool.false_ne_true
def eqU (x:V) (u:Value):Bool:=match u with
 | .none=>eqV .non x
 | .bool b=>eqV (.bl b) x
 | .int i _=>eqV (.int i) x
 | .str z _=>eqV (.str z) x
 | _=>false
theorem zf7 {x y:V} {u:Value} (r:zO y u) (f:xu y = true):eqU x u = eqV y x:=by
 cases y with
 | non=>cases r; rfl
 | bl b=>cases r; rfl
 | int i=>obtain ⟨t,rfl⟩:=r; rfl
 | str z=>obtain ⟨t,rfl⟩:=r; rfl
 | _=>exact absurd (show false = true from f) Bool.false_ne_true
theorem uE {x:V}:∀ {xs:List V} {us:List Value},zK xs us->xs.all xu = true->us.any (eqU x) = xs.any fun y=>eqV y x
 | _,_,.nil,_=>rfl
 | y :: xs,u :: us,.cons r t,f=>by
  rw [List.all_cons,Bool.and_eq_true] at f
  rw [List.any_cons,List.any_cons,zf7 r f.1,uE t f.2]
theorem vf {A:Around} {s:Shared} {x:V} {v:Value} (rx:zO x v) (fx:xu x = true):∀ {xs:List V} {us:List Value},zK xs us->xs.all xu = true->∀ u ∈ us,SeqAt.EqAt A s u v (eqU x u)
 | _,_,.nil,_=>fun u hu=>by cases hu
 | y :: xs,u :: us,.cons r t,f=>fun u' hu=>by
  rw [List.all_cons,Bool.and_eq_true] at f
  rcases List.mem_cons.mp hu with rfl | hu
  ·rw [zf7 r f.1]; exact zf8 r rx f.1 fx
  ·exact vf rx fx t f.2 u' hu
def inV (x:V) (xs:List V):Bool:=xs.any fun y=>eqV y x
def rIn (K:Frag) (neg:Bool):R2:=fun x y H Q=>∃ p xs,y = .ref p/\(SqL K H p xs\/SqT K H p xs)/\xu x = true/\xs.all xu = true/\Q (.bl (if neg then !inV x xs else inV x xs)) H
theorem y1:OpR X (compareOp .In) (rIn X.K false):=by
 intro pins s σ H x y v u Q I rx ry h
 obtain ⟨p,xs,rfl,hq,fx,fs,q⟩:=h
 cases ry
 rcases hq with hq | hq
 ·obtain ⟨its,r,pl,hz⟩:=I.list hq
  refine SeqAt.in_listAt (eqU x) pl.isList (fun w hw=>vf rx fx r fs w (by simpa using hw)) ⟨.bl _,H,I,rfl,?_⟩
  rw [show its.toArray.any (eqU x) = its.any (eqU x) by simp,uE r fs]
  exact q
 ·obtain ⟨its,r,pl,hz⟩:=I.tuple hq
  refine SeqAt.in_tupleAt (eqU x) pl (fun w hw=>vf rx fx r fs w (by simpa using hw)) ⟨.bl _,H,I,rfl,?_⟩
  rw [show its.toArray.any (eqU x) = its.any (eqU x) by simp,uE r fs]
  exact q
theorem yI:OpR X (compareOp .NotIn) (rIn X.K true):=by
 intro pins s σ H x y v u Q I rx ry h
 obtain ⟨p,xs,rfl,hq,fx,fs,q⟩:=h
 cases ry
 rcases hq with hq | hq
 ·obtain ⟨its,r,pl,hz⟩:=I.list hq
  refine SeqAt.notIn_listAt (eqU x) pl.isList (fun w hw=>vf rx fx r fs w (by simpa using hw)) ⟨.bl _,H,I,rfl,?_⟩
  rw [show its.toArray.any (eqU x) = its.any (eqU x) by simp,uE r fs]
  exact q
 ·obtain ⟨its,r,pl,hz⟩:=I.tuple hq
  refine SeqAt.notIn_tupleAt (eqU x) pl (fun w hw=>vf rx fx r fs w (by simpa using hw)) ⟨.bl _,H,I,rfl,?_⟩
  rw [show its.toArray.any (eqU x) = its.any (eqU x) by simp,uE r fs]
  exact q
theorem zB:xk X (.builtin "len") (fun xs H Q=>∃ p ys,xs = [.ref p]/\(SqL X.K H p ys\/SqT X.K H p ys)/\Q (.int ys.length) H):=by
 intro pins s σ H xs us Q I r h
 obtain ⟨p,ys,rfl,hq,q⟩:=h
 obtain ⟨u,rfl,rx⟩:=wO r
 cases rx
 have hn:=vY
 rcases hq with hq | hq
 ·obtain ⟨its,r',pl,hz⟩:=I.list hq
  have hlen:=r'.length
  exact Calls.call_len_list pl.isList (by simp only [List.size_toArray] <;> omega) ⟨.int ys.length,H,I.tok _,⟨s.toks + 1,by rw [List.size_toArray,hlen]⟩,q⟩
 ·obtain ⟨its,r',pl,hz⟩:=I.tuple hq
  have hlen:=r'.length
  exact len_tuple pl (by simp only [List.size_toArray] <;> omega) ⟨.int ys.length,H,I.tok _,⟨s.toks + 1,by rw [List.size_toArray,hlen]⟩,q⟩
theorem za1:xk X (.builtin "len") (fun xs H Q=>∃ z,xs = [.str z]/\z.length<=sizeLine/\Q (.int z.length) H):=by
 intro pins s σ H xs us Q I r h
 obtain ⟨z,rfl,hz,q⟩:=h
 obtain ⟨u,rfl,t,rfl⟩:=wO r
 have hn:=vY
 exact len_str (by omega) ⟨.int z.length,H,I.tok _,⟨_,rfl⟩,q⟩
theorem y3:xk X (.type "list") (fun xs H Q=>∃ p ys,xs = [.ref p]/\(SqL X.K H p ys\/SqT X.K H p ys)/\∀ l,H l = none->Q (.ref l) (upd H l (.lst ys))):=by
 intro pins s σ H xs us Q I r h
 obtain ⟨p,ys,rfl,hq,q⟩:=h
 obtain ⟨u,rfl,rx⟩:=wO r
 cases rx
 have fin:∀ (its:List Value),zK ys its->ys.length<=sizeLine->∀ (h':Heap) (c':Nat),(∀ b o',s.heap.get? b = some o'->h'.get? b = some o')->
   h'.get? s.heap.objs.size = some { cls:=.type "list",dict:=none,data:=.seq its.toArray c',slots:=#[] }->EP X pins σ Q (.ref s.heap.objs.size) { s with heap:=h' }:=fun its r' hz h' c' kp e=>
  ⟨.ref s.heap.objs.size,_,I.laid (t':=s.toks) kp (Nat.le_refl _) (show yy X.prog X.w _ h' _ (.lst ys) from ⟨hz,its,c',r',e⟩),rfl,q _ (I.hok.fresh (Nat.le_refl _))⟩
 rcases hq with hq | hq
 ·obtain ⟨its,r',pl,hz⟩:=I.list hq
  have hlen:=r'.length
  obtain ⟨o,ho,hc,n,hd⟩:=pl.isList
  exact call_list_seq p (.inl rfl) ho hc hd (fun h' c' kp e=>fin its r' hz h' c' kp e) (by simp only [List.size_toArray] <;> omega)
 ·obtain ⟨its,r',pl,hz⟩:=I.tuple hq
  have hlen:=r'.length
  obtain ⟨o,ho,hc,n,hd⟩:=pl
  exact call_list_seq p (.inr rfl) ho hc hd (fun h' c' kp e=>fin its r' hz h' c' kp e) (by simp only [List.size_toArray] <;> omega)
def tyV (K:Frag) (T:String) (x:V) (H:Hp):Prop:=match x with
 | .str _=>T = "str"
 | .int _=>T = "int"
 | .ref p=>(T = "list"/\∃ xs,SqL K H p xs)\/(T = "tuple"/\∃ o,K.lookup p = some o/\o.cls = .type "tuple"/\o.dict = none)\/
   (T = "dict"/\((∃ kvs,H p = some (.dK kvs))\/∃ kvs,H p = some (.dT kvs)))\/(T = "set"/\∃ S n,H p = some (.set S n))
 | _=>False
theorem zhF {pins:List (Addr × Obj)} {σ : St} {H:Hp} {s:Shared} {T:String} {x:V} {v:Value} (I:Inv X pins σ H s) (r:zO x v) (ty:tyV X.K T x H) :
  s.TypeIs v T/\∀ a,v = .ref a->∃ ob,s.heap.get? a = some ob/\ob.dict = none:=by
 cases x with
 | str z=>
  obtain ⟨t,rfl⟩:=r
  cases (show T = "str" from ty)
  exact ⟨typeIs_str s z t,fun _ e=>nomatch e⟩
 | int i=>
  obtain ⟨t,rfl⟩:=r
  cases (show T = "int" from ty)
  exact ⟨typeIs_int s i t,fun _ e=>nomatch e⟩
 | ref p=>
  cases r
  rcases ty with ⟨rfl,xs,hq⟩ | ⟨rfl,o,hk,hc,hd⟩ | ⟨rfl,hk⟩ | ⟨rfl,S,n,hk⟩
  ·obtain ⟨its,_,pl,_⟩:=I.list hq
   refine ⟨pl.isList.typeIs,fun a e=>?_⟩
   cases e
   obtain ⟨o,n,e,c,hd,_⟩:=pl
   exact ⟨o,e,hd⟩
  ·refine ⟨⟨o,I.kIn p o hk,hc⟩,fun a e=>?_⟩
   cases e
   exact ⟨o,I.kIn _ o hk,hd⟩
  ·have z:∃ o,s.heap.get? p = some o/\o.ExactDict:=by
    rcases hk with ⟨kvs,hk⟩ | ⟨kvs,hk⟩
    ·obtain ⟨_,_,_,_,o,_,_,e,ex,_⟩:=I.hok p _ hk
     exact ⟨o,e,ex⟩
    ·obtain ⟨_,_,_,_,o,_,_,e,ex,_⟩:=I.hok p _ hk
     exact ⟨o,e,ex⟩
   obtain ⟨o,e,ex⟩:=z
   refine ⟨⟨o,e,ex.1⟩,fun a e2=>?_⟩
   cases e2
   exact ⟨o,e,ex.2.1⟩
  ·obtain ⟨o,_,_,_,e,ex,_⟩:=I.hok p _ hk
   refine ⟨⟨o,e,ex.1⟩,fun a e2=>?_⟩
   cases e2
   exact ⟨o,e,ex.2.1⟩
 | _=>exact False.elim ty
def tBM (K:Frag) (T:String) (r:V->List V->Hp->VK->Prop) (to:TE) (t:TA):TE:=fun σ H Q=>to σ H fun x H1=>tyV K T x H1/\t σ H1 fun xs H2=>r x xs H2 Q
variable {o e:Expr} {es:List Expr} {to:TE} {t:TA} {name:Str} {apos cpos:Pos} {T id:String} {r:V->List V->Hp->VK->Prop}
theorem yz (pa:PlainAttrs T) (slot:Slot T name id) (hty:typeOf (.builtin id) = pure (.type "method_descriptor")) (hm:MtR X id r) (ho:PE X o to) (ha:PA X (e :: es) t)
  (hbase:attributeBase o name X.env (eval o X.env) = eval o X.env:=by rfl)
  (hfew:((backTo cpos (starEach (e :: es) X.env)).all (fun x=>!x.1) && (backToKw cpos (keywordEach [] X.env)).all (fun x=>x.1.isSome)
   && decide ((e :: es).length + ([]:List Keyword).length + (if ([]:List Keyword).isEmpty then 0 else 1) < 30)) = true:=by rfl)
  (hline:(apos.endLine == cpos.line) = true:=by rfl) (hs:starEach (e :: es) X.env = (false,eval e X.env) :: starEach es X.env:=by rfl) (hplain:(backTo cpos (starEach es X.env)).any (·.1) = false:=by rfl) :
  PE X (.Call (.Attribute o name apos) (e :: es) [] cpos) (tBM X.K T r to t):=by
 refine ⟨?_⟩
 intro pins s σ H Q I h
 refine wpAny_Call_method_late hbase hfew hline rfl (thn (ho pins s σ H _ I h) fun v s1 ⟨x,H1,I1,r1,ty,q1⟩=>?_)
 obtain ⟨h1,h2⟩:=zhF I1 r1 ty
 refine ⟨T,id,pa,slot,hty,h1,h2,?_⟩
 have hA:=ha cpos pins s1 σ H1 _ I1 q1
 rw [hs] at hA |-
 refine Calls.callWith_builtin (by show (false || (backTo cpos (starEach es X.env)).any (·.1)) = false; rw [hplain] <;> rfl) (Calls.evalArgs_plain ?_)
 exact thn hA fun us s2 ⟨vs,H2,I2,r2,q2⟩=>hm pins s2 σ H2 x vs v us Q I2 r1 r2 q2
end
def MtM (X:Cx) (id:String) (r:V->List V->Hp->VK->Prop):Prop:=
 ∀ (pins:List (Addr × Obj)) (s:Shared) (σ : St) (H:Hp) (x:V) (xs:List V) (v:Value) (us:List Value) (Q:VK),Inv X pins σ H s->zO x v->zK xs us->r x xs H Q->
  wpAny (model X.prog X.w) X.A (call (.builtin id) (v :: us)) (EP X pins σ Q) X.xe s
theorem zK.one:∀ {x:V} {us:List Value},zK [x] us->∃ u,us = [u]/\zO x u
 | _,_,.cons r .nil=>⟨_,rfl,r⟩
section
variable {X:Cx} {pins:List (Addr × Obj)} {σ : St} {H:Hp} {s:Shared} {l b:Addr} {xs ys zs:List V}
theorem Inv.lset {its its':List Value} {n:Nat} {f:Array Value->Array Value} {t':Nat} (I:Inv X pins σ H s) (hH:H l = some (.lst xs))
  (e:s.heap.get? l = some { cls:=.type "list",data:=.seq its.toArray n }) (hf:f its.toArray = its'.toArray) (hv:zK ys its') (hz:ys.length<=sizeLine) :
  Inv X pins σ (upd H l (.lst ys)) { s with heap:=s.heap.update l (Obj.mapSeq f),toks:=t' }:=by
 have q:=PySem.IsL.update e f
 rw [hf] at q
 refine I.write (x:=l) (e:=l) (by rw [hH]; exact trivial) (.inl rfl) (fun b' u hb hu=>(Heap.get?_update_other s.heap (Obj.mapSeq f) (Ne.symm hb)).trans hu) ⟨_,q⟩ ?_
 exact ⟨hz,its',_,hv,q⟩
theorem Inv.lnew {its:List Value} {t':Nat} (I:Inv X pins σ H s) (hv:zK ys its) (hz:ys.length<=sizeLine) :
  Inv X pins σ (upd H s.heap.objs.size (.lst ys)) { s with heap:=s.heap.push { cls:=.type "list",data:=.seq its.toArray },toks:=t' }:=
 I.laid (fun _ _ q=>Heap.get?_push_of_some _ q) (Nat.le_refl _) ⟨hz,its,0,hv,Heap.get?_push_size _ rfl⟩
theorem Inv.fresh (I:Inv X pins σ H s):H s.heap.objs.size = none:=I.hok.fresh (Nat.le_refl _)
theorem Inv.lstM (I:Inv X pins σ H s) (hH:H l = some (.lst xs)):xs.length<=sizeLine/\∃ (its:List Value) (n:Nat),zK xs its/\xs.length = its.length/\s.heap.get? l = some { cls:=.type "list",data:=.seq its.toArray n }:=by
 obtain ⟨z,its,n,r,e⟩:=I.hok l _ hH
 exact ⟨z,its,n,r,r.length,e⟩
theorem zfI {n:Nat} (h:n<=sizeLine):Builtin.List.listTooLong n = false:=by
 unfold Builtin.List.listTooLong
 exact decide_eq_false (by omega)
end
section
variable {X:Cx}
def zgE:V->List V->Hp->VK->Prop:=fun x vs H Q=>∃ l xs y,x = .ref l/\vs = [y]/\H l = some (.lst xs)/\xs.length < sizeLine/\Q .non (upd H l (.lst (xs ++ [y])))
theorem zG:MtM X "list.append" zgE:=by
 intro pins s σ H x vs v us Q I rx rv h
 obtain ⟨l,xs,y,rfl,rfl,hH,hz,q⟩:=h
 cases rx
 obtain ⟨u,rfl,ru⟩:=rv.one
 obtain ⟨z,its,n,r,hl,e⟩:=I.lstM hH
 refine call_meets F.slot_list_append ⟨_,e,rfl⟩ F.entry_list_append (F.args_list_append_2 _ _) (PySem.list_append l its.toArray n u (by rw [List.size_toArray]; omega)) ⟨e,?_⟩
 refine ⟨.non,_,I.lset (its':=its ++ [u]) hH e (by simp) (r.append (.cons ru .nil)) ?_,rfl,q⟩
 rw [List.length_append,List.length_singleton]
 omega
def zgD:V->List V->Hp->VK->Prop:=fun x vs H Q=>∃ l b xs zs,x = .ref l/\vs = [.ref b]/\H l = some (.lst xs)/\H b = some (.lst zs)/\xs.length + zs.length<=sizeLine/\Q .non (upd H l (.lst (xs ++ zs)))
theorem qY:MtM X "list.extend" zgD:=by
 intro pins s σ H x vs v us Q I rx rv h
 obtain ⟨l,b,xs,zs,rfl,rfl,hH,hB,hz,q⟩:=h
 cases rx
 obtain ⟨u,rfl,ru⟩:=rv.one
 cases ru
 obtain ⟨z,its,n,r,hl,e⟩:=I.lstM hH
 obtain ⟨z2,its2,n2,r2,hl2,e2⟩:=I.lstM hB
 have hsz:its.toArray.size + its2.toArray.size<=sizeLine:=by rw [List.size_toArray,List.size_toArray]; omega
 have hlong:¬ (!its.toArray.isEmpty && Builtin.List.listTooLong (its.toArray.size + its2.toArray.size)) = true:=by
  rw [zfI hsz,Bool.and_false]
  exact Bool.false_ne_true
 refine call_meets F.slot_list_extend ⟨_,e,rfl⟩ F.entry_list_extend (F.args_list_extend_2 _ _)
  (AutoSeq1.list_extend_list_list_0 l its.toArray n b its2.toArray n2 hlong (by rw [List.size_toArray]; omega) (by omega)) ⟨e,e2,?_⟩
 refine ⟨.non,_,I.lset (its':=its ++ its2) hH e (by simp) (r.append r2) ?_,rfl,q⟩
 rw [List.length_append]
 omega
def zj6:R2:=fun x y H Q=>∃ l b xs zs,x = .ref l/\y = .ref b/\H l = some (.lst xs)/\H b = some (.lst zs)/\xs.length + zs.length<=sizeLine/\∀ p,H p = none->Q (.ref p) (upd H p (.lst (xs ++ zs)))
theorem y8:OpR X (binaryOp .Add) zj6:=by
 intro pins s σ H x y v u Q I rx ry h
 obtain ⟨l,b,xs,zs,rfl,rfl,hH,hB,hz,q⟩:=h
 cases rx
 cases ry
 obtain ⟨z,its,n,r,hl,e⟩:=I.lstM hH
 obtain ⟨z2,its2,n2,r2,hl2,e2⟩:=I.lstM hB
 refine PySem.P.add_list e e2 ?_ (by rw [List.size_toArray,List.size_toArray]; omega)
 have ea:its.toArray ++ its2.toArray = (its ++ its2).toArray:=by simp
 rw [ea]
 exact ⟨.ref _,_,I.lnew (t':=s.toks) (r.append r2) (by rw [List.length_append]; omega),rfl,q _ I.fresh⟩
end
section
variable {prog:Program} {w:World} {A:Around} {E:Value->Shared->Prop} {s:Shared}
end
section
variable {X:Cx}
end
section
variable {κ : Type} [DecidableEq κ]
def zL (kvs:List (κ × V)) (k : κ):Option V:=(kvs.find? fun kv=>decide (kv.1 = k)).map (·.2)
def yr (kvs:List (κ × V)) (k : κ) (v:V):List (κ × V):=
 if (kvs.any fun kv=>decide (kv.1 = k)) = true then kvs.map (fun kv=>if kv.1 = k then (kv.1,v) else kv) else kvs ++ [(k,v)]
theorem yR {p : κ × V} {r:List (κ × V)} {k : κ} (e:p.1 = k):zL (p :: r) k = some p.2:=by simp [zL,List.find?_cons,e]
theorem yS {p : κ × V} {r:List (κ × V)} {k : κ} (e:¬ p.1 = k):zL (p :: r) k = zL r k:=by simp [zL,List.find?_cons,e]
theorem wm (k : κ):∀ kvs:List (κ × V),(kvs.any fun kv=>decide (kv.1 = k)) = (zL kvs k).isSome
 | []=>rfl
 | p :: r=>by
  rw [List.any_cons]
  by_cases e:p.1 = k
  ·simp only [yR e,decide_eq_true e,Bool.true_or,Option.isSome_some]
  ·rw [yS e,decide_eq_false e,Bool.false_or]; exact wm k r
theorem za9 (k j : κ) (y:V):∀ kvs:List (κ × V),zL (kvs.map fun kv=>if kv.1 = k then (kv.1,y) else kv) j = (zL kvs j).map fun x=>if j = k then y else x
 | []=>rfl
 | p :: r=>by
  have ih:=za9 k j y r
  rw [List.map_cons]
  by_cases h:p.1 = k
  ·rw [if_pos h]
   by_cases e:p.1 = j
   ·rw [yR (p:=(p.1,y)) e,yR e,Option.map_some,if_pos (e.symm.trans h)]
   ·rw [yS (p:=(p.1,y)) e,yS e,ih]
  ·rw [if_neg h]
   by_cases e:p.1 = j
   ·rw [yR (p:=p) e,yR e,Option.map_some,if_neg (fun z=>h (e.trans z))]
   ·rw [yS (p:=p) e,yS e,ih]
theorem qz (k j : κ) (y:V):∀ kvs:List (κ × V),zL kvs k = none->zL (kvs ++ [(k,y)]) j = if j = k then some y else zL kvs j
 | [],_=>by
  by_cases e:k = j
  ·rw [if_pos e.symm]; exact yR (p:=(k,y)) e
  ·rw [if_neg (fun z=>e z.symm)]; exact yS (p:=(k,y)) e
 | p :: r,hn=>by
  rw [List.cons_append]
  have hk:¬ p.1 = k:=fun z=>by rw [yR z] at hn; cases hn
  rw [yS hk] at hn
  have ih:=qz k j y r hn
  by_cases e:p.1 = j
  ·rw [yR e,yR e,if_neg (fun z=>hk (e.trans z))]
  ·rw [yS e,yS e,ih]
theorem za8 (kvs:List (κ × V)) (k j : κ) (y:V):zL (yr kvs k y) j = if j = k then some y else zL kvs j:=by
 unfold yr
 by_cases a:(kvs.any fun kv=>decide (kv.1 = k)) = true
 ·rw [if_pos a,za9]
  rw [wm] at a
  by_cases e:j = k
  ·obtain ⟨x,hx⟩:=Option.isSome_iff_exists.mp a
   rw [if_pos e,e,hx,Option.map_some,if_pos rfl]
  ·rw [if_neg e]
   cases zL kvs j with
   | none=>rfl
   | some x=>rw [Option.map_some,if_neg e]
 ·rw [if_neg a]
  refine qz k j y kvs ?_
  rw [wm] at a
  cases q:zL kvs k with
  | none=>rfl
  | some x=>rw [q] at a; exact (a rfl).elim
theorem xi (kvs:List (κ × V)) (k : κ) (v:V):(yr kvs k v).length<=kvs.length + 1:=by
 unfold yr
 split
 ·rw [List.length_map]; omega
 ·rw [List.length_append,List.length_cons,List.length_nil]; omega
theorem wS.isSome_eq {o:Option V} {u:Option Value} (r:wS o u):o.isSome = u.isSome:=by
 cases o with
 | none=>cases u with
  | none=>rfl
  | some _=>exact (show False from r).elim
 | some _=>cases u with
  | none=>exact (show False from r).elim
  | some _=>rfl
theorem wS.getD {o:Option V} {u:Option Value} {d:V} {d':Value} (r:wS o u) (rd:zO d d'):zO (o.getD d) (u.getD d'):=by
 cases o with
 | none=>cases u with
  | none=>exact rd
  | some _=>exact (show False from r).elim
 | some _=>cases u with
  | none=>exact (show False from r).elim
  | some _=>exact r
theorem KV.val {kvs:List (κ × V)} {vs:List (κ × Value)} (r:KV kvs vs) (k : κ):wS (zL kvs k) (valueAt vs k):=by
 unfold KV at r
 induction r with
 | nil=>exact True.intro
 | @cons p q ps qs h t ih=>
  obtain ⟨h1,h2⟩:=h
  by_cases e:p.1 = k
  ·have e':q.1 = k:=h1.symm.trans e
   have b:valueAt (q :: qs) k = some q.2:=by simp [valueAt,List.find?_cons,e']
   rw [yR e,b]; exact h2
  ·have e':¬ q.1 = k:=fun z=>e (h1.trans z)
   have b:valueAt (q :: qs) k = valueAt qs k:=by simp [valueAt,List.find?_cons,e']
   rw [yS e,b]; exact ih
theorem KV.any {kvs:List (κ × V)} {vs:List (κ × Value)} (r:KV kvs vs) (k : κ):(kvs.any fun kv=>decide (kv.1 = k)) = vs.any fun kv=>decide (kv.1 = k):=by
 unfold KV at r
 induction r with
 | nil=>rfl
 | cons h t ih=>rw [List.any_cons,List.any_cons,ih,h.1]
theorem KV.repl {kvs:List (κ × V)} {vs:List (κ × Value)} (r:KV kvs vs) (k : κ) {y:V} {u:Value} (ry:zO y u) :
  KV (kvs.map fun kv=>if kv.1 = k then (kv.1,y) else kv) (vs.map fun kv=>if kv.1 = k then (kv.1,u) else kv):=by
 unfold KV at r |-
 induction r with
 | nil=>exact .nil
 | @cons p q ps qs h t ih=>
  rw [List.map_cons,List.map_cons]
  refine .cons ?_ ih
  obtain ⟨h1,h2⟩:=h
  by_cases e:p.1 = k
  ·rw [if_pos e,if_pos (h1.symm.trans e)]; exact ⟨h1,ry⟩
  ·rw [if_neg e,if_neg (fun z=>e (h1.trans z))]; exact ⟨h1,h2⟩
theorem KV.put {kvs:List (κ × V)} {vs:List (κ × Value)} (r:KV kvs vs) (k : κ) {y:V} {u:Value} (ry:zO y u):KV (yr kvs k y) (stored vs k u):=by
 unfold yr stored
 rw [r.any k]
 by_cases e:(vs.any fun kv=>decide (kv.1 = k)) = true
 ·rw [if_pos e,if_pos e]; exact r.repl k ry
 ·rw [if_neg e,if_neg e]; exact Paired.snoc r ⟨rfl,ry⟩
theorem KV.length {kvs:List (κ × V)} {vs:List (κ × Value)} (r:KV kvs vs):kvs.length = vs.length:=Paired.length r
end
theorem jm {P:Program} {w:World} {k:Key} {u:Value} (r:zO (kV k) u):(zZ P w).is k u = true:=by
 cases k with
 | inl i=>obtain ⟨t,e⟩:=(show ∃ t,u = Value.int i t from r); subst e; exact zbD P w i t
 | inr x=>obtain ⟨t,e⟩:=(show ∃ t,u = Value.str x t from r); subst e; exact zbC P w x t
theorem qZ {P:Program} {w:World}:∀ {ks:List Key} {us:List Value},zK (ks.map kV) us->ItemsAre (zZ P w) ks us
 | [],_,r=>by rw [List.map_nil] at r; cases r; exact .nil
 | k :: ks,_,r=>by
  rw [List.map_cons] at r
  cases r with
  | cons h t=>exact .cons (jm h) (qZ t)
abbrev KT (H:Hp):List (List Key × V)->List (List Key × Addr × Value)->Prop:=Paired fun p q=>p.1 = q.1/\H q.2.1 = some (.tup (p.1.map kV))/\zO p.2 q.2.2
theorem KT.val {H:Hp} {kvs:List (List Key × V)} {xs:List (List Key × Addr × Value)} (r:KT H kvs xs) (k:List Key):wS (zL kvs k) ((atKey xs k).map (·.2)):=by
 induction r with
 | nil=>exact True.intro
 | @cons p q ps qs h t ih=>
  obtain ⟨h1,_,h2⟩:=h
  by_cases e:p.1 = k
  ·have e':q.1 = k:=h1.symm.trans e
   have b:atKey (q :: qs) k = some q.2:=by simp [atKey,List.find?_cons,e']
   rw [yR e,b]; exact h2
  ·have e':¬ q.1 = k:=fun z=>e (h1.trans z)
   have b:atKey (q :: qs) k = atKey qs k:=by simp [atKey,List.find?_cons,e']
   rw [yS e,b]; exact ih
theorem KT.repl {H:Hp} {kvs:List (List Key × V)} {xs:List (List Key × Addr × Value)} (r:KT H kvs xs) (k:List Key) {y:V} {u:Value} (ry:zO y u) :
  KT H (kvs.map fun kv=>if kv.1 = k then (kv.1,y) else kv) (xs.map (putAt k u)):=by
 induction r with
 | nil=>exact .nil
 | @cons p q ps qs h t ih=>
  rw [List.map_cons,List.map_cons]
  refine .cons ?_ ih
  obtain ⟨h1,h2,h3⟩:=h
  unfold putAt
  by_cases e:p.1 = k
  ·rw [if_pos e,if_pos (h1.symm.trans e)]; exact ⟨h1,h2,ry⟩
  ·rw [if_neg e,if_neg (fun z=>e (h1.trans z))]; exact ⟨h1,h2,h3⟩
theorem KT.put {H:Hp} {kvs:List (List Key × V)} {xs:List (List Key × Addr × Value)} (r:KT H kvs xs) (k:List Key) {b:Addr} {y:V} {u:Value} (hb:H b = some (.tup (k.map kV))) (ry:zO y u) :
  KT H (yr kvs k y) (storedH xs k b u):=by
 have e:(kvs.any fun kv=>decide (kv.1 = k)) = (atKey xs k).isSome:=by
  rw [wm,(r.val k).isSome_eq,Option.isSome_map]
 unfold yr storedH
 rw [e]
 by_cases q:(atKey xs k).isSome = true
 ·rw [if_pos q,if_pos q]; exact r.repl k ry
 ·rw [if_neg q,if_neg q]; exact Paired.snoc r ⟨rfl,hb,ry⟩
theorem KT.keeps {H H':Hp} {kvs:List (List Key × V)} {xs:List (List Key × Addr × Value)} (r:KT H kvs xs) (ht:∀ b ys,H b = some (.tup ys)->H' b = some (.tup ys)):KT H' kvs xs:=
 Paired.mapP r fun _ _ z=>⟨z.1,ht _ _ z.2.1,z.2.2⟩
section
variable {P:Program} {w:World} {H:Hp} {h:Heap} {a:Addr}
theorem zhu {u:HO} (ok:HOk P w H h) (e:Rd H a u):yy P w H h a u:=e.ok ok
theorem qi {kvs:List (Key × V)} (ok:HOk P w H h) (e:Rd H a (.dK kvs)):kvs.length<=sizeLine/\(a == sysModules) = false/\∃ vs,KV kvs vs/\h.DictOf (zZ P w) a vs:=
 show yy P w H h a (.dK kvs) from zhu ok e
theorem zga {kvs:List (Key × V)} (ok:HOk P w H h) (e:H a = some (.dK kvs)):kvs.length<=sizeLine/\(a == sysModules) = false/\∃ vs,KV kvs vs/\h.DictOf (zZ P w) a vs:=qi ok (.inl e)
theorem je {ks:List Key} (ok:HOk P w H h) (e:H a = some (.tup (ks.map kV))):(tupleKind (zZ P w)).is h ks a:=by
 obtain ⟨_,its,r,o,h1,h2,n,h3⟩:=(show yy P w H h a (.tup (ks.map kV)) from ok a _ e)
 exact ⟨o,its.toArray,n,h1,h2,h3,by simpa using qZ r⟩
theorem qh {kvs:List (List Key × V)} (ok:HOk P w H h) (e:Rd H a (.dT kvs)):kvs.length<=sizeLine/\(a == sysModules) = false/\
  ∃ xs,KT H kvs xs/\h.DictOfH (tupleKind (zZ P w)) a xs:=by
 obtain ⟨z,y,xs,r,o,es,ep,h1,h2,h3,h4,h5⟩:=(show yy P w H h a (.dT kvs) from zhu ok e)
 refine ⟨z,y,xs,r,o,es,ep,h1,h2,h3,h4,fun x hx=>?_,h5⟩
 have all:∀ {l:List (List Key × V)} {m:List (List Key × Addr × Value)},KT H l m->∀ x ∈ m,(tupleKind (zZ P w)).is h x.1 x.2.1:=by
  intro l m q
  induction q with
  | nil=>intro x hx; exact nomatch hx
  | @cons p q ps qs hq t ih=>
   intro x hx
   rcases List.mem_cons.mp hx with e | hx
   ·subst e
    exact je ok (by rw [<- hq.1]; exact hq.2.1)
   ·exact ih x hx
 exact all r x hx
theorem zjH {kvs:List (List Key × V)} (ok:HOk P w H h) (e:H a = some (.dT kvs)):kvs.length<=sizeLine/\(a == sysModules) = false/\
  ∃ xs,KT H kvs xs/\h.DictOfH (tupleKind (zZ P w)) a xs:=qh ok (.inl e)
end
def za4 (H:Hp) (a:Addr) (y:V) (r:Option V):Prop:=
 (∃ kvs k,Rd H a (.dK kvs)/\y = kV k/\r = zL kvs k)\/∃ kvs k b,Rd H a (.dT kvs)/\y = .ref b/\H b = some (.tup (k.map kV))/\r = zL kvs k
def zeG (H:Hp) (a:Addr) (y v:V) (H':Hp):Prop:=
 (∃ kvs k,H a = some (.dK kvs)/\y = kV k/\kvs.length < sizeLine/\H' = upd H a (.dK (yr kvs k v)))\/
 ∃ kvs k b,H a = some (.dT kvs)/\y = .ref b/\H b = some (.tup (k.map kV))/\kvs.length < sizeLine/\H' = upd H a (.dT (yr kvs k v))
theorem zeG.k {H:Hp} {a:Addr} {kvs:List (Key × V)} {k:Key} {v:V} (e:H a = some (.dK kvs)) (hl:kvs.length < sizeLine):zeG H a (kV k) v (upd H a (.dK (yr kvs k v))):=.inl ⟨kvs,k,e,rfl,hl,rfl⟩
section
variable {X:Cx} {pins:List (Addr × Obj)} {σ : St} {H:Hp} {s:Shared} {a:Addr} {y v:V} {u r:Value} {o:Option V} {A:Around} {E:Value->Shared->Prop}
theorem Inv.big (I:Inv X pins σ H s):sysModules < s.heap.objs.size:=by
 have h:mainGlobals < s.heap.objs.size:=(I.mod.glob.keeps I.bk).lt
 exact Nat.lt_trans (by decide) h
theorem zex {Q:Value->Shared->Prop} (hu:A.units + 1 < cLine) (I:Inv X pins σ H s) (g:za4 H a y (some v)) (ry:zO y u) (h:∀ w' s',Inv X pins σ H s'->zO v w'->Q w' s') :
  wpAny (model X.prog X.w) A (getItem (.ref a) u) Q E s:=by
 rcases g with ⟨kvs,k,e,ey,l⟩ | ⟨kvs,k,b,e,ey,eb,l⟩
 ·subst ey
  obtain ⟨z,hd,vs,rel,dd⟩:=qi I.hok e
  obtain ⟨w',hw,rw'⟩:=wS.some_of (v:=v) (o:=valueAt vs k) (by rw [l]; exact rel.val k)
  exact wpAny_getItem_of (jm ry) dd.mapOf hw (h w' _ (I.tok _) rw')
 ·subst ey
  cases (show u = Value.ref b from ry)
  obtain ⟨z,hd,xs,rel,dd⟩:=qh I.hok e
  obtain ⟨w',hw,rw'⟩:=wS.some_of (v:=v) (o:=(atKey xs k).map (·.2)) (by rw [l]; exact rel.val k)
  obtain ⟨p,hp,hp2⟩:=Option.map_eq_some_iff.mp hw
  refine wpAny_getItem_heap (tupleKind_room_in1 hu) (je I.hok eb) dd hp ?_
  rw [hp2]
  exact h w' _ (I.tok _) rw'
theorem zkt {Q:Value->Shared->Prop} (hu:A.units + 1 < cLine) (I:Inv X pins σ H s) (g:za4 H a y o) (ry:zO y u) (h:∀ s',Inv X pins σ H s'->Q (.bool o.isSome) s') :
  wpAny (model X.prog X.w) A (compareOp .In u (.ref a)) Q E s:=by
 rcases g with ⟨kvs,k,e,ey,l⟩ | ⟨kvs,k,b,e,ey,eb,l⟩
 ·subst ey
  obtain ⟨z,hd,vs,rel,dd⟩:=qi I.hok e
  refine wpAny_in_of (jm ry) hd dd.mapOf ?_
  rw [<- (rel.val k).isSome_eq,<- l]
  exact h _ (I.tok _)
 ·subst ey
  cases (show u = Value.ref b from ry)
  obtain ⟨z,hd,xs,rel,dd⟩:=qh I.hok e
  refine wpAny_in_heap (tupleKind_room_in1 hu) (je I.hok eb) hd dd ?_
  have q:=(rel.val k).isSome_eq
  rw [Option.isSome_map] at q
  rw [<- q,<- l]
  exact h _ (I.tok _)
theorem zhi {Q:Value->Shared->Prop} (hu:A.units + 1 < cLine) (I:Inv X pins σ H s) (g:za4 H a y o) (ry:zO y u) (h:∀ s',Inv X pins σ H s'->Q (.bool (!o.isSome)) s') :
  wpAny (model X.prog X.w) A (compareOp .NotIn u (.ref a)) Q E s:=by
 rcases g with ⟨kvs,k,e,ey,l⟩ | ⟨kvs,k,b,e,ey,eb,l⟩
 ·subst ey
  obtain ⟨z,hd,vs,rel,dd⟩:=qi I.hok e
  refine wpAny_notIn_of (jm ry) hd dd.mapOf ?_
  rw [<- (rel.val k).isSome_eq,<- l]
  exact h _ (I.tok _)
 ·subst ey
  cases (show u = Value.ref b from ry)
  obtain ⟨z,hd,xs,rel,dd⟩:=qh I.hok e
  refine wpAny_notIn_heap (tupleKind_room_in1 hu) (je I.hok eb) hd dd ?_
  have q:=(rel.val k).isSome_eq
  rw [Option.isSome_map] at q
  rw [<- q,<- l]
  exact h _ (I.tok _)
theorem jI {h':Heap} {t':Nat} {ob:HO} (I:Inv X pins σ H s) (mu:Mut (H a)) (hs:Heap.SameBut a s.heap h') (he:∃ q,h'.get? a = some q) (new:yy X.prog X.w (upd H a ob) h' a ob) :
  Inv X pins σ (upd H a ob) { s with heap:=h',toks:=t' }:=
 I.write (x:=a) (e:=a) mu (.inl rfl) (fun b q hb z=>(hs.2 b hb).trans z) he new
theorem zcO {P:Program} {w:World} {H':Hp} {h':Heap} {kvs:List (Key × V)} {vs:List (Key × Value)} (z:kvs.length<=sizeLine) (hd:(a == sysModules) = false) (rel:KV kvs vs) (dd:h'.DictOf (zZ P w) a vs) :
  yy P w H' h' a (.dK kvs):=⟨z,hd,vs,rel,dd⟩
theorem zew {H':Hp} {Q:Unit->Shared->Prop} (hu:A.units + 1 < cLine) (I:Inv X pins σ H s) (g:zeG H a y v H') (ry:zO y u) (rv:zO v r) (h:∀ s',Inv X pins σ H' s'->Q () s') :
  wpAny (model X.prog X.w) A (setItem (.ref a) u r) Q E s:=by
 rcases g with ⟨kvs,k,e,ey,l,eH⟩ | ⟨kvs,k,b,e,ey,eb,l,eH⟩
 ·subst ey eH
  obtain ⟨z,hd,vs,rel,dd⟩:=zga I.hok e
  have hz:vs.length<=sizeLine:=by rw [<- rel.length]; exact z
  have hl:(yr kvs k v).length<=sizeLine:=by have:=xi kvs k v; omega
  refine wpAny_setItem_pairs (hsz:=hz) (jm ry) dd fun h' dd' hs=>h _ ?_
  have he:∃ q,h'.get? a = some q:=let ⟨q,_,_,hq,_⟩:=dd'; ⟨q,hq⟩
  exact jI I (by rw [e]; exact True.intro) hs he (zcO hl hd (rel.put k rv) dd')
 ·subst ey eH
  cases (show u = Value.ref b from ry)
  obtain ⟨z,hd,xs,rel,dd⟩:=zjH I.hok e
  have hz:xs.length<=sizeLine:=by rw [<- Paired.length rel]; exact z
  have hl:(yr kvs k v).length<=sizeLine:=by have:=xi kvs k v; omega
  refine wpAny_setItem_heap (hsz:=hz) (tupleKind_room_in1 hu) (je I.hok eb) dd fun h' dd' hs=>h _ ?_
  obtain ⟨q,es,ep,hq,h2,h3,h4,_,h5⟩:=dd'
  refine jI I (by rw [e]; exact True.intro) hs ⟨q,hq⟩ ⟨hl,hd,_,(rel.put k eb rv).keeps fun c ys ec=>?_,q,es,ep,hq,h2,h3,h4,h5⟩
  rw [zi (xK ec e (fun z=>nomatch z))]
  exact ec
end
section
variable {X:Cx} {pins:List (Addr × Obj)} {σ : St} {H:Hp} {s:Shared} {a:Addr} {kvs:List (Key × V)} {k:Key} {u:Value} {A:Around} {E:Value->Shared->Prop}
end
def ziQ (i:Expr):Prop:=∀ ov iv,subscripted i false ov iv = operate [ov,iv] (getItem ov iv)
theorem zc1 {prog:Program} {w:World} {A:Around} {E:Value->Shared->Prop} {s:Shared} {env:Env} {value slice:Expr} {pos:Pos} {T id:String} {Q:Value->Shared->Prop}
  (hl:typeLookup (.type T) "__getitem__" = pure (some (.builtin id))) (hs:ziQ slice)
  (h:wpAny (model prog w) A (eval value env) (fun o s₁=>wpAny (model prog w) A (eval slice env) (fun i s₂=>s₂.TypeIs o T/\wpAny (model prog w) A (getItem o i) Q E s₂) E s₁) E s) :
  wpAny (model prog w) A (eval (.Subscript value slice pos) env) Q E s:=by
 refine Subscript_ (wpAny_mono h (fun o s₁ h₁=>wpAny_mono h₁ (fun i s₂ h₂=>?_) fun _ _ x=>x) fun _ _ x=>x)
 obtain ⟨hT,h₂⟩:=h₂
 unfold subscriptTail
 refine wpAny_bind ?_
 rw [getitemInPython_of_ne hT.not_modules]
 refine wpAny_bind (wpAny_specialOf hT hl ?_)
 have fin:wpAny (model prog w) A (subscripted slice false o i) (fun r s₃=>wpAny (model prog w) A (letTemporaryGo value o r >>= fun _=>pure r) Q E s₃) E s₂:=by
  rw [hs o i]
  exact wpAny_operating (wpAny_mono h₂ (fun r s₃ h₃=>wpAny_bind (wpAny_letTemporaryGo (wpAny_pure h₃))) fun _ _ x=>x)
 first
  | exact wpAny_pure (wpAny_bind fin)
  | exact wpAny_bind (wpAny_pure (wpAny_bind fin))
  | exact wpAny_bind fin
theorem zbT {X:Cx} {pins:List (Addr × Obj)} {σ : St} {H:Hp} {s:Shared} {a:Addr} {y:V} {o:Option V} (I:Inv X pins σ H s) (g:za4 H a y o):s.TypeIs (.ref a) "dict":=by
 rcases g with ⟨kvs,k,e,_,_⟩ | ⟨kvs,k,b,e,_,_,_⟩
 ·obtain ⟨_,_,vs,_,dd⟩:=qi I.hok e
  exact dd.typeIs
 ·obtain ⟨_,_,xs,_,dd⟩:=qh I.hok e
  exact dd.typeIs
def zi6 (td ty:TE):TE:=fun σ H Q=>td σ H fun x H1=>ty σ H1 fun y H2=>∃ a v,x = .ref a/\za4 H2 a y (some v)/\Q v H2
def zjX (ty td:TE):TE:=fun σ H Q=>ty σ H fun y H1=>td σ H1 fun x H2=>∃ a o,x = .ref a/\za4 H2 a y o/\Q (.bl o.isSome) H2
def zgp (ty td:TE):TE:=fun σ H Q=>ty σ H fun y H1=>td σ H1 fun x H2=>∃ a o,x = .ref a/\za4 H2 a y o/\Q (.bl (!o.isSome)) H2
def zjd (td ty tv:TE):TS:=fun D σ H=>tv σ H fun v H1=>td σ H1 fun x H2=>ty σ H2 fun y H3=>∃ a H4,x = .ref a/\zeG H3 a y v H4/\D.nx σ H4
section
variable {X:Cx} {o i e value:Expr} {pos pos' tpos:Pos} {td ty tv:TE}
theorem jy (hu:X.A.units + 1 < cLine) (ho:PE X o td) (hi:PE X i ty) (hs:ziQ i):PE X (.Subscript o i pos) (zi6 td ty):=by
 refine ⟨?_⟩
 intro pins s σ H Q I h
 refine zc1 PySem.F.slot_dict_getitem.lookup hs (thn (ho pins s σ H _ I h) fun u s1 ⟨x,H1,I1,rx,q1⟩=>thn (hi pins s1 σ H1 _ I1 q1) fun iv s2 ⟨y,H2,I2,ry,a,v,ex,g,q2⟩=>?_)
 subst ex
 obtain rfl:u = Value.ref a:=rx
 exact ⟨zbT I2 g,zex hu I2 g ry fun w' s3 I3 rw'=>⟨v,H2,I3,rw',q2⟩⟩
theorem zid (hu:X.A.units + 1 < cLine) (hi:PE X i ty) (ho:PE X o td):PC X .In i o (zjX ty td):=by
 refine ⟨?_⟩
 intro pins s σ H Q I h
 refine thn (hi pins s σ H _ I h) fun iv s1 ⟨y,H1,I1,ry,q1⟩=>thn (ho pins s1 σ H1 _ I1 q1) fun u s2 ⟨x,H2,I2,rx,a,ov,ex,g,q2⟩=>?_
 subst ex
 obtain rfl:u = Value.ref a:=rx
 exact zkt hu I2 g ry fun s3 I3=>⟨.bl ov.isSome,H2,I3,rfl,q2⟩
theorem zd3 (hu:X.A.units + 1 < cLine) (hi:PE X i ty) (ho:PE X o td):PC X .NotIn i o (zgp ty td):=by
 refine ⟨?_⟩
 intro pins s σ H Q I h
 refine thn (hi pins s σ H _ I h) fun iv s1 ⟨y,H1,I1,ry,q1⟩=>thn (ho pins s1 σ H1 _ I1 q1) fun u s2 ⟨x,H2,I2,rx,a,ov,ex,g,q2⟩=>?_
 subst ex
 obtain rfl:u = Value.ref a:=rx
 exact zhi hu I2 g ry fun s3 I3=>⟨.bl (!ov.isSome),H2,I3,rfl,q2⟩
theorem zde (hu:X.A.units + 1 < cLine) (ho:PE X o td) (hi:PE X i ty) (hv:PE X value tv) (hs:swapsWith value (some (.Subscript o i pos')) pos.line X.env = pure false) :
  PS X (.Assign [.Subscript o i pos'] value pos) (zjd td ty tv):=by
 refine ⟨?_⟩
 intro pins s σ H D I h
 refine wpAny_Assign_Subscript (thn (hv pins s σ H _ I h) fun r s1 ⟨v,H1,I1,rv,q1⟩=>thn (ho pins s1 σ H1 _ I1 q1) fun u s2 ⟨x,H2,I2,rx,q2⟩=>thn (hi pins s2 σ H2 _ I2 q2) fun iv s3 ⟨y,H3,I3,ry,a,H4,ex,g,q3⟩=>?_) hs
 subst ex
 obtain rfl:u = Value.ref a:=rx
 exact zew hu I3 g ry rv fun s4 I4=>⟨σ,H4,I4,q3⟩
end
theorem zbS {P:Program} {w:World} {H:Hp} (h:Heap) (hb:sysModules < h.objs.size):yy P w H (h.push { cls:=.type "dict",data:=.dict #[] }) h.objs.size (.dK []):=
 ⟨Nat.zero_le _,beq_eq_false_iff_ne.mpr (Ne.symm (Nat.ne_of_lt hb)),[],.nil,Heap.DictOf.new h⟩
def zhL:TE:=fun _ H Q=>∀ p,H p = none->Q (.ref p) (upd H p (.dK []))
section
variable {X:Cx} {pos:Pos}
theorem ze9:PE X (.Dict [] [] pos) zhL:=⟨fun pins s σ H Q I h=>
 wpAny_Dict_empty ⟨.ref s.heap.objs.size,_,I.laid (a:=s.heap.objs.size) (o:=.dK []) (t':=s.toks) (fun _ _ q=>Heap.get?_push_of_some _ q) (Nat.le_refl _) (zbS s.heap I.big),rfl,h _ (I.hok.fresh (Nat.le_refl _))⟩⟩
end
def zap:List (TE × TE)->St->Hp->(List (V × V)->Hp->Prop)->Prop
 | [],_,H,Q=>Q [] H
 | (tk,tv) :: r,σ,H,Q=>tk σ H fun x H1=>tv σ H1 fun y H2=>zap r σ H2 fun ps H3=>Q ((x,y) :: ps) H3
abbrev VV:List (V × V)->List (Value × Value)->Prop:=Paired fun p q=>zO p.1 q.1/\zO p.2 q.2
structure PPs (X:Cx) (pos:Pos) (keys:List (Option Expr)) (values:List Expr) (trs:List (TE × TE)):Prop where
 run:∀ (pins:List (Addr × Obj)) (s:Shared) (σ : St) (H:Hp) (Q:List (V × V)->Hp->Prop),Inv X pins σ H s->zap trs σ H Q->
  wpAny (model X.prog X.w) X.A (evalPairs (pairTrees keys values X.env pos)) (fun vs s'=>∃ ps H',Inv X pins σ H' s'/\VV ps vs/\Q ps H') X.xe s
instance {X:Cx} {pos:Pos} {keys:List (Option Expr)} {values:List Expr} {trs:List (TE × TE)}:CoeFun (PPs X pos keys values trs) (fun _=>∀ (pins:List (Addr × Obj)) (s:Shared) (σ : St) (H:Hp) (Q:List (V × V)->Hp->Prop),Inv X pins σ H s->zap trs σ H Q->
  wpAny (model X.prog X.w) X.A (evalPairs (pairTrees keys values X.env pos)) (fun vs s'=>∃ ps H',Inv X pins σ H' s'/\VV ps vs/\Q ps H') X.xe s):=⟨PPs.run⟩
theorem zgF {X:Cx} {pos:Pos}:PPs X pos [] [] []:=⟨fun pins s σ H Q I h=>pairTrees_nil_walk ⟨[],H,I,.nil,h⟩⟩
theorem zbo {X:Cx} {pos:Pos} {k v:Expr} {ks:List (Option Expr)} {vs:List Expr} {tk tv:TE} {trs:List (TE × TE)} (hk:PE X k tk) (hv:PE X v tv) (hr:PPs X pos ks vs trs) :
  PPs X pos (some k :: ks) (v :: vs) ((tk,tv) :: trs):=⟨fun pins s σ H Q I h=>
 pairTrees_cons_walk (thn (hk pins s σ H _ I h) fun u s1 ⟨x,H1,I1,rx,q1⟩=>thn (hv pins s1 σ H1 _ I1 q1) fun w2 s2 ⟨y,H2,I2,ry,q2⟩=>
  thn (hr pins s2 σ H2 _ I2 q2) fun ws s3 ⟨ps,H3,I3,rel,q3⟩=>⟨(x,y) :: ps,H3,I3,.cons ⟨rx,ry⟩ rel,q3⟩)⟩
def vX (kvs more:List (Key × V)):List (Key × V):=more.foldl (fun acc kv=>yr acc kv.1 kv.2) kvs
theorem KV.merge:∀ {more:List (Key × V)} {rs:List (Key × Value)} {kvs:List (Key × V)} {vs:List (Key × Value)},KV more rs->KV kvs vs->KV (vX kvs more) (merged vs rs):=by
 intro more rs kvs vs r
 unfold KV at r
 induction r generalizing kvs vs with
 | nil=>intro q; exact q
 | @cons p q ps qs h t ih=>
  intro r0
  have e:KV (yr kvs p.1 p.2) (stored vs q.1 q.2):=by
   have:=r0.put p.1 h.2
   rw [<- h.1]; exact this
  exact ih e
theorem vP:∀ (more kvs:List (Key × V)),(vX kvs more).length<=kvs.length + more.length
 | [],kvs=>by show kvs.length<=kvs.length + 0; omega
 | p :: r,kvs=>by
  have h1:=vP r (yr kvs p.1 p.2)
  have h2:=xi kvs p.1 p.2
  show (vX (yr kvs p.1 p.2) r).length<=_
  rw [List.length_cons]; omega
theorem qk {P:Program} {w:World}:∀ {kvs:List (Key × V)} {ws:List (Value × Value)},VV (kvs.map fun kv=>(kV kv.1,kv.2)) ws->∃ rs,Carries (zZ P w) ws rs/\KV kvs rs
 | [],_,r=>by rw [List.map_nil] at r; cases r; exact ⟨[],True.intro,.nil⟩
 | p :: kvs,_,r=>by
  rw [List.map_cons] at r
  cases r with
  | @cons a b as bs h t=>
   obtain ⟨rs,c,q⟩:=qk (P:=P) (w:=w) t
   obtain ⟨b1,b2⟩:=b
   exact ⟨(p.1,b2) :: rs,⟨jm h.1,rfl,c⟩,.cons ⟨rfl,h.2⟩ q⟩
def zi5 (trs:List (TE × TE)):TE:=fun σ H Q=>∀ p,H p = none->zap trs σ (upd H p (.dK [])) fun ps H2=>H2 p = some (.dK [])/\∃ kvs:List (Key × V),ps = kvs.map (fun kv=>(kV kv.1,kv.2))/\kvs.length<=15/\Q (.ref p) (upd H2 p (.dK (vX [] kvs)))
theorem zgL {X:Cx} {pos:Pos} {keys:List (Option Expr)} {values:List Expr} {trs:List (TE × TE)} (h:PPs X pos keys values trs) (hall:keys.all (·.isSome) = true) (hl:keys.length = values.length) (h0:keys ≠ [])
  (h15:keys.length<=15):PE X (.Dict keys values pos) (zi5 trs):=by
 refine ⟨?_⟩
 intro pins s σ H Q I q
 have hn:=I.hok.fresh (Nat.le_refl s.heap.objs.size)
 have I1:=I.laid (a:=s.heap.objs.size) (o:=.dK []) (h':=s.heap.push { cls:=.type "dict",data:=.dict #[] }) (t':=s.toks) (fun _ _ q=>Heap.get?_push_of_some _ q) (Nat.le_refl _) (zbS s.heap I.big)
 refine wpAny_Dict_walk (knd:=zZ X.prog X.w) hall hl h0 h15 (thn (h pins _ σ _ _ I1 (q _ hn)) fun ws s2 ⟨ps,H2,I2,rel,e,kvs,ep,lk,q2⟩=>?_)
 subst ep
 obtain ⟨rs,c,rk⟩:=qk (P:=X.prog) (w:=X.w) rel
 obtain ⟨z,hd,vs0,r0,dd⟩:=zga I2.hok e
 cases r0
 refine ⟨rs,c,dd,fun h' dd' hs=>⟨.ref s.heap.objs.size,_,?_,rfl,q2⟩⟩
 have hz:(vX [] kvs).length<=sizeLine:=by
  have h1:=vP kvs []
  rw [List.length_nil] at h1
  rw [sizeLine_eq]; omega
 have he:∃ q,h'.get? s.heap.objs.size = some q:=let ⟨q,_,_,hq,_⟩:=dd'; ⟨q,hq⟩
 exact jI I2 (by rw [e]; exact True.intro) hs he (zcO hz hd (rk.merge .nil) dd')
structure M1 (X:Cx) (o:Expr) (m:Str) (apos:Pos) (e:Expr) (cpos:Pos):Prop where
 base:attributeBase o m X.env (eval o X.env) = eval o X.env
 few:((backTo cpos (starEach [e] X.env)).all (fun x=>!x.1) && (backToKw cpos (keywordEach [] X.env)).all (fun x=>x.1.isSome)
  && decide (([e]:List Expr).length + ([]:List Keyword).length + (if ([]:List Keyword).isEmpty then 0 else 1) < 30)) = true
 line:(apos.endLine == cpos.line) = true
 trees:backTo cpos (starEach [e] X.env) = [(false,eval e X.env)]
def IsD (H:Hp) (a:Addr):Prop:=(∃ kvs,Rd H a (.dK kvs))\/∃ kvs,Rd H a (.dT kvs)
theorem ziA {X:Cx} {pins:List (Addr × Obj)} {σ : St} {H:Hp} {s:Shared} {a:Addr} (I:Inv X pins σ H s) (d:IsD H a) :
  s.TypeIs (.ref a) "dict"/\(∀ b,Value.ref a = .ref b->∃ ob,s.heap.get? b = some ob/\ob.dict = none)/\(a == sysModules) = false:=by
 rcases d with ⟨kvs,e⟩ | ⟨kvs,e⟩
 ·obtain ⟨_,hd,vs,_,dd⟩:=qi I.hok e
  refine ⟨dd.typeIs,fun b q=>?_,hd⟩
  cases q
  obtain ⟨ob,_,_,h1,h2,_⟩:=dd
  exact ⟨ob,h1,h2.2.1⟩
 ·obtain ⟨_,hd,xs,_,dd⟩:=qh I.hok e
  refine ⟨dd.typeIs,fun b q=>?_,hd⟩
  cases q
  obtain ⟨ob,_,_,h1,h2,_⟩:=dd
  exact ⟨ob,h1,h2.2.1⟩
section
variable {X:Cx} {pins:List (Addr × Obj)} {σ : St} {H:Hp} {s:Shared} {a:Addr} {y d:V} {u r:Value} {o:Option V} {A:Around} {E:Value->Shared->Prop}
theorem ziK {Q:Value->Shared->Prop} (hu:A.units + 1 < cLine) (I:Inv X pins σ H s) (g:za4 H a y o) (ry:zO y u) (h:∀ w' s',Inv X pins σ H s'->zO (o.getD .non) w'->Q w' s') :
  wpAny (model X.prog X.w) A (call (.builtin "dict.get") [.ref a,u]) Q E s:=by
 rcases g with ⟨kvs,k,e,ey,l⟩ | ⟨kvs,k,b,e,ey,eb,l⟩
 ·subst ey
  obtain ⟨z,hd,vs,rel,dd⟩:=qi I.hok e
  refine call_meetsIn PySem.F.slot_dict_get dd.typeIs PySem.F.entry_dict_get (PySem.F.args_dict_get_2 _ _) (meets_dict_get (zZ X.prog X.w) a (jm ry) hd) ⟨_,dd.mapOf,h _ _ (I.tok _) ?_⟩
  rw [l]
  exact (rel.val k).getD rfl
 ·subst ey
  cases (show u = Value.ref b from ry)
  obtain ⟨z,hd,xs,rel,dd⟩:=qh I.hok e
  refine call_meetsIn PySem.F.slot_dict_get dd.typeIs PySem.F.entry_dict_get (PySem.F.args_dict_get_2 _ _) (meetsH_dict_get (tupleKind (zZ X.prog X.w)) a b hd) ⟨tupleKind_room_in1 hu,k,xs,je I.hok eb,dd,h _ _ (I.tok _) ?_⟩
  rw [l]
  exact (rel.val k).getD rfl
end
def zhM (td ty:TE):TE:=fun σ H Q=>td σ H fun x H1=>∃ a,x = .ref a/\IsD H1 a/\ty σ H1 fun y H2=>∃ o,za4 H2 a y o/\Q (o.getD .non) H2
section
variable {X:Cx} {o e f:Expr} {apos cpos:Pos} {td ty tx:TE}
theorem zfa (hu:X.A.units + 1 < cLine) (ho:PE X o td) (he:PE X e ty) (m:M1 X o "get" apos e cpos):PE X (.Call (.Attribute o "get" apos) [e] [] cpos) (zhM td ty):=by
 refine ⟨?_⟩
 intro pins s σ H Q I h
 refine wpAny_Call_method m.base m.few m.line PySem.F.plainAttrs_dict PySem.F.slot_dict_get PySem.F.type_dict_get (thn (ho pins s σ H _ I h) fun u s1 ⟨x,H1,I1,rx,a,ex,d,q1⟩=>?_)
 subst ex
 obtain rfl:u = Value.ref a:=rx
 obtain ⟨t1,t2,_⟩:=ziA I1 d
 refine ⟨t1,t2,?_⟩
 rw [m.trees]
 refine Calls.callWith_builtin rfl (Calls.evalArgs_plain (Calls.spliced_cons (thn (he pins s1 σ H1 _ I1 q1) fun iv s2 ⟨y,H2,I2,ry,ov,g,q2⟩=>Calls.spliced_nil ?_)))
 exact ziK hu I2 g ry fun w' s3 I3 rw'=>⟨_,H2,I3,rw',q2⟩
end
section
variable {X:Cx} {pins:List (Addr × Obj)} {σ : St} {H:Hp} {s:Shared} {a:Addr} {kvs:List (Key × V)} {A:Around} {E:Value->Shared->Prop}
end
section
variable {X:Cx} {pins:List (Addr × Obj)} {σ : St} {H:Hp} {s:Shared} {a:Addr} {y:V} {u:Value} {A:Around} {E:Value->Shared->Prop}
end
end L2
namespace Att
open PySem PySem.W PySem.Calls PyProof.Rows
theorem jr {P:Params} {h:Heap}:∀ (ns:List Int) (vs:List Value),WellAll P h vs (ns.map WData.int)->IntsAre vs ns:=by
 intro ns
 induction ns with
 | nil=>
  intro vs w
  rw [List.map_nil] at w
  cases w
  exact .nil
 | cons n ns ih=>
  intro vs w
  rw [List.map_cons] at w
  cases w with
  | cons a b=>
   cases a
   exact .cons _ _ (ih _ b)
theorem zdN {l:OpenLaw} {n:Nat} (hn:l.most = some n) {P:Params} {h:Heap} {args:List WData} {vals:List Value}
  (hpre:l.row.toRowW.claim.pre args = true) (hwl:WellAll P h vals args) :
  ∃ a vs ns,vals = [Value.ref a]/\args = [WData.list (ns.map WData.int)]/\h.get? a = some { cls:=.type "list",data:=.seq vs.toArray }/\IntsAre vs ns/\ns.length<=n:=by
 have hsh:WShape.hasAll [] args [.list .int] = true:=(pre_splitW hpre).1
 have hc:l.pre.holds [] { args:=args } = true:=(pre_splitW hpre).2
 obtain ⟨d,r,rfl,h1,h2⟩:=hasAllW_cons hsh
 obtain rfl:=hasAllW_nil h2
 obtain ⟨xs,rfl,h3⟩:=hasW_list h1
 obtain ⟨ns,rfl⟩:=items_int h3
 have hlen:ns.length<=n:=by
  unfold OpenLaw.pre at hc
  have h4:(WTm.not (.lt (.lit (.int (n:Int))) (.len (.arg 0)))).holds [] { args:=[.list (ns.map .int)] } = true:=by
   have h4:=(holds_andW hc).1
   rw [hn] at h4
   exact h4
  have h5:=condW_of h4 (w_not (w_lt w_lit (w_len_list (w_arg rfl))))
  rw [List.length_map] at h5
  refine Nat.le_of_not_lt fun q=>?_
  have q':(n:Int) < ((ns.length:Nat):Int):=by omega
  first
   | (rw [decide_eq_true q'] at h5; exact absurd h5 (by decide))
   | (simp at h5; omega)
 cases hwl with
 | cons w1 w2=>
  cases w2
  cases w1 with
  | list ho hall=>exact ⟨_,_,ns,rfl,rfl,ho,jr ns _ hall,hlen⟩
theorem zdY (l:OpenLaw) (args:List WData):l.row.toRowW.claim.post args (.bool true) args = true:=
 postW_of (r:=l.row.toRowW) (X:=(true == true))
  (show WShape.has [] (.bool true) .bool = true by first | rfl | decide | simp [WShape.has,WShape.arms,WShape.armsAll])
  (show (WTm.eq .res (.lit (.bool true))).value [] { args:=args,res:=some (.bool true),after:=args } = some (.bool (true == true)) from w_eq_bool (w_res rfl) w_lit) rfl
section
variable {prog:Program} {w:World} {A:Around} {E:Value->Shared->Prop} {s:Shared} {K:Frag}
def zkp (h:Heap) (L d:Addr):List (Addr × Obj):=(List.range h.objs.size).filterMap fun a=>if a = L\/a = d then none else (h.get? a).map fun o=>(a,o)
end
end Att
namespace L2
open PySem PySem.Spec PyProof.Rows
theorem qy:∀ {vs:List Value} {ns:List Int},IntsAre vs ns->zK (ns.map V.int) vs
 | _,_,.nil=>.nil
 | _,_,.cons n t h=>.cons ⟨t,rfl⟩ (qy h)
def ziP (H:Hp):Prop:=∀ b,H b = none\/∃ o xs,H b = some (.frz o (.lst xs))
theorem zfT {P:Program} {w:World} {K:Frag} {mg mb:Str->Option Value} {CX:CXT} {k:Nat} {fa a:Addr} {fd:FuncData} {x:Str} {sp:Sp} {s₁:Shared} {vs:List Value} {ns:List Int}
  (KX:K.In s₁.heap) (hns:s₁.heap.Ns mainGlobals mg) (hb:s₁.heap.Ns builtinsNs mb) (hbb:∀ x:Str,x ≠ "__name__"->mb x = bootBuiltins x) (hlim:s₁.heap.NoLimit) (hg:s₁.gens = #[])
  (ha:s₁.heap.get? a = some { cls:=.type "list",data:=.seq vs.toArray }) (hi:IntsAre vs ns) (hl:ns.length<=sizeLine) (hr:ya k callerA)
  (F:∀ base:Heap,K.In base->base.Ns mainGlobals mg->zC P w K mg base CX k fa fd [x] sp) (hbind:∀ (s:Shared) (u:Value),BindsTo s fd ⟨[u],[]⟩ [(x,u)])
  (hsp:∀ H:Hp,ziP H->SqL K H a (ns.map V.int)->sp [.ref a] H (fun v _=>v = .bl true) fun _ _ _=>False)
  (hCX:∀ H e s',CX [] H s₁ (fun _ _ _=>False) e s'->False) :
  codeAny (model P w) callerA (.call (.ref fa) ⟨[.ref a],[]⟩) (fun r s'=>r = .ok (.ret (.bool true))/\OldK s₁.heap s'.heap/\s'.os = s₁.os/\AllBare s'.gens) s₁:=by
 have rv:=qy hi
 have lenV:=hi.length
 have core:∀ H:Hp,ziP H->SqL K H a (ns.map V.int)->HOk P w H s₁.heap->(∀ b,H b ≠ none->b = a)->(H a ≠ none->K.lookup a = none)->
   codeAny (model P w) callerA (.call (.ref fa) ⟨[.ref a],[]⟩) (fun r s'=>r = .ok (.ret (.bool true))/\OldK s₁.heap s'.heap/\s'.os = s₁.os/\AllBare s'.gens) s₁:=by
  intro H hO hS hok hA hK
  have base_of:∀ {b:Addr} {o:Obj},s₁.heap.get? b = some o->H b = none->(zaV s₁.heap H).get? b = some o:=fun e n=>zf0 e n
  have noA:∀ {b:Addr} {o:Obj} {es:Array DictEntry} {ep:Nat},s₁.heap.get? b = some o->o.data = .dict es ep->H b = none:=fun {b o es ep} e d=>by
   cases q:H b with
   | none=>rfl
   | some u=>
    have e':b = a:=hA b (by rw [q]; simp)
    subst e'
    rw [ha] at e; cases e
    have d':Data.seq vs.toArray _ = Data.dict es ep:=d
    cases d'
  have nsK:∀ {b:Addr} {m:Str->Option Value},s₁.heap.Ns b m->(zaV s₁.heap H).Ns b m:=fun {b m} ⟨o,es,ep,e,d,r⟩=>⟨o,es,ep,base_of e (noA e d),d,r⟩
  have hKb:K.In (zaV s₁.heap H):=fun b o e=>base_of (KX b o e) (by
   cases q:H b with
   | none=>rfl
   | some u=>
    have e':b = a:=hA b (by rw [q]; simp)
    subst e'
    rw [hK (by rw [q]; simp)] at e; cases e)
  have hM:Mod K mg (zaV s₁.heap H):=⟨hKb,nsK hns,⟨mb,nsK hb,hbb⟩,let ⟨mc,h1,h2⟩:=hlim; ⟨mc,nsK h1,h2⟩⟩
  have e0:zcU P w K mg (zaV s₁.heap H) callerA [] s₁ H:=⟨rfl,hM,fun b o e=>zg5 e,Nat.le_of_eq (zet _ _),trivial,fun b hb=>absurd (show b ∈ ([]:List Addr) from hb) (by simp),hok,.of_eq hg⟩
  refine codeAny_mono ((F _ hKb (nsK hns)).run callerA [] s₁ H ⟨[.ref a],[]⟩ [.ref a] [.ref a] _ _ hr e0 (hbind s₁ (.ref a)) (.cons rfl .nil) (hsp H hO hS)) fun r s' h=>?_
  cases r with
  | error e=>exact (hCX H e s' h).elim
  | ok fl=>
   cases fl with
   | next=>exact False.elim h
   | brk=>exact False.elim h
   | cont=>exact False.elim h
   | ret u=>
    obtain ⟨v,H',os,bare,un,hok',r',q⟩:=h
    have q':v = .bl true:=q
    subst q'
    obtain rfl:u = Value.bool true:=r'
    refine ⟨rfl,OldK.of_keep fun b o e=>?_,os,bare⟩
    cases q:H b with
    | none=>exact un.keep b o e q (by intro z; exact absurd (show b ∈ ([]:List Addr) from z) (by simp)) (by simp)
    | some u=>
     rcases hO b with z | ⟨ob,xs,z⟩
     ·rw [q] at z; cases z
     ·have z2:=un.frzs b ob _ z
      obtain ⟨e1,_⟩:=hok b _ z
      obtain ⟨e2,_⟩:=hok' b _ z2
      rw [e] at e1; cases e1
      exact e2
 cases hk:K.lookup a with
 | some o=>
  have e:=KX a o hk
  rw [ha] at e
  cases e
  refine core (fun _=>none) (fun _=>.inl rfl) (.inr ⟨_,vs.toArray,_,hk,rfl,rfl,rfl,by rw [List.size_toArray,lenV]; exact hl,by simpa using rv⟩) (fun b u z=>by have z':(none:Option HO) = some u:=z; cases z') (fun b z=>absurd rfl z) fun z=>absurd rfl z
 | none=>
  refine core (fun b=>if b = a then some (.frz { cls:=.type "list",data:=.seq vs.toArray } (.lst (ns.map V.int))) else none) (fun b=>?_) (.inl (.inr ⟨{ cls:=.type "list",data:=.seq vs.toArray },if_pos rfl⟩)) (fun b u z=>?_) (fun b z=>?_) fun _=>hk
  ·by_cases hb:b = a
   ·exact .inr ⟨_,_,if_pos hb⟩
   ·exact .inl (if_neg hb)
  ·by_cases hb:b = a
   ·have z':=(if_pos hb).symm.trans z
    cases z'
    subst hb
    exact ⟨ha,by rw [List.length_map]; exact hl,vs,_,rv,ha⟩
   ·have z':=(if_neg hb).symm.trans z
    cases z'
  ·by_cases hb:b = a
   ·exact hb
   ·exact absurd (if_neg hb) z
def yk (s:Stmt) (j:Nat):Stmt:=match s with
 | .ClassDef _ _ _ body _ _ _ _ _ _ _=>body.getD j (.Pass ⟨0,0,0,0⟩)
 | _=>.Pass ⟨0,0,0,0⟩
def zp (s:Stmt):Arguments:=match s with
 | .FunctionDef _ a _ _ _ _ _ _ _ _=>a
 | _=>{ posonlyargs:=[],args:=[],vararg:=none,kwonlyargs:=[],kw_defaults:=[],kwarg:=none,defaults:=[] }
def zn (s:Stmt):List Stmt:=match s with
 | .FunctionDef _ _ b _ _ _ _ _ _ _=>b
 | _=>[]
def ze (s:Stmt):Scope:=match s with
 | .FunctionDef _ _ _ _ _ _ sc _ _ _=>sc
 | _=>{ kind:=.function,names:=[],isGenerator:=false,isCoroutine:=false }
abbrev CX0:CXT:=fun _ _ _ _ _ _=>False
abbrev E0:XK:=fun _ _ _=>False
theorem y7 {X:Cx}:xz CX0 X E0:=fun _ _ _ _ _ _ _ h=>h.elim
structure Fun (K:Frag) (x qual:Str) (st:Stmt) (f:Addr) (fd:FuncData):Prop where
 ex:∃ (oc:Value) (od:Option Addr) (kV doc pm:Value) (an:Option Addr) (cdv ct:Value) (osl:Array (Option Value)),
  fd = fnOf x qual (zp st) (zn st) (ze st) .none kV doc pm an cdv ct/\K.lookup f = some ⟨oc,od,.func fd,osl⟩/\codeIn K cdv qual = true
 kp:keepIn K (.ref f) = true
section
variable {P:Program} {w:World} {K:Frag} {mg:Str->Option Value} {base:Heap}
theorem Fun.ok {x qual:Str} {st:Stmt} {f:Addr} {fd:FuncData} {N ps:List Str} {k:Nat} {sp:Sp} (F:Fun K x qual st f fd) (S:zu N ps (ze st)) (len:∀ vs H Q E,sp vs H Q E->vs.length = ps.length)
  (hbody:∀ (cdv:Value) (A:Around) (outer:List Env) (s:Shared) (H:Hp) (vs:List V) (Q:VK) (E:XK),ya k (A.deeper (envOfC qual (ze st) s.heap.objs.size f cdv))->sp vs H Q E->
   ∃ t,PSs (qj CX0 P w K mg base N qual (ze st) f cdv A outer s H E).nox (zn st) t/\t { nx:=fun _ H'=>Q .non H',rt:=Q } (wT N vs) H):zC P w K mg base CX0 (k + 1) f fd ps sp:=by
 obtain ⟨oc,od,kV,doc,pm,an,cdv,ct,osl,rfl,lk,hcd⟩:=F.ex
 refine zdx lk hcd S len fun A outer s H vs Q E hr hsp=>?_
 obtain ⟨t,h,q⟩:=hbody cdv A outer s H vs Q E hr hsp
 exact ⟨t,h.nox,q⟩
theorem Fun.binds {x qual:Str} {st:Stmt} {f:Addr} {fd:FuncData} {ps:List Str} (F:Fun K x qual st f fd)
  (h:∀ (kV doc pm:Value) (an:Option Addr) (cdv ct:Value) (us:List Value),us.length = ps.length->bindArgs (fnOf x qual (zp st) (zn st) (ze st) .none kV doc pm an cdv ct) ⟨us,[]⟩ = pure (ps.zip us)):zS K fd ps []:=by
 obtain ⟨oc,od,kV,doc,pm,an,cdv,ct,osl,rfl,lk,hcd⟩:=F.ex
 exact .all (h kV doc pm an cdv ct)
theorem zD {x qual:Str} {st:Stmt} {f:Addr} {oc:Value} {od an:Option Addr} {osl:Array (Option Value)} {kV doc pm cdv ct:Value} (l:K.lookup f = some ⟨oc,od,.func (fnOf x qual (zp st) (zn st) (ze st) .none kV doc pm an cdv ct),osl⟩)
  (c:codeIn K cdv qual = true) (k:keepIn K (.ref f) = true):Fun K x qual st f (fnOf x qual (zp st) (zn st) (ze st) .none kV doc pm an cdv ct):=⟨⟨oc,od,kV,doc,pm,an,cdv,ct,osl,rfl,l,c⟩,k⟩
end
theorem zbO {A:Around} {k:Nat} (hr:ya k A):A.units + 1 < cLine:=Nat.lt_of_le_of_lt (Nat.add_le_add_left (by decide : 1<=64) _) hr.units
theorem zz {n:Nat} (h:n<=1000):n < sizeLine:=Nat.lt_of_le_of_lt h (by decide)
section
variable {X:Cx}
theorem pv (i:Nat) {x:Str} {pos:Pos} (hN:X.N[i]? = some x:=by rfl) (hv:Vis X.env.scope x:=by first | exact Or.inl rfl | exact Or.inr (Or.inl rfl) | exact Or.inr (Or.inr rfl)) (hd:(x == ("__debug__" : Str)) = false:=by decide)
  (hcd:(x == ("__classdict__" : Str)) = false:=by decide):PE X (.Name x pos) (ziX i):=zia hN hv hd hcd
end
theorem y9 {A B:Prop} (h:B):if false = true then A else B:=by
 rw [if_neg Bool.false_ne_true]
 exact h
theorem vI {A B:Prop} (h:A):if true = true then A else B:=by
 rw [if_pos rfl]
 exact h
theorem qa {c A B:Prop} [Decidable c] (h1:c->A) (h2:¬ c->B):if c then A else B:=by
 by_cases h:c
 ·rw [if_pos h]
  exact h1 h
 ·rw [if_neg h]
  exact h2 h
def zm (H H':Hp):Prop:=∀ b o,H b = some o->H' b = some o
theorem zm.refl (H:Hp):zm H H:=fun _ _ h=>h
theorem zm.trans {H H1 H2:Hp} (a:zm H H1) (b:zm H1 H2):zm H H2:=fun c o h=>b c o (a c o h)
theorem zm.free {H H':Hp} (e:zm H H') {l:Addr} (h:H' l = Option.none):H l = Option.none:=by
 cases q:H l with
 | none=>rfl
 | some o=>
  rw [e l o q] at h
  cases h
theorem zm.seq {K:Frag} {H H':Hp} {a:Addr} {xs:List V} (e:zm H H') (h:SqL K H a xs):SqL K H' a xs:=by
 rcases h with (h | ⟨o,h⟩) | h
 ·exact .inl (.inl (e _ _ h))
 ·exact .inl (.inr ⟨o,e _ _ h⟩)
 ·exact .inr h
section
variable {X:Cx}
end
section
variable {κ : Type} [DecidableEq κ]
end
def clB (env:Env) (fr:List Str):List (Str × Addr):=fr.map fun n=>(n,(env.cells.lookup n).getD 0)
theorem zbX {env:Env}:∀ {fr:List Str} {x:Str} {c:Addr},(clB env fr).lookup x = some c->x ∈ fr/\c = (env.cells.lookup x).getD 0
 | [],x,c,h=>by simp [clB] at h
 | n :: r,x,c,h=>by
  have h':List.lookup x ((n,(env.cells.lookup n).getD 0) :: clB env r) = some c:=h
  rw [List.lookup_cons] at h'
  cases e:x == n with
  | true=>
   rw [e] at h'
   have e':x = n:=by simpa using e
   subst e'
   exact ⟨List.mem_cons_self,(Option.some.inj h').symm⟩
  | false=>
   rw [e] at h'
   obtain ⟨h1,h2⟩:=zbX h'
   exact ⟨List.mem_cons_of_mem _ h1,h2⟩
theorem za0 {env:Env}:∀ {fr:List Str} {x:Str},x ∈ fr->(clB env fr).lookup x = some ((env.cells.lookup x).getD 0)
 | n :: r,x,h=>by
  show List.lookup x ((n,(env.cells.lookup n).getD 0) :: clB env r) = _
  rw [List.lookup_cons]
  cases e:x == n with
  | true=>
   have e':x = n:=by simpa using e
   subst e'
   rfl
  | false=>
   rcases List.mem_cons.mp h with z | z
   ·subst z; simp at e
   ·exact za0 z
theorem wX {env:Env}:∀ {names:List (Str × NameKind)} {x:Str} {k:NameKind},
  (names.map fun (n,k)=>if (k == NameKind.free && env.scope.kind == .function && env.kindOf n == some .cell) then (n,NameKind.cell) else (n,k)).lookup x = some k->
  ∃ k0,(x,k0) ∈ names/\(k = k0\/(k0 = .free/\k = .cell))
 | [],_,_,h=>by simp at h
 | (n,k0) :: r,x,k,h=>by
  have h':List.lookup x ((if (k0 == NameKind.free && env.scope.kind == .function && env.kindOf n == some .cell) = true then (n,NameKind.cell) else (n,k0)) ::
   (r.map fun (n,k)=>if (k == NameKind.free && env.scope.kind == .function && env.kindOf n == some .cell) then (n,NameKind.cell) else (n,k))) = some k:=h
  by_cases hc:(k0 == NameKind.free && env.scope.kind == .function && env.kindOf n == some .cell) = true
  ·rw [if_pos hc,List.lookup_cons] at h'
   cases e:x == n with
   | true=>
    rw [e] at h'
    have e':x = n:=by simpa using e
    subst e'
    simp only [Bool.and_eq_true] at hc
    exact ⟨k0,List.mem_cons_self,.inr ⟨by simpa using hc.1.1,(Option.some.inj h').symm⟩⟩
   | false=>
    rw [e] at h'
    obtain ⟨k1,h1,h2⟩:=wX h'
    exact ⟨k1,List.mem_cons_of_mem _ h1,h2⟩
  ·rw [if_neg hc,List.lookup_cons] at h'
   cases e:x == n with
   | true=>
    rw [e] at h'
    have e':x = n:=by simpa using e
    subst e'
    exact ⟨k0,List.mem_cons_self,.inl (Option.some.inj h').symm⟩
   | false=>
    rw [e] at h'
    obtain ⟨k1,h1,h2⟩:=wX h'
    exact ⟨k1,List.mem_cons_of_mem _ h1,h2⟩
theorem wE {env:Env} (hk:env.scope.kind = .function):∀ {names:List (Str × NameKind)} {x:Str},names.lookup x = some .free->env.kindOf x = some .cell->
  (names.map fun (n,k)=>if (k == NameKind.free && env.scope.kind == .function && env.kindOf n == some .cell) then (n,NameKind.cell) else (n,k)).lookup x = some .cell
 | [],_,h,_=>by simp at h
 | (n,k0) :: r,x,h,hx=>by
  show List.lookup x ((if (k0 == NameKind.free && env.scope.kind == .function && env.kindOf n == some .cell) = true then (n,NameKind.cell) else (n,k0)) ::
   (r.map fun (n,k)=>if (k == NameKind.free && env.scope.kind == .function && env.kindOf n == some .cell) then (n,NameKind.cell) else (n,k))) = some .cell
  rw [List.lookup_cons] at h
  cases e:x == n with
  | true=>
   rw [e] at h
   have e':x = n:=by simpa using e
   subst e'
   have h0:k0 = .free:=Option.some.inj h
   subst h0
   rw [if_pos (by rw [hk,hx]; decide),List.lookup_cons]
   simp
  | false=>
   rw [e] at h
   have ih:=wE hk h hx
   split
   ·rw [List.lookup_cons,e]; exact ih
   ·rw [List.lookup_cons,e]; exact ih
abbrev zN (X:Cx) (pins:List (Addr × Obj)) (sc:Scope) (fr Nc:List Str) (fp:List Addr) (s:Shared) (H:Hp) (C:Addr):Cx:=
 { prog:=X.prog,w:=X.w,K:=X.K,mg:=X.mg,base:=X.base,A:=X.A,N:=Nc,s₀:=s,H₀:=H,env:=compEnvC sc (clB X.env fr) C X.env,outer:=X.stack,stack:=X.stack,ex:=fp,fn:=fun _=>false,calm:=X.calm,pn:=X.pn ++ pins,xe:=fun _ _=>False }
structure yQ (env:Env) (sc:Scope) (fr:List Str):Prop where
 kind:sc.kind = .function
 clos:closureFor sc env = pure (clB env fr)
 cells:(fr.all fun n=>(env.cells.lookup n).isSome) = true
 names:(sc.names.all fun y=>(y.2 != .cell) && (y.2 != .free || fr.contains y.1) && (y.2 != .local || sc.names.lookup y.1 == some .local)) = true
def vZ (N Nc:List Str) (caps:List (Option Nat)) (env:Env) (sc:Scope) (fr:List Str):Bool:=
 (Nc.zip caps).all fun p=>match p.2 with
  | none=>true
  | some j=>(N[j]? == some p.1) && (env.kindOf p.1 == some .cell) && (sc.names.lookup p.1 == some .free) && fr.contains p.1
def yX (caps:List (Option Nat)) (σ : St):St:=caps.map fun o=>match o with
 | none=>none
 | some j=>(σ[j]?).join
section
variable {X:Cx} {pins:List (Addr × Obj)} {σ : St} {H:Hp} {s:Shared} {sc:Scope} {fr Nc:List Str} {fp:List Addr} {C:Addr}
theorem yQ.sub {env:Env} (B:yQ env sc fr) {x:Str} {c:Addr} (h:(clB env fr).lookup x = some c):env.cells.lookup x = some c:=by
 obtain ⟨h1,h2⟩:=zbX h
 have h3:=List.all_eq_true.mp B.cells x h1
 obtain ⟨d,hd⟩:=Option.isSome_iff_exists.mp h3
 rw [hd] at h2 |-
 rw [h2]; rfl
theorem yQ.free {env:Env} (B:yQ env sc fr) {x:Str} {k:NameKind} (h:(relabel sc env).names.lookup x = some k) (hk:k = .cell\/k = .free):x ∈ fr:=by
 obtain ⟨k0,h1,h2⟩:=wX h
 have h3:=List.all_eq_true.mp B.names _ h1
 simp only [Bool.and_eq_true,Bool.or_eq_true,bne_iff_ne,ne_eq,List.contains_iff_mem] at h3
 have h4:k0 = .free:=by
  rcases h2 with h2 | ⟨h2,_⟩
  ·subst h2
   rcases hk with z | z
   ·exact absurd z h3.1.1
   ·exact z
  ·exact h2
 rcases h3.1.2 with z | z
 ·exact absurd h4 z
 ·exact z
theorem zdG (I:Inv X pins σ H s) (B:yQ X.env sc fr) (hf:∀ b ∈ fp,vk X pins H b) (ho:∀ b ∈ fp,∃ o,s.heap.get? b = some o) (hC:s.heap.objs.size<=C):(zN X pins sc fr Nc fp s H C).Ok where
 mod:=I.ok.mod
 kind:=B.kind
 glob:=I.ok.glob
 blt:=I.ok.blt
 above:=hC
 inj:=fun x y c h1 h2=>I.ok.inj x y c (B.sub h1) (B.sub h2)
 has:=fun x h=>by
  have hx:x ∈ fr:=by
   rcases h with h | h
   ·exact B.free h (.inl rfl)
   ·exact B.free h (.inr rfl)
  exact ⟨_,za0 hx⟩
 cab:=fun x c h=>absurd h (by simp)
 hd:=I.ok.hd
 frames:=I.ok.frames
 stk:=.inl rfl
 exf:=fun b hb=>by
  obtain ⟨o,e⟩:=ho b hb
  refine ⟨fun z=>?_,fun x c h=>(hf b hb).2.2.2.2.1 x c (B.sub h)⟩
  have z':b = C:=z
  have:=Heap.lt_size e
  rw [z'] at this
  exact absurd (Nat.lt_of_lt_of_le this hC) (Nat.lt_irrefl _)
 bs:=I.bs
 bsz:=Nat.le_trans I.ok.bsz I.sz
 noex:=fun b o e hb=>by
  rcases (hf b hb).2.2.2.1 with z | z
  ·exact I.ok.noex b o e z
  ·exact absurd (Nat.lt_of_lt_of_le (Heap.lt_size (I.ok.bs b o e).1) z) (Nat.lt_irrefl _)
 exfs:=fun b hb h=>by
  rcases List.mem_cons.mp (I.stkSub b h) with z | z
  ·exact (hf b hb).2.1 z
  ·exact (hf b hb).2.2.1 z
 funs:=I.stack
 frf:=I.stkFree
theorem Inv.pin_lt (I:Inv X pins σ H s) {p:Addr × Obj} (hp:p ∈ X.pn ++ pins):p.1 < s.heap.objs.size:=Heap.lt_size (I.pin p hp).1
theorem zcP {caps:List (Option Nat)} {h':Heap} {D:Addr} {m:Str->Option Value} {t' n0:Nat} (I:Inv X pins σ H s) (B:yQ X.env sc fr) (hf:∀ b ∈ fp,vk X pins H b) (ho:∀ b ∈ fp,∃ o,s.heap.get? b = some o)
  (hC:s.heap.objs.size<=C) (hD:s.heap.objs.size<=D) (hDC:D ≠ C) (keep:∀ b o,s.heap.get? b = some o->h'.get? b = some o) (hl:h'.get? D = some { cls:=.type "list",data:=.seq ([]:List Value).toArray n0 }) (hn:h'.Ns C m)
  (hcap:vZ X.N Nc caps X.env sc fr = true) (hlen:caps.length = Nc.length) :
  Inv (zN X pins sc fr Nc fp s H C) [] (yX caps σ) (upd H D (.lst [])) { s with heap:=h',toks:=t' }:=by
 have hk:X.env.scope.kind = .function:=I.ok.kind
 have fresh:∀ a,s.heap.objs.size<=a->H a = none:=fun a ha=>I.hok.fresh ha
 refine ⟨zdG I B hf ho hC,rfl,I.bare,Un.laid keep hD (fresh D hD),⟨m,hn,fun i x v e1 e2 e3=>?_⟩,fun x c h=>?_,?_,fun x c h=>?_,fun p hp=>?_,?_,?_⟩
 ·
  have e2':(caps[i]?).map (fun o=>match o with | none=>none | some j=>(σ[j]?).join) = some (some v):=by
   have:(yX caps σ)[i]? = some (some v):=e2
   unfold yX at this
   rw [List.getElem?_map] at this
   exact this
  cases hc:caps[i]? with
  | none=>rw [hc] at e2'; cases e2'
  | some o=>
   rw [hc] at e2'
   cases o with
   | none=>simp at e2'
   | some j=>
    have e4:(σ[j]?).join = some v:=by simpa using e2'
    have e5 : σ[j]? = some (some v):=by
     cases q : σ[j]? with
     | none=>rw [q] at e4; cases e4
     | some w'=>rw [q] at e4; simp at e4; rw [e4]
    have e6:(Nc.zip caps)[i]? = some (x,some j):=by
     rw [List.getElem?_zip_eq_some]
     exact ⟨e1,hc⟩
    have e7:=List.all_eq_true.mp hcap _ (List.mem_of_getElem? e6)
    simp only [Bool.and_eq_true,beq_iff_eq,List.contains_iff_mem] at e7
    obtain ⟨⟨⟨a1,a2⟩,a3⟩,a4⟩:=e7
    obtain ⟨m0,hn0,hl0⟩:=I.loc
    obtain ⟨u,r,l⟩:=hl0 j x v a1 e5 (.inr (.inl a2))
    refine ⟨u,r,.inr ⟨.inl (wE hk a3 a2),_,za0 a4,?_⟩⟩
    rcases l with ⟨z,_⟩ | ⟨_,c,ec,hcell⟩
    ·rw [a2] at z; cases z
    ·have:(X.env.cells.lookup x).getD 0 = c:=by rw [ec]; rfl
     rw [this]
     exact hcell.keeps keep
 ·obtain ⟨v,hv⟩:=I.cell x c (B.sub h)
  exact ⟨v,hv.keeps keep⟩
 ·show upd H D (.lst []) C = none
  rw [zi (Ne.symm hDC)]; exact fresh C hC
 ·obtain ⟨v,hv⟩:=I.cell x c (B.sub h)
  have:c ≠ D:=fun z=>by have:=hv.lt; rw [z] at this; exact absurd (Nat.lt_of_lt_of_le this hD) (Nat.lt_irrefl _)
  rw [zi this]; exact I.freeC x c (B.sub h)
 ·have hp':p ∈ X.pn ++ pins:=by simpa using hp
  obtain ⟨e,n,ne,nf,d⟩:=I.pin p hp'
  have hlt:=I.pin_lt hp'
  refine ⟨keep _ _ e,?_,?_,fun z=>?_,d⟩
  ·rw [zi (fun z=>by rw [z] at hlt; exact absurd (Nat.lt_of_lt_of_le hlt hD) (Nat.lt_irrefl _))]; exact n
  ·intro z
   have z':p.1 = C:=z
   rw [z'] at hlt; exact absurd (Nat.lt_of_lt_of_le hlt hC) (Nat.lt_irrefl _)
  ·rcases List.mem_cons.mp (I.stkSub p.1 z) with q | q
   ·exact ne q
   ·exact nf q
 ·exact I.hok.laid keep hD ⟨Nat.zero_le _,[],n0,.nil,hl⟩
 ·show (yX caps σ).length = Nc.length
  unfold yX
  rw [List.length_map,hlen]
theorem jg {pl:List (Addr × Obj)} {σ':St} {H':Hp} {s':Shared} (I:Inv X pins σ H s) (hf:∀ b ∈ fp,vk X pins H b) (J:Inv (zN X pins sc fr Nc fp s H C) pl σ' H' s'):Inv X pins σ H' s':=
 I.call' J.os J.base J.hok J.bare fun b hb=>⟨(hf b hb).2.2.2.1,(hf b hb).2.1,(hf b hb).2.2.2.2.1,(hf b hb).2.2.2.2.2⟩
theorem zah {pl:List (Addr × Obj)} {σ' σ2:St} {H':Hp} {s':Shared} {h2:Heap} {t2:Nat} (I:Inv X pins σ H s) (J:Inv (zN X pins sc fr Nc fp s H C) pl σ' H' s') (J2:Inv X pins σ2 H' s') (hs:Heap.SameBut C s'.heap h2):Inv X pins σ2 H' { s' with heap:=h2,toks:=t2 }:=by
 have hC:s.heap.objs.size<=C:=J.ok.above
 refine J2.turned (it:=C) (fun b o hb e=>(hs.2 b hb).trans e) J.free ?_ (.inr (Nat.le_trans I.sz hC)) (fun x c h z=>?_) fun p hp z=>?_
 ·intro z
  have:=I.lt
  rw [<- z] at this
  exact absurd (Nat.lt_of_lt_of_le this hC) (Nat.lt_irrefl _)
 ·obtain ⟨v,hv⟩:=I.cell x c h
  have:=hv.lt
  rw [z] at this
  exact absurd (Nat.lt_of_lt_of_le this hC) (Nat.lt_irrefl _)
 ·have:=I.pin_lt hp
  rw [z] at this
  exact absurd (Nat.lt_of_lt_of_le this hC) (Nat.lt_irrefl _)
end
def ziY:TT:=fun _ H Q=>Q true H
structure PIf (X:Cx) (ifs:List Expr) (t:TT):Prop where
 run:∀ (pins:List (Addr × Obj)) (s:Shared) (σ : St) (H:Hp) (Q:Bool->Hp->Prop),Inv X pins σ H s->t σ H Q->
  wpAny (model X.prog X.w) X.A (forIn ifs true fun c r=>if r = true then do let ok <- isTrue c X.env (eval c X.env); pure (ForInStep.yield ok) else pure (ForInStep.yield r)) (TP X pins σ Q) X.xe s
instance {X:Cx} {ifs:List Expr} {t:TT}:CoeFun (PIf X ifs t) (fun _=>∀ (pins:List (Addr × Obj)) (s:Shared) (σ : St) (H:Hp) (Q:Bool->Hp->Prop),Inv X pins σ H s->t σ H Q->
  wpAny (model X.prog X.w) X.A (forIn ifs true fun c r=>if r = true then do let ok <- isTrue c X.env (eval c X.env); pure (ForInStep.yield ok) else pure (ForInStep.yield r)) (TP X pins σ Q) X.xe s):=⟨PIf.run⟩
theorem xp {X:Cx}:PIf X [] ziY:=⟨fun _ _ _ H _ I h=>wpAny_tests_nil ⟨H,I,h⟩⟩
theorem y0 {X:Cx} {c:Expr} {t:TT} (hc:PT X c t):PIf X [c] t:=⟨fun pins s σ H Q I h=>wpAny_tests_one (hc pins s σ H Q I h)⟩
def zcS (g:TG) (ow:List Nat):Prop:=
 ∀ (v:V) (σ : St) (H:Hp) (Q:St->Hp->Prop),g v σ H Q->g v σ H fun σ2 H2=>Q σ2 H2/\σ2.length = σ.length/\∀ i,i ∉ ow->σ2[i]? = σ[i]?
theorem yx (i:Nat):zcS (yg i) [i]:=fun v σ H Q h=>⟨h,List.length_set ..,fun j hj=>List.getElem?_set_ne (fun e=>hj (by simp [e]))⟩
theorem yw {K:Frag} {n:Nat} (i j:Nat):zcS (zjF K n (zf3 (yg i) (zf3 (yg j) zjG))) [i,j]:=by
 rintro v σ H Q ⟨a,xs,e1,e2,e3,v1,r1,e4,v2,r2,e5,e6,q⟩
 refine ⟨a,xs,e1,e2,e3,v1,r1,e4,v2,r2,e5,e6,q,by rw [List.length_set,List.length_set],fun k hk=>?_⟩
 have h1:i ≠ k:=fun e=>hk (by simp [e])
 have h2:j ≠ k:=fun e=>hk (by simp [e])
 rw [List.getElem?_set_ne h2,List.getElem?_set_ne h1]
section
variable {prog:Program} {w:World} {A:Around} {R:Result->Shared->Prop} {s:Shared}
theorem zaZ {elt target iter:Expr} {ifs:List Expr} {scope:Scope} {pos:Pos} {it acc:Value} {env:Env} (I:Nat->Shared->Prop)
  (turn:∀ n s,I n s->wpAny (model prog w) A (pyNext it) (fun r s₁=>match r with
   | none=>R (.ok .next) s₁
   | some v=>wpAny (model prog w) A (letOwnedTupleGo target it v) (fun _ s₀=>wpAny (model prog w) A (assign target env v) (fun _ s₂=>
     wpAny (model prog w) A (forIn ifs true fun c r=>if r = true then do let ok <- isTrue c env (eval c env); pure (ForInStep.yield ok) else pure (ForInStep.yield r)) (fun ok s₃=>
      if ok = true then wpAny (model prog w) A (eval elt env) (fun x s₄=>
       wpAny (model prog w) A (call (.builtin "list.append") [acc,x]) (fun _ s₅=>∃ m,m < n/\I m s₅) (fun _ _=>False) s₄) (fun _ _=>False) s₃
      else ∃ m,m < n/\I m s₃) (fun _ _=>False) s₂) (fun _ _=>False) s₀) (fun _ _=>False) s₁) (fun _ _=>False) s)
  (n:Nat) (h:I n s) :
  codeAny (model prog w) A (.compLoop (.ListComp elt [⟨target,iter,ifs,0⟩] scope pos) 0 it acc env) R s:=by
 refine codeAny_loop rfl I (fun n s hI=>?_) n h
 show wpAny _ A ((compTurn (.ListComp elt [⟨target,iter,ifs,0⟩] scope pos) 0 it acc env).onRaise (fun x=>do noteFrame x env; theTreesLotGoes x)) _ _ s
 refine wpAny_noted ?_
 rw [compTurn_list]
 refine wpAny_bind (wpAny_standAt (wpAny_bind (wpAny_mono (turn n s hI) (fun r s₁ h₁=>?_) fun _ _ z=>z.elim)))
 cases r with
 | none=>exact wpAny_pure h₁
 | some v=>
  refine wpAny_bind (wpAny_mono h₁ (fun _ s₀ h₀=>?_) fun _ _ z=>z.elim)
  refine wpAny_bind (wpAny_mono h₀ (fun _ s₂ h₂=>wpAny_bind (wpAny_mono h₂ (fun ok s₃ h₃=>?_) fun _ _ z=>z.elim)) fun _ _ z=>z.elim)
  cases ok with
  | false=>exact wpAny_pure ⟨rfl,h₃⟩
  | true=>
   exact wpAny_bind (wpAny_bind (wpAny_mono h₃ (fun x s₄ h₄=>wpAny_bind (wpAny_mono h₄ (fun _ s₅ h₅=>wpAny_pure (wpAny_pure ⟨rfl,h₅⟩)) fun _ _ z=>z.elim)) fun _ _ z=>z.elim))
end
def LCr (J:It) (caps:List (Option Nat)) (g:TG) (tt:TT) (te:TE) (σ : St) (H1:Hp) (Q:VK) (D:Addr):Prop:=
 ∃ W:Nat->Nat->List V->Hp->Prop,(∃ m,W 0 m [] (upd H1 D (.lst [])))/\∀ i m ys H,W i m ys H->
  (J.stop i H/\Q (.ref D) H)\/
  (J.go i H/\∀ x H',J.yld i H x H'->g x (yX caps σ) H' fun σ2 H2=>tt σ2 H2 fun ok H3=>
   (ok = true->te σ2 H3 fun v H4=>H4 D = some (.lst ys)/\ys.length < sizeLine/\∃ m',m' < m/\W (i + 1) m' (ys ++ [v]) (upd H4 D (.lst (ys ++ [v]))))/\
   (ok = false->∃ m',m' < m/\W (i + 1) m' ys H3))
def tLC (wi:TI) (caps:List (Option Nat)) (g:TG) (tt:TT) (te:TE):TE:=fun σ H Q=>wi σ H fun J H1=>∀ D,H1 D = none->LCr J caps g tt te σ H1 Q D
section
variable {X:Cx} {pins:List (Addr × Obj)} {σ : St} {s:Shared} {sc:Scope} {fr Nc:List Str} {caps:List (Option Nat)} {elt tg iter:Expr} {ifs:List Expr} {g:TG} {tt:TT} {te:TE} {ow:List Nat} {pos pos2:Pos} {E:Value->Shared->Prop}
theorem zbW {H2:Hp} {it:Addr} {fp:List Addr} {tn:Nat->Heap->Prop} {J:It} {Q:VK} {RR:Value->Addr->Result->Shared->Prop}
  (hc:X.calm = true) (B:yQ X.env sc fr) (go:zcS g ow) (how:(ow.all fun i=>caps[i]? == some none) = true) (hcap:vZ X.N Nc caps X.env sc fr = true) (hlen:caps.length = Nc.length)
  (hb:∀ (pins:List (Addr × Obj)) (fp:List Addr) (s:Shared) (H:Hp) (C:Addr),PG (zN X pins sc fr Nc fp s H C) tg g/\PIf (zN X pins sc fr Nc fp s H C) ifs tt/\PE (zN X pins sc fr Nc fp s H C) elt te)
  (I2:Inv X pins σ H2 s) (T:za3 X.prog X.w X.K tg J fp it tn) (st2:tn 0 s.heap) (f2:∀ b ∈ fp,vk X pins H2 b) (h:∀ D,H2 D = none->LCr J caps g tt te σ H2 Q D)
  (fin:∀ (D C:Addr) (σ':St) (H':Hp) (s':Shared),Inv (zN X pins sc fr Nc fp s H2 C) [] σ' H' s'->Q (.ref D) H'->RR (.ref D) C (.ok .next) s') :
  wpAny (model X.prog X.w) X.A (newList []) (fun acc s₃=>wpAny (model X.prog X.w) X.A (newFunctionEnv sc X.env.globals (clB X.env fr) [] X.env.qual none .none (some X.env)) (fun cenv s₄=>
   codeAny (model X.prog X.w) X.A (.compStart (.ListComp elt [⟨tg,iter,ifs,0⟩] sc pos) 0 (.ref it) acc { cenv with scope:=relabel sc X.env }) (RR acc cenv.locals) s₄) E s₃) E s:=by
 have hcell:∀ y ∈ sc.names,y.2 ≠ .cell:=fun y hy=>by
  have h3:=List.all_eq_true.mp B.names _ hy
  simp only [Bool.and_eq_true,bne_iff_ne,ne_eq] at h3
  exact h3.1.1
 refine wpAny_newObj_type (wpAny_newFunctionEnv hcell (by intro y hy; simp at hy) (fun h₁ hns₁ hsb₁=>?_) B.kind)
 dsimp only at hns₁ hsb₁ |-
 generalize hH2:s.heap.push { cls:=.type "list",dict:=none,data:=.seq ([]:List Value).toArray } = H3 at hns₁ hsb₁ |-
 have hCs:H3.objs.size = s.heap.objs.size + 1:=by rw [<- hH2,Heap.size_push]
 have hDC:s.heap.objs.size ≠ H3.objs.size:=by rw [hCs]; exact Nat.ne_of_lt (Nat.lt_succ_self _)
 have hC:s.heap.objs.size<=H3.objs.size:=by rw [hCs]; exact Nat.le_succ _
 have old:∀ b o,s.heap.get? b = some o->h₁.get? b = some o:=fun b o e=>
  hsb₁.extBut b o (Nat.ne_of_lt (Nat.lt_of_lt_of_le (Heap.lt_size e) hC)) (Heap.get?_push_of_some _ (hH2 ▸ Heap.get?_push_of_some _ e))
 have hD:h₁.get? s.heap.objs.size = some { cls:=.type "list",data:=.seq ([]:List Value).toArray }:=hsb₁.extBut _ _ hDC (Heap.get?_push_of_some _ (hH2 ▸ Heap.get?_push_size _ rfl))
 have ho:∀ b ∈ fp,∃ o,s.heap.get? b = some o:=fun b hb'=>let ⟨o,e,_⟩:=T.obj 0 _ st2 b hb'; ⟨o,e⟩
 have I4:∀ t',Inv (zN X pins sc fr Nc fp s H2 H3.objs.size) [] (yX caps σ) (upd H2 s.heap.objs.size (.lst [])) { s with heap:=h₁,toks:=t' }:=fun t'=>
  zcP I2 B f2 ho hC (Nat.le_refl _) hDC old hD hns₁ hcap hlen
 have ok:=(I4 0).ok
 obtain ⟨hbg,hbt,hbe⟩:=hb pins fp s H2 H3.objs.size
 obtain ⟨W,⟨m0,w0⟩,turn⟩:=h s.heap.objs.size (I2.hok.fresh (Nat.le_refl _))
 have stat:∀ {H':Hp},(∀ b ∈ fp,H' b = none)->∀ b ∈ fp,vk (zN X pins sc fr Nc fp s H2 H3.objs.size) [] H' b:=fun hn b hb'=>
  ⟨hn b hb',(ok.exf b hb').1,ok.exfs b hb',.inl hb',(ok.exf b hb').2,fun p hp=>(f2 b hb').2.2.2.2.2 p (by simpa using hp)⟩
 have hfp0:∀ b ∈ fp,upd H2 s.heap.objs.size (.lst []) b = none:=fun b hb'=>by
  obtain ⟨o,e⟩:=ho b hb'
  rw [zi (Nat.ne_of_lt (Heap.lt_size e))]
  exact (f2 b hb').1
 have loop:∀ s₃:Shared,s₃ = { s with heap:=h₁,toks:=s.toks + ([]:List (Str × Value)).length }->
   codeAny (model X.prog X.w) X.A (.compLoop (.ListComp elt [⟨tg,iter,ifs,0⟩] sc pos) 0 (.ref it) (.ref s.heap.objs.size) (compEnvC sc (clB X.env fr) H3.objs.size X.env)) (RR (.ref s.heap.objs.size) H3.objs.size) s₃:=by
  rintro s₃ rfl
  refine zaZ (fun n s'=>∃ i σ' H' ys,Inv (zN X pins sc fr Nc fp s H2 H3.objs.size) [] σ' H' s'/\tn i s'.heap/\(∀ b ∈ fp,H' b = none)/\W i n ys H'/\
   (∀ (k:Nat) (v:V),(yX caps σ)[k]? = some (some v)->σ'[k]? = some (some v))) ?_ m0
   ⟨0,_,_,[],I4 _,T.keep _ _ _ st2 (fun b _ o e=>old b o e),hfp0,w0,fun _ _ e=>e⟩
  rintro n s3 ⟨i,σ3,H4,ys,I3,st3,fr3,w3,wk3⟩
  have I3':Inv (zN X pins sc fr Nc fp s H2 H3.objs.size) [] (yX caps σ) H4 s3:=I3.weak (by rw [I3.len]; exact (I4 0).len) wk3
  rcases turn i n ys H4 w3 with ⟨stop,qn⟩ | ⟨gg,step⟩
  ·refine thn (T.done (zN X pins sc fr Nc fp s H2 H3.objs.size) rfl rfl rfl hc i [] s3 _ H4 (fun _ _=>False) I3' (stat fr3) st3 stop) fun r s4 ⟨hr,I4'⟩=>?_
   subst hr
   exact fin _ _ _ _ _ I4' qn
  ·refine thn (T.item (zN X pins sc fr Nc fp s H2 H3.objs.size) rfl rfl rfl hc i [] s3 _ H4 (fun _ _=>False) I3' (stat fr3) st3 gg) fun r s4 ⟨u,hr,h4⟩=>?_
   subst hr
   refine thn h4 fun _ s5 ⟨x,H5,I5,r5,y5,st5,fr5⟩=>?_
   have I5':=I5.pinned (stat fr5) (T.obj _ _ st5)
   refine thn (hbg _ s5 _ H5 x u _ I5' r5 (go _ _ _ _ (step x H5 y5))) fun _ s6 ⟨σ6,H6,I6,q6,l6,k6⟩=>?_
   have wk6:∀ (k:Nat) (v:V),(yX caps σ)[k]? = some (some v)->σ6[k]? = some (some v):=fun k v e=>by
    rw [k6 k fun hk=>?_]
    ·exact e
    ·have h1:=List.all_eq_true.mp how k hk
     have h2:caps[k]? = some none:=by simpa using h1
     unfold yX at e
     rw [List.getElem?_map,h2] at e
     cases e
   refine thn (hbt _ s6 σ6 H6 _ I6 q6) fun ok s7 ⟨H7,I7,q7⟩=>?_
   have again:∀ {H8:Hp} {s8:Shared} {ys':List V},Inv (zN X pins sc fr Nc fp s H2 H3.objs.size) ([] ++ u7 fp s5.heap) σ6 H8 s8->(∃ m',m' < n/\W (i + 1) m' ys' H8)->
     ∃ m,m < n/\∃ i σ' H' ys,Inv (zN X pins sc fr Nc fp s H2 H3.objs.size) [] σ' H' s8/\tn i s8.heap/\(∀ b ∈ fp,H' b = none)/\W i m ys H'/\(∀ (k:Nat) (v:V),(yX caps σ)[k]? = some (some v)->σ'[k]? = some (some v)):=fun {H8 s8 ys'} I8 ⟨m',hm,w8⟩=>by
    refine ⟨m',hm,i + 1,σ6,H8,ys',I8.unpinned,T.keep _ _ _ st5 fun b hb' o e=>(I8.pin (b,o) (List.mem_append_right _ (List.mem_append_right _ (xy hb' e)))).1,fun b hb'=>?_,w8,wk6⟩
    obtain ⟨o,e,d⟩:=T.obj _ _ st5 b hb'
    exact (I8.pin (b,o) (List.mem_append_right _ (List.mem_append_right _ (xy hb' e)))).2.1
   cases ok with
   | false=>
    rw [if_neg Bool.false_ne_true]
    exact again I7 (q7.2 rfl)
   | true=>
    rw [if_pos rfl]
    refine thn (hbe _ s7 σ6 H7 _ I7 (q7.1 rfl)) fun uv s8 ⟨v,H8,I8,r8,hD8,hz,q8⟩=>?_
    refine thn (zG (X:=zN X pins sc fr Nc fp s H2 H3.objs.size) _ s8 σ6 H8 (.ref s.heap.objs.size) [v] _ [uv] (fun _ H'=>H' = upd H8 s.heap.objs.size (.lst (ys ++ [v]))) I8 rfl (.cons r8 .nil) ⟨_,ys,v,rfl,rfl,hD8,hz,rfl⟩) fun _ s9 ⟨_,H9,I9,_,e9⟩=>?_
    subst e9
    exact again I9 q8
 exact codeAny_compStart_list (loop _ rfl) (T.self _ 0 _ _ _ (T.keep _ _ _ st2 (fun b _ o e=>old b o e)) (loop _ rfl))
theorem yQ.loc {env:Env} (B:yQ env sc fr):∀ x ∈ sc.names,x.2 = .local->sc.names.lookup x.1 = some .local:=fun y hy e=>by
 have h3:=List.all_eq_true.mp B.names _ hy
 simp only [Bool.and_eq_true,Bool.or_eq_true,bne_iff_ne,ne_eq,beq_iff_eq] at h3
 rcases h3.2 with z | z
 ·exact absurd e z
 ·exact z
theorem xI {wi:TI} (fr Nc:List Str) (caps:List (Option Nat)) (hc:X.calm = true) (B:yQ X.env sc fr) (hi:PI X tg iter wi) (go:zcS g ow) (how:(ow.all fun i=>caps[i]? == some none) = true)
  (hcap:vZ X.N Nc caps X.env sc fr = true) (hlen:caps.length = Nc.length)
  (hb:∀ (pins:List (Addr × Obj)) (fp:List Addr) (s:Shared) (H:Hp) (C:Addr),PG (zN X pins sc fr Nc fp s H C) tg g/\PIf (zN X pins sc fr Nc fp s H C) ifs tt/\PE (zN X pins sc fr Nc fp s H C) elt te)
  (hs:∀ x,foldedSetIterable iter X.env x = pure x:=by intro _; rfl):PE X (.ListComp elt [⟨tg,iter,ifs,0⟩] sc pos) (tLC wi caps g tt te):=by
 refine ⟨?_⟩
 intro pins s σ H Q I h
 rw [eval_ListComp]
 refine wpAny_comprehension_free (use:=none) rfl hs B.clos B.kind B.loc (thn (hi pins s σ H _ I h) fun v s1 h1=>thn h1 fun itv s2 h2=>?_)
 obtain ⟨it,fp,tn,J,H2,e,I2,T,st2,f2,q⟩:=h2
 subst e
 refine zbW (RR:=fun acc C=>compPost (model X.prog X.w) X.A X.xe none (EP X pins σ Q) acc C) hc B go how hcap hlen hb I2 T st2 f2 q ?_
 intro D C σ' H' s' J' qq
 obtain ⟨m,hn,_⟩:=J'.loc
 exact ⟨m,hn,fun h' hs'=>⟨.ref D,H',zah I2 J' (jg I2 f2 J') hs',rfl,qq⟩⟩
theorem jQ {wi:TI} {i:Nat} {x:Str} {pos':Pos} (fr Nc:List Str) (caps:List (Option Nat)) (hN:X.N.Nodup) (hix:X.N[i]? = some x) (hx:Loc X.env.scope x) (hc:X.calm = true) (B:yQ X.env sc fr) (hi:PI X tg iter wi) (go:zcS g ow) (how:(ow.all fun i=>caps[i]? == some none) = true)
  (hcap:vZ X.N Nc caps X.env sc fr = true) (hlen:caps.length = Nc.length)
  (hb:∀ (pins:List (Addr × Obj)) (fp:List Addr) (s:Shared) (H:Hp) (C:Addr),PG (zN X pins sc fr Nc fp s H C) tg g/\PIf (zN X pins sc fr Nc fp s H C) ifs tt/\PE (zN X pins sc fr Nc fp s H C) elt te)
  (hsw:swapsWith (.ListComp elt [⟨tg,iter,ifs,0⟩] sc pos) (some (.Name x pos')) pos2.line X.env = pure true:=by rfl)
  (hs:∀ x,foldedSetIterable iter X.env x = pure x:=by intro _; rfl) (hf:X.fn x = true\/X.env.scope.names.lookup x = some .local:=by first | exact .inl rfl | exact .inr rfl | assumption) :
  PS X (.Assign [.Name x pos'] (.ListComp elt [⟨tg,iter,ifs,0⟩] sc pos) pos2) (zhO (tLC wi caps g tt te) (yg i)):=by
 refine ⟨?_⟩
 intro pins s σ H D0 I h
 rw [exec_Assign_Name_used _ _ _ _ hsw]
 refine wpAny_bind (wpAny_standAt (wpAny_bind ?_))
 show wpAny _ X.A (do let _ <- comprehension (.ListComp elt [⟨tg,iter,ifs,0⟩] sc pos) sc X.env _ (newList []) false (eval iter X.env) (some (assign (.Name x pos') X.env))) _ _ s
 refine wpAny_bind (wpAny_mono (wpAny_comprehension_free (use:=some (assign (.Name x pos') X.env)) (Q:=fun _ s'=>SP X pins D0 .next s') rfl hs B.clos B.kind B.loc
  (thn (hi pins s σ H _ I h) fun v s1 h1=>thn h1 fun itv s2 h2=>?_)) (fun _ s' hq=>wpAny_pure (wpAny_pure hq)) fun _ _ e=>e)
 obtain ⟨it,fp,tn,J,H2,e,I2,T,st2,f2,q⟩:=h2
 subst e
 refine zbW (Q:=fun v H1=>yg i v σ H1 D0.nx) (RR:=fun acc C=>compPost (model X.prog X.w) X.A X.xe (some (assign (.Name x pos') X.env)) (fun _ s'=>SP X pins D0 .next s') acc C) hc B go how hcap hlen hb I2 T st2 f2 q ?_
 intro D C σ' H' s' J' qq
 have I':=jg I2 f2 J'
 obtain ⟨m,hn,_⟩:=J'.loc
 have hC:s2.heap.objs.size<=C:=J'.ok.above
 show wpAny _ X.A (assign (.Name x pos') X.env (.ref D)) _ _ s'
 refine wpAny_assign_Name (qA (v:=.ref D) I' hN hix hx rfl (fun s'' I'' ⟨a,sb,ha⟩=>?_) hf)
 have haC:C ≠ a:=by
  rintro rfl
  rcases ha with z | z
  ·have:=I2.lt
   rw [<- z] at this
   exact absurd (Nat.lt_of_lt_of_le this hC) (Nat.lt_irrefl _)
  ·obtain ⟨v,hv⟩:=I2.cell x C z
   exact absurd (Nat.lt_of_lt_of_le hv.lt hC) (Nat.lt_irrefl _)
 have hCH:H' C = none:=J'.free
 refine ⟨m,hn.sameBut sb haC,fun h' hs'=>⟨_,H',?_,qq⟩⟩
 refine I''.turned (it:=C) (t':=s''.toks) (fun b o hb e=>(hs'.2 b hb).trans e) hCH ?_ (.inr (Nat.le_trans I2.sz hC)) (fun x c h z=>?_) fun p hp z=>?_
 ·intro z
  have:=I2.lt
  rw [<- z] at this
  exact absurd (Nat.lt_of_lt_of_le this hC) (Nat.lt_irrefl _)
 ·obtain ⟨v,hv⟩:=I2.cell x c h
  have:=hv.lt
  rw [z] at this
  exact absurd (Nat.lt_of_lt_of_le this hC) (Nat.lt_irrefl _)
 ·have:=I2.pin_lt hp
  rw [z] at this
  exact absurd (Nat.lt_of_lt_of_le this hC) (Nat.lt_irrefl _)
end
def Its (z:Str):It:=⟨fun i _=>i < z.cps.size,fun i H x H'=>H' = H/\∃ c,z.cps[i]? = some c/\x = .str ⟨#[c]⟩,fun i _=>z.cps.size<=i⟩
theorem zeH {P:Program} {w:World} {K:Frag} {tg:Expr} (it:Addr) (z:Str) (t:Tok):za3 P w K tg (Its z) [it] it (fun i h=>h.IsStrIter it (strIterType z) z t i) where
 mem:=by simp
 obj:=fun i h st b hb=>by
  have e:b = it:=by simpa using hb
  subst e
  obtain ⟨o,e,_,d⟩:=st
  exact ⟨o,e,fun v q=>by rw [d] at q; cases q⟩
 keep:=fun i h h' st k=>by
  obtain ⟨o,e,r⟩:=st
  exact ⟨o,k it (by simp) o e,r⟩
 item:=by
  intro X hP hw hK hc i pins s σ H E I hf st hg
  subst hP hw hK
  obtain ⟨f0,f1,f2,f3,f4,f5⟩:=hf it (by simp)
  have hi:i < z.cps.size:=hg
  have hx:z.cps[i]? = some z.cps[i]:=by simp [hi]
  have fin:∀ h',h'.IsStrIter it (strIterType z) z t (i + 1)->Heap.SameBut it s.heap h'->
    ∃ u,some (Value.str ⟨#[z.cps[i]]⟩ s.toks) = some u/\wpAny (model X.prog X.w) X.A (letOwnedTupleGo tg (.ref it) u) (fun _ s2=>∃ x H',Inv X pins σ H' s2/\zO x u/\(Its z).yld i H x H'/\s2.heap.IsStrIter it (strIterType z) z t (i + 1)/\∀ b ∈ [it],H' b = none) E { s with heap:=h',toks:=s.toks + 1 }:=fun h' hit hs=>by
   have I1:Inv X pins σ H { s with heap:=h',toks:=s.toks + 1 }:=I.turned (fun b o hb e=>(hs.2 b hb).trans e) f0 f1 f3 f4 f5
   obtain ⟨o,e1,e2,e3⟩:=id hit
   refine ⟨_,rfl,zdr (s:={ s with heap:=h',toks:=s.toks + 1 }) e1 e2 e3 ?_ ⟨.str ⟨#[z.cps[i]]⟩,H,I1,⟨_,rfl⟩,⟨rfl,_,hx,rfl⟩,hit,fun b hb=>(hf b hb).1⟩⟩
   unfold strIterType
   split <;> decide
  cases ha:z.cps.all (· < 128)
  ·have e:strIterType z = "str_iterator":=by simp [strIterType,ha]
   rw [e] at st
   exact wpAny_pyNext_wide_item st hx fun h' a b=>fin h' (e.symm ▸ a) b
  ·have e:strIterType z = "str_ascii_iterator":=by simp [strIterType,ha]
   rw [e] at st
   exact wpAny_pyNext_ascii_item st hx fun h' a b=>fin h' (e.symm ▸ a) b
 done:=by
  intro X hP hw hK hc i pins s σ H E I hf st hg
  subst hP hw hK
  obtain ⟨f0,f1,f2,f3,f4,f5⟩:=hf it (by simp)
  have hi:z.cps.size<=i:=hg
  have hx:z.cps[i]? = none:=by simp [hi]
  have fin:∀ h',Heap.ExtBut it s.heap h'->(none:Option Value) = none/\Inv X pins σ H { s with heap:=h' }:=fun h' eb=>⟨rfl,I.turned (t':=s.toks) (fun b o hb e=>eb b o hb e) f0 f1 f3 f4 f5⟩
  cases ha:z.cps.all (· < 128)
  ·have e:strIterType z = "str_iterator":=by simp [strIterType,ha]
   rw [e] at st
   exact wpAny_pyNext_wide_end (I.ok.hd hc) st hx fin
  ·have e:strIterType z = "str_ascii_iterator":=by simp [strIterType,ha]
   rw [e] at st
   exact wpAny_pyNext_ascii_end (I.ok.hd hc) st hx fin
 self:=fun A i s Q E st h=>by
  cases ha:z.cps.all (· < 128)
  ·have e:strIterType z = "str_iterator":=by simp [strIterType,ha]
   rw [e] at st
   exact wpAny_pyIter_striter_wide st h
  ·have e:strIterType z = "str_ascii_iterator":=by simp [strIterType,ha]
   rw [e] at st
   exact wpAny_pyIter_striter_ascii st h
section
variable {X:Cx} {tg:Expr}
def zkr (tl:TE):TI:=fun σ H R=>tl σ H fun x H1=>∃ z,x = .str z/\R (Its z) H1
theorem zh9 {l:Expr} {tl:TE} (hl:PE X l tl):PI X tg l (zkr tl):=by
 refine ⟨?_⟩
 intro pins s σ H R I h
 refine thn (hl pins s σ H _ I h) fun v s1 ⟨x,H1,I1,r1,q1⟩=>?_
 obtain ⟨z,e,q⟩:=q1
 subst e
 obtain ⟨t,rfl⟩:=r1
 refine wpAny_pyIter_strU ?_
 refine ⟨s1.heap.objs.size,[s1.heap.objs.size],_,_,H1,rfl,I1.kept (t':=s1.toks) fun b o e=>Heap.get?_push_of_some _ e,zeH _ z t,⟨_,Heap.get?_push_size _ rfl,rfl,rfl⟩,fun b hb=>?_,q⟩
 have e:b = s1.heap.objs.size:=by simpa using hb
 subst e
 exact I1.fpOk (Nat.le_refl _) (I1.hok.fresh (Nat.le_refl _))
def zj2:V->Option Int->Option Int->Hp->VK->Prop:=fun x lo hi H Q=>∃ z,x = .str z/\z.length<=sizeLine/\Q (.str (Txt.slice z lo hi)) H
theorem zhT:SlR X zj2:=by
 intro pins s σ H x v vl vu lo hi sl Q I rx hs pl pu h
 obtain ⟨z,rfl,hz,q⟩:=h
 obtain ⟨t,rfl⟩:=rx
 refine ⟨"str",_,F.slot_str_getitem.lookup,typeIs_str _ _ _,?_⟩
 have fin:∀ t' k,EP X pins σ Q (.str (Txt.slice z lo hi) t') { s with toks:=k }:=fun t' k=>⟨.str (Txt.slice z lo hi),H,I.tok k,⟨t',rfl⟩,q⟩
 cases pl with
 | none=>
  cases pu with
  | none=>exact wpAny_getItem_str_slice (l:=none) (u:=none) (st:=none) hs rfl (post_val_or_str ⟨Nat.le_trans (Txt.slice_le z _ _) hz,fin⟩)
  | int j tj=>exact wpAny_getItem_str_slice (l:=none) (u:=some (j,tj)) (st:=none) hs rfl (post_val_or_str ⟨Nat.le_trans (Txt.slice_le z _ _) hz,fin⟩)
 | int i ti=>
  cases pu with
  | none=>exact wpAny_getItem_str_slice (l:=some (i,ti)) (u:=none) (st:=none) hs rfl (post_val_or_str ⟨Nat.le_trans (Txt.slice_le z _ _) hz,fin⟩)
  | int j tj=>exact wpAny_getItem_str_slice (l:=some (i,ti)) (u:=some (j,tj)) (st:=none) hs rfl (post_val_or_str ⟨Nat.le_trans (Txt.slice_le z _ _) hz,fin⟩)
theorem zeE (hc:X.calm = true):xk X (.builtin "all") (fun xs H Q=>∃ (p:Addr) (bs:List Bool),xs = [.ref p]/\SqL X.K H p (bs.map V.bl)/\Q (.bl (bs.all id)) H):=by
 intro pins s σ H xs us Q I r h
 obtain ⟨p,bs,rfl,hS,q⟩:=h
 obtain ⟨u,rfl,ru⟩:=wO r
 cases ru
 obtain ⟨its,rv,hp,hz⟩:=I.list hS
 have hlen:its.length = bs.length:=by rw [<- rv.length,List.length_map]
 have hne:p ≠ s.heap.objs.size:=Nat.ne_of_lt (by obtain ⟨_,e,_⟩:=hp.isList; exact Heap.lt_size e)
 refine call_all_walk (wpAny_pyIter_list hp.isList ?_)
 refine ⟨s.heap.objs.size,_,_,_,_,_,fun i=>bs.getD i false,rfl,Walks.list (A:=X.A.in1) (I.ok.hd hc) s.heap.objs.size p hne its.toArray,⟨⟨_,Heap.get?_push_size _ rfl,rfl,rfl⟩,hp.isList.push _⟩,?_,fun h' tk k=>?_⟩
 ·intro i v s' Q' E' hP hQ
  have hv:its[i]? = some v:=by simpa using hP
  have hi:i < bs.length:=by rw [<- hlen]; exact (List.getElem?_eq_some_iff.mp hv).1
  obtain ⟨u',e1,e2⟩:=rv.get (i:=i) (x:=V.bl bs[i]) (by rw [List.getElem?_map,List.getElem?_eq_getElem hi]; rfl)
  rw [hv] at e1
  cases e1
  cases e2
  refine wpAny_truthy_bool ?_
  have:bs.getD i false = bs[i]:=by rw [List.getD_eq_getElem?_getD,List.getElem?_eq_getElem hi]; rfl
  rw [<- this]
  exact hQ
 ·have e:((List.range its.toArray.size).all fun i=>bs.getD i false) = bs.all id:=by
   rw [List.size_toArray,hlen,Bool.eq_iff_iff,List.all_eq_true,List.all_eq_true]
   constructor
   ·intro hh b hb
    obtain ⟨i,hi,rfl⟩:=List.getElem_of_mem hb
    have:=hh i (List.mem_range.mpr hi)
    rw [List.getD_eq_getElem?_getD,List.getElem?_eq_getElem hi] at this
    exact this
   ·intro hh i hi
    have hi':=List.mem_range.mp hi
    rw [List.getD_eq_getElem?_getD,List.getElem?_eq_getElem hi']
    exact hh _ (List.getElem_mem hi')
  rw [e]
  exact ⟨.bl (bs.all id),H,I.kept (h':=h') (t':=tk) (fun b o q=>k b o (fun hm=>by
   have e:b = s.heap.objs.size:=by simpa using hm
   exact absurd (Heap.lt_size q) (by rw [e]; exact Nat.lt_irrefl _)) (Heap.get?_push_of_some _ q)),rfl,q⟩
theorem zb1:xk X (.builtin "isinstance") (fun xs H Q=>∃ x T t b,xs = [x,.ty T]/\vL X.K H x t/\kitOne X.K t (.type T) = some b/\Q (.bl b) H):=by
 intro pins s σ H xs us Q I r h
 obtain ⟨x,T,t,b,rfl,ty,e,q⟩:=h
 obtain ⟨u,w',rfl,ru,rw'⟩:=zcW r
 cases rw'
 exact zer I ru ty e fun tk=>⟨.bl b,H,I.tok tk,rfl,q⟩
end
def wR:Expr->Bool
 | .Starred ..=>true
 | _=>false
theorem yL {e:Expr} {es:List Expr} {env:Env} (h:wR e = false):starEach (e :: es) env = (false,eval e env) :: starEach es env:=by
 cases e <;> first | rfl | cases h
theorem xB {env:Env} {pos:Pos}:∀ {es:List Expr},es.any wR = false->(backTo pos (starEach es env)).any (·.1) = false
 | [],_=>rfl
 | e :: es,h=>by
  rw [List.any_cons,Bool.or_eq_false_iff] at h
  rw [yL h.1]
  show (false || (backTo pos (starEach es env)).any (·.1)) = false
  rw [xB h.2]
  rfl
section
variable {X:Cx} {CX:CXT} {k:Nat} {f C:Addr} {fd:FuncData} {ps:List Str} {sp:Sp} {dvs:List V} {ds:List Value} {E:XK} {x m:Str} {p pos apos:Pos} {e o:Expr} {es:List Expr} {te ta:TE} {t:TA} {id T:String} {r:List V->Hp->VK->Prop}
theorem ac (ha:PE X e te) (hr:PA X es t) (h:wR e = false:=by rfl):PA X (e :: es) (zhr te t):=zgO ha hr (yL h)
theorem cB (hc:xk X (.builtin id) r) (hm:X.mg x = none) (hv:bootBuiltins x = some (.builtin id)) (ha:PA X (e :: es) t) (hg:Gl X x:=by rfl) (hn:x ≠ "__name__":=by decide) (hdb:(x == ("__debug__" : Str)) = false:=by decide)
  (h1:wR e = false:=by rfl) (h2:es.any wR = false:=by rfl):PE X (.Call (.Name x p) (e :: es) [] pos) (tCB r t):=zfb hc hg hm hv ha hn hdb (yL h1) (xB h2)
theorem cTy (hc:xk X (.type T) r) (hm:X.mg x = none) (hv:bootBuiltins x = some (.type T)) (ha:PA X (e :: es) t) (hg:Gl X x:=by rfl) (hn:x ≠ "__name__":=by decide) (hdb:(x == ("__debug__" : Str)) = false:=by decide)
  (h1:wR e = false:=by rfl) (h2:es.any wR = false:=by rfl):PE X (.Call (.Name x p) (e :: es) [] pos) (tCB r t):=zd2 hc hg hm hv ha hn hdb (yL h1) (xB h2)
structure zl (P:Program) (w:World) (K:Frag) (mg:Str->Option Value) (base:Heap) (k:Nat) (x:Str) (f:Addr) (fd:FuncData) (ps:List Str) (sp:Sp):Prop where
 ok:zC P w K mg base CX0 k f fd ps sp
 mg:mg x = some (.ref f)
 kp:keepIn K (.ref f) = true
 bd:zS K fd ps []
theorem cF (c:zl X.prog X.w X.K X.mg X.base k x f fd ps sp) (hr:ya k X.A) (ha:PA X (e :: es) t) (hg:Gl X x:=by rfl) (hdb:(x == ("__debug__" : Str)) = false:=by decide)
  (h1:wR e = false:=by rfl) (h2:es.any wR = false:=by rfl):PE X (.Call (.Name x p) (e :: es) [] pos) (zc0 sp [] E0 t):=
 zdh c.ok hr hg c.mg c.kp c.bd .nil y7 ha hdb (yL h1) (xB h2)
end
end L2
namespace L2
open PySem PyProof.Rows
theorem jq (K:Frag):kitOne K (.type "NoneType") (.type "str") = some false:=by kernel_rfl
theorem zcB (K:Frag):kitOne K (.type "int") (.type "str") = some false:=by kernel_rfl
theorem zbL (K:Frag):kitOne K (.type "bool") (.type "str") = some false:=by kernel_rfl
theorem zaS (K:Frag):kitOne K (.type "bool") (.type "bool") = some true:=by kernel_rfl
theorem zcA (K:Frag):kitOne K (.type "str") (.type "str") = some true:=by kernel_rfl
theorem zbJ (K:Frag):kitOne K (.type "list") (.type "str") = some false:=by kernel_rfl
theorem zaR (K:Frag):kitOne K (.type "tuple") (.type "str") = some false:=by kernel_rfl
theorem zbK (K:Frag):kitOne K (.type "dict") (.type "str") = some false:=by kernel_rfl
end L2
namespace L2
open PySem PySem.Spec PyProof.Rows
inductive Dt where
 | non | bl (b:Bool) | int (i:Int) | str (z:Str) | tup (ds:List Dt) | lst (ds:List Dt)
def jp:V->Dt->Prop
 | .non,.non=>True
 | .bl a,.bl b=>a = b
 | .int a,.int b=>a = b
 | .str a,.str b=>a = b
 | _,_=>False
def zF (K:Frag) (ok:Addr->Prop) (H:Hp):Nat->V->Dt->Prop
 | 0,x,d=>jp x d
 | n + 1,x,d=>jp x d\/(∃ a xs ds,x = .ref a/\d = .tup ds/\SqT K H a xs/\Paired (zF K ok H n) xs ds)\/(∃ a xs ds,x = .ref a/\d = .lst ds/\ok a/\H a = some (.lst xs)/\Paired (zF K ok H n) xs ds)
section
variable {K:Frag} {ok ok':Addr->Prop} {H H':Hp}
theorem zF.flat {n:Nat} {x:V} {d:Dt} (h:jp x d):zF K ok H n x d:=by
 cases n with
 | zero=>exact h
 | succ n=>exact .inl h
theorem zF.int {n:Nat} {i:Int}:zF K ok H n (.int i) (.int i):=.flat rfl
theorem zF.str {n:Nat} {z:Str}:zF K ok H n (.str z) (.str z):=.flat rfl
theorem zF.tup {n:Nat} {a:Addr} {xs:List V} {ds:List Dt} (h:SqT K H a xs) (r:Paired (zF K ok H n) xs ds):zF K ok H (n + 1) (.ref a) (.tup ds):=.inr (.inl ⟨a,xs,ds,rfl,rfl,h,r⟩)
theorem zF.lst {n:Nat} {a:Addr} {xs:List V} {ds:List Dt} (o:ok a) (h:H a = some (.lst xs)) (r:Paired (zF K ok H n) xs ds):zF K ok H (n + 1) (.ref a) (.lst ds):=.inr (.inr ⟨a,xs,ds,rfl,rfl,o,h,r⟩)
theorem zF.frame (hT:∀ a xs,SqT K H a xs->SqT K H' a xs) (hL:∀ a xs,ok a->H a = some (.lst xs)->ok' a/\H' a = some (.lst xs)):∀ {n:Nat} {x:V} {d:Dt},zF K ok H n x d->zF K ok' H' n x d
 | 0,_,_,h=>h
 | n + 1,x,d,h=>by
  rcases h with h | ⟨a,xs,ds,e1,e2,h,r⟩ | ⟨a,xs,ds,e1,e2,o,h,r⟩
  ·exact .inl h
  ·exact .inr (.inl ⟨a,xs,ds,e1,e2,hT a xs h,Paired.imp' (fun _ _ z=>zF.frame hT hL z) r⟩)
  ·exact .inr (.inr ⟨a,xs,ds,e1,e2,(hL a xs o h).1,(hL a xs o h).2,Paired.imp' (fun _ _ z=>zF.frame hT hL z) r⟩)
theorem zm.sqT {a:Addr} {xs:List V} (e:zm H H') (h:SqT K H a xs):SqT K H' a xs:=by
 rcases h with (h | ⟨o,h⟩) | h
 ·exact .inl (.inl (e _ _ h))
 ·exact .inl (.inr ⟨o,e _ _ h⟩)
 ·exact .inr h
theorem zF.same {n:Nat} {x:V} {d:Dt} (e:zm H H') (h:zF K ok H n x d):zF K ok H' n x d:=h.frame (fun _ _ z=>e.sqT z) fun _ _ o z=>⟨o,e _ _ z⟩
theorem Paired.get {α β : Type} {F : α->β->Prop}:∀ {l₁:List α} {l₂:List β} {i:Nat} {a : α},Paired F l₁ l₂->l₁[i]? = some a->∃ b,l₂[i]? = some b/\F a b
 | _,_,_,_,.nil,e=>by simp at e
 | _,_,0,_,.cons r _,e=>by simp at e; subst e; exact ⟨_,rfl,r⟩
 | _,_,i + 1,a,.cons _ t,e=>by
  obtain ⟨b,h1,h2⟩:=Paired.get (i:=i) (a:=a) t (by simpa using e)
  exact ⟨b,by simpa using h1,h2⟩
end
section
variable {X:Cx} {pins:List (Addr × Obj)} {σ : St} {H:Hp} {s:Shared} {ok ok':Addr->Prop}
theorem zae {A:Around} {x y:V} {d:Dt} {u v:Value} (hx:jp x d) (hy:jp y d) (ru:zO x u) (rv:zO y v):SeqAt.EqAt A s u v true:=by
 cases d with
 | non=>
  cases x <;> try exact hx.elim
  cases y <;> try exact hy.elim
  cases ru; cases rv; exact SeqAt.EqAt.same _
 | bl b=>
  cases x <;> try exact hx.elim
  cases y <;> try exact hy.elim
  rename_i a c
  obtain rfl:a = b:=hx
  obtain rfl:c = a:=hy
  cases ru; cases rv; exact SeqAt.EqAt.same _
 | int b=>
  cases x <;> try exact hx.elim
  cases y <;> try exact hy.elim
  rename_i a c
  obtain rfl:a = b:=hx
  obtain rfl:c = a:=hy
  obtain ⟨t,rfl⟩:=ru
  obtain ⟨t',rfl⟩:=rv
  have:=SeqAt.EqAt.int_int (A:=A) (s:=s) c t c t'
  simpa using this
 | str b=>
  cases x <;> try exact hx.elim
  cases y <;> try exact hy.elim
  rename_i a c
  obtain rfl:a = b:=hx
  obtain rfl:c = a:=hy
  obtain ⟨t,rfl⟩:=ru
  obtain ⟨t',rfl⟩:=rv
  have:=SeqAt.EqAt.str_str (A:=A) (s:=s) c t c t'
  simpa using this
 | tup ds=>cases x <;> exact hx.elim
 | lst ds=>cases x <;> exact hx.elim
theorem qd {a:Addr} {d:Dt} (h:jp (.ref a) d):False:=by cases d <;> exact h
theorem uF (n:Nat):((List.range n).all fun _=>true) = true:=by rw [List.all_eq_true]; intro _ _; rfl
theorem vH (I:Inv X pins σ H s):∀ (n:Nat) {A:Around} {x y:V} {d:Dt} {u v:Value},zF X.K ok H n x d->zF X.K ok' H n y d->zO x u->zO y v->A.units + n < cLine->SeqAt.EqAt A s u v true
 | 0,A,x,y,d,u,v,hx,hy,ru,rv,_=>zae hx hy ru rv
 | n + 1,A,x,y,d,u,v,hx,hy,ru,rv,hu=>by
  have hin:A.in1.units + n < cLine:=by show A.units + 1 + n < cLine; omega
  rcases hx with hx | ⟨a,xs,ds,rfl,rfl,hx,r⟩ | ⟨a,xs,ds,rfl,rfl,_,hx,r⟩
  ·rcases hy with hy | ⟨b,ys,es,rfl,rfl,hy,q⟩ | ⟨b,ys,es,rfl,rfl,_,hy,q⟩
   ·exact zae hx hy ru rv
   ·cases x <;> exact hx.elim
   ·cases x <;> exact hx.elim
  ·rcases hy with hy | ⟨b,ys,es,rfl,e2,hy,q⟩ | ⟨b,ys,es,rfl,e2,_,hy,q⟩
   ·cases y <;> exact hy.elim
   ·cases e2
    cases ru; cases rv
    by_cases hab:a = b
    ·subst hab; exact SeqAt.EqAt.same _
    ·obtain ⟨ia,va,pa,_⟩:=I.tuple hx
     obtain ⟨ib,vb,pb,_⟩:=I.tuple hy
     have la:ia.length = ds.length:=by rw [<- va.length,r.length]
     have lb:ib.length = ds.length:=by rw [<- vb.length,q.length]
     have:=SeqAt.RcAt.tuples (A:=A) (s:=s) (e:=fun _=>true) (show s.heap.IsTuple a ia.toArray from pa) (show s.heap.IsTuple b ib.toArray from pb) (by omega) (fun j h1 h2=>by
      have j1:j < ia.length:=by simpa using h1
      have j2:j < ib.length:=by simpa using h2
      have hxl:j < xs.length:=by rw [va.length]; exact j1
      have hyl:j < ys.length:=by rw [vb.length]; exact j2
      obtain ⟨u',e1,e2⟩:=va.get (i:=j) (List.getElem?_eq_getElem hxl)
      obtain ⟨v',e3,e4⟩:=vb.get (i:=j) (List.getElem?_eq_getElem hyl)
      obtain ⟨d1,f1,f2⟩:=Paired.get r (List.getElem?_eq_getElem hxl)
      obtain ⟨d2,f3,f4⟩:=Paired.get q (List.getElem?_eq_getElem hyl)
      rw [f1] at f3
      cases f3
      rw [List.getElem?_eq_getElem j1] at e1
      rw [List.getElem?_eq_getElem j2] at e3
      cases e1; cases e3
      simpa using vH I n f2 f4 e2 e4 hin)
     rw [uF] at this
     have z:(ia.toArray.size == ib.toArray.size) = true:=by simp [la,lb]
     rw [z] at this
     exact SeqAt.EqAt.of_refs hab this
   ·cases e2
  ·rcases hy with hy | ⟨b,ys,es,rfl,e2,hy,q⟩ | ⟨b,ys,es,rfl,e2,_,hy,q⟩
   ·cases y <;> exact hy.elim
   ·cases e2
   ·cases e2
    cases ru; cases rv
    by_cases hab:a = b
    ·subst hab; exact SeqAt.EqAt.same _
    ·obtain ⟨ia,va,pa,_⟩:=I.list (SqL.of hx)
     obtain ⟨ib,vb,pb,_⟩:=I.list (SqL.of hy)
     have la:ia.length = ds.length:=by rw [<- va.length,r.length]
     have lb:ib.length = ds.length:=by rw [<- vb.length,q.length]
     have:=SeqAt.RcAt.lists (A:=A) (s:=s) (e:=fun _=>true) pa.isList pb.isList (by simp [la,lb]) (by omega) (fun j h1 h2=>by
      have j1:j < ia.length:=by simpa using h1
      have j2:j < ib.length:=by simpa using h2
      have hxl:j < xs.length:=by rw [va.length]; exact j1
      have hyl:j < ys.length:=by rw [vb.length]; exact j2
      obtain ⟨u',e1,e2⟩:=va.get (i:=j) (List.getElem?_eq_getElem hxl)
      obtain ⟨v',e3,e4⟩:=vb.get (i:=j) (List.getElem?_eq_getElem hyl)
      obtain ⟨d1,f1,f2⟩:=Paired.get r (List.getElem?_eq_getElem hxl)
      obtain ⟨d2,f3,f4⟩:=Paired.get q (List.getElem?_eq_getElem hyl)
      rw [f1] at f3
      cases f3
      rw [List.getElem?_eq_getElem j1] at e1
      rw [List.getElem?_eq_getElem j2] at e3
      cases e1; cases e3
      simpa using vH I n f2 f4 e2 e4 hin)
     rw [uF] at this
     exact SeqAt.EqAt.of_refs hab this
theorem zdc (I:Inv X pins σ H s) {n:Nat} {A:Around} {a b:Addr} {d:Dt} (hx:zF X.K ok H (n + 1) (.ref a) d) (hy:zF X.K ok' H (n + 1) (.ref b) d) (hu:A.units + n + 1 < cLine) :
  SeqAt.RcAt A s (.ref a) (.ref b) true/\SeqAt.RcNeAt A s (.ref a) (.ref b) false:=by
 have hin:A.in1.units + n < cLine:=by show A.units + 1 + n < cLine; omega
 rcases hx with hx | ⟨a,xs,ds,e0,rfl,hx,r⟩ | ⟨a,xs,ds,e0,rfl,_,hx,r⟩
 ·exact (qd hx).elim
 ·cases e0
  rcases hy with hy | ⟨b,ys,es,e1,e2,hy,q⟩ | ⟨b,ys,es,e1,e2,_,hy,q⟩
  ·exact (qd hy).elim
  ·cases e1; cases e2
   obtain ⟨ia,va,pa,_⟩:=I.tuple hx
   obtain ⟨ib,vb,pb,_⟩:=I.tuple hy
   have la:ia.length = ds.length:=by rw [<- va.length,r.length]
   have lb:ib.length = ds.length:=by rw [<- vb.length,q.length]
   have el:∀ j (h1:j < ia.toArray.size) (h2:j < ib.toArray.size),SeqAt.EqAt A.in1 s ia.toArray[j] ib.toArray[j] true:=fun j h1 h2=>by
    have j1:j < ia.length:=by simpa using h1
    have j2:j < ib.length:=by simpa using h2
    have hxl:j < xs.length:=by rw [va.length]; exact j1
    have hyl:j < ys.length:=by rw [vb.length]; exact j2
    obtain ⟨u',e1,e2⟩:=va.get (i:=j) (List.getElem?_eq_getElem hxl)
    obtain ⟨v',e3,e4⟩:=vb.get (i:=j) (List.getElem?_eq_getElem hyl)
    obtain ⟨d1,f1,f2⟩:=Paired.get r (List.getElem?_eq_getElem hxl)
    obtain ⟨d2,f3,f4⟩:=Paired.get q (List.getElem?_eq_getElem hyl)
    rw [f1] at f3
    cases f3
    rw [List.getElem?_eq_getElem j1] at e1
    rw [List.getElem?_eq_getElem j2] at e3
    cases e1; cases e3
    simpa using vH I n f2 f4 e2 e4 hin
   have z:(ia.toArray.size == ib.toArray.size) = true:=by simp [la,lb]
   have t1:=SeqAt.RcAt.tuples (A:=A) (s:=s) (e:=fun _=>true) (show s.heap.IsTuple a ia.toArray from pa) (show s.heap.IsTuple b ib.toArray from pb) (by omega) el
   have t2:=SeqAt.RcNeAt.tuples (A:=A) (s:=s) (e:=fun _=>true) (show s.heap.IsTuple a ia.toArray from pa) (show s.heap.IsTuple b ib.toArray from pb) (by omega) el
   rw [uF,z] at t1 t2
   exact ⟨t1,t2⟩
  ·cases e1; cases e2
 ·cases e0
  rcases hy with hy | ⟨b,ys,es,e1,e2,hy,q⟩ | ⟨b,ys,es,e1,e2,_,hy,q⟩
  ·exact (qd hy).elim
  ·cases e1; cases e2
  ·cases e1; cases e2
   obtain ⟨ia,va,pa,_⟩:=I.list (SqL.of hx)
   obtain ⟨ib,vb,pb,_⟩:=I.list (SqL.of hy)
   have la:ia.length = ds.length:=by rw [<- va.length,r.length]
   have lb:ib.length = ds.length:=by rw [<- vb.length,q.length]
   have el:∀ j (h1:j < ia.toArray.size) (h2:j < ib.toArray.size),SeqAt.EqAt A.in1 s ia.toArray[j] ib.toArray[j] true:=fun j h1 h2=>by
    have j1:j < ia.length:=by simpa using h1
    have j2:j < ib.length:=by simpa using h2
    have hxl:j < xs.length:=by rw [va.length]; exact j1
    have hyl:j < ys.length:=by rw [vb.length]; exact j2
    obtain ⟨u',e1,e2⟩:=va.get (i:=j) (List.getElem?_eq_getElem hxl)
    obtain ⟨v',e3,e4⟩:=vb.get (i:=j) (List.getElem?_eq_getElem hyl)
    obtain ⟨d1,f1,f2⟩:=Paired.get r (List.getElem?_eq_getElem hxl)
    obtain ⟨d2,f3,f4⟩:=Paired.get q (List.getElem?_eq_getElem hyl)
    rw [f1] at f3
    cases f3
    rw [List.getElem?_eq_getElem j1] at e1
    rw [List.getElem?_eq_getElem j2] at e3
    cases e1; cases e3
    simpa using vH I n f2 f4 e2 e4 hin
   have t1:=SeqAt.RcAt.lists (A:=A) (s:=s) (e:=fun _=>true) pa.isList pb.isList (by simp [la,lb]) (by omega) el
   have t2:=SeqAt.RcNeAt.lists (A:=A) (s:=s) (e:=fun _=>true) pa.isList pb.isList (by simp [la,lb]) (by omega) el
   rw [uF] at t1 t2
   exact ⟨t1,t2⟩
def zdd (K:Frag) (b:Bool):R2:=fun x y H Q=>∃ (a c:Addr) (n:Nat) (d:Dt) (ok ok':Addr->Prop),x = .ref a/\y = .ref c/\n<=20/\zF K ok H (n + 1) x d/\zF K ok' H (n + 1) y d/\Q (.bl b) H
theorem jU (hu:X.A.units + 64 < cLine):OpR X (compareOp .Eq) (zdd X.K true):=by
 intro pins s σ H x y v u Q I rx ry h
 obtain ⟨a,c,n,d,ok,ok',rfl,rfl,hn,hx,hy,q⟩:=h
 cases rx; cases ry
 exact (zdc (A:=X.A) I hx hy (by omega)).1 X.prog X.w X.xe _ ⟨.bl true,H,I,rfl,q⟩
theorem u9 (hu:X.A.units + 64 < cLine):OpR X (compareOp .NotEq) (zdd X.K false):=by
 intro pins s σ H x y v u Q I rx ry h
 obtain ⟨a,c,n,d,ok,ok',rfl,rfl,hn,hx,hy,q⟩:=h
 cases rx; cases ry
 exact (zdc (A:=X.A) I hx hy (by omega)).2 X.prog X.w X.xe _ ⟨.bl false,H,I,rfl,q⟩
end
def Ite (K:Frag) (a:Addr):It:=
 ⟨fun i H=>∃ xs x,SqL K H a xs/\xs[i]? = some x,fun i H x H'=>∃ (p:Addr) (y:V),x = .ref p/\H p = none/\(∀ xs,SqL K H a xs->xs[i]? = some y)/\H' = upd H p (.tup [.int i,y]),fun i H=>∃ xs,SqL K H a xs/\xs.length<=i⟩
theorem zdL {P:Program} {w:World} {K:Frag} {elts:List Expr} {x1:Nat} {tpos:Pos} (a e it:Addr) (hne:e ≠ it) :
  za3 P w K (.Tuple elts x1 tpos) (Ite K a) [e,it] e (fun i h=>(∃ old,IsEnum h e it (i:Int) old)/\h.IsListIter it a i) where
 mem:=by simp
 obj:=fun i h st b hb=>by
  rcases List.mem_cons.mp hb with rfl | hb
  ·obtain ⟨⟨old,he⟩,_⟩:=st
   exact ⟨_,he,fun v q=>by cases q⟩
  ·have e':b = it:=by simpa using hb
   subst e'
   obtain ⟨_,o,ho,_,hd⟩:=st
   exact ⟨o,ho,fun v q=>by rw [hd] at q; cases q⟩
 keep:=fun i h h' st k=>by
  obtain ⟨⟨old,he⟩,o,ho,r⟩:=st
  exact ⟨⟨old,k e (by simp) _ he⟩,o,k it (by simp) o ho,r⟩
 item:=by
  intro X hP hw hK hc i pins s σ H E I hf st hg
  subst hP hw hK
  obtain ⟨f0,f1,f2,f3,f4,f5⟩:=hf e (by simp)
  obtain ⟨g0,g1,g2,g3,g4,g5⟩:=hf it (by simp)
  obtain ⟨⟨old,he⟩,hit⟩:=st
  obtain ⟨xs,x,hS,hx⟩:=hg
  obtain ⟨its,rv,hp,hz⟩:=I.list hS
  obtain ⟨u,hu,ru⟩:=rv.get hx
  refine wpAny_pyNext_enum_item he hit hp.isList (x:=u) (by simpa using hu) hne fun h' he' hit' htup hsz hk=>?_
  have I0:Inv X pins σ H { s with heap:=h',toks:=s.toks + 1 }:=by
   refine I.step (g':=s.gens) (d':=s.drawn) (ch:=[e,it]) (fun b hb=>?_) (fun b o _ _ hc' e1 _=>hk b o (fun z=>hc' (by simp [z])) (fun z=>hc' (by simp [z])) e1) (fun b o _ _ hc' e1 _=>⟨o.slots,hk b o (fun z=>hc' (by simp [z])) (fun z=>hc' (by simp [z])) e1⟩) (fun _ _ _ _ n=>n)
    (fun b o hc' e1=>⟨o,hk b o (fun z=>hc' (by simp [z])) (fun z=>hc' (by simp [z])) e1⟩) (fun _ _ e1=>e1) (fun _ _ _ e1=>e1) (fun b ps e1=>⟨#[],by rw [e1]; simp⟩) (fun m hm=>?_) (fun b u' e1=>?_) I.bare
   ·rcases List.mem_cons.mp hb with rfl | hb
    ·exact ⟨f3,f1,f4,f5⟩
    ·have e':b = it:=by simpa using hb
     subst e'
     exact ⟨g3,g1,g4,g5⟩
   ·obtain ⟨o,es,ep,ho,r⟩:=hm
    exact ⟨o,es,ep,hk _ o (Ne.symm f1) (Ne.symm g1) ho,r⟩
   ·have nit:∀ c v',H c = some v'->c ≠ e/\c ≠ it:=fun c v' q=>⟨fun z=>(by rw [z,f0] at q; cases q),fun z=>(by rw [z,g0] at q; cases q)⟩
    refine (I.hok b u' e1).stay (fun c v' hc' q=>?_) (fun _ q=>q) fun _ _ q=>q
    rcases hc' with z | z
    ·subst z; exact hk c v' (nit c _ e1).1 (nit c _ e1).2 q
    ·exact hk c v' (nit c _ z).1 (nit c _ z).2 q
  have hfr:H s.heap.objs.size = none:=I.hok.fresh (Nat.le_refl _)
  have I1:Inv X pins σ (upd H s.heap.objs.size (.tup [.int i,x])) { s with heap:=h',toks:=s.toks + 1 }:=by
   have hok:HOk X.prog X.w (upd H s.heap.objs.size (.tup [.int i,x])) h':=fun b o q=>by
    by_cases hb:b = s.heap.objs.size
    ·subst hb
     rw [za] at q; cases q
     exact ⟨by show 2<=sizeLine; decide,[.int i s.toks,u],.cons ⟨_,rfl⟩ (.cons ru .nil),⟨_,htup,rfl,_,rfl⟩⟩
    ·rw [zi hb] at q
     exact (I0.hok b o q).stay (fun _ _ _ z=>z) (fun c z=>by rw [zi (zf z hfr)]; exact z) fun c xs' z=>by rw [zi (zf z hfr)]; exact z
   refine I0.step (s:={ s with heap:=h',toks:=s.toks + 1 }) (g':=s.gens) (d':=s.drawn) (h':=h') (t':=s.toks + 1) (ch:=[s.heap.objs.size]) (fun b hb=>?_) (fun b o _ _ _ e1 _=>e1) (fun b o _ _ _ e1 _=>⟨o.slots,e1⟩) (fun b o hb e1 n=>by rw [zi (fun z=>hb (by simp [z]))]; exact n)
    (fun b o _ e1=>⟨o,e1⟩) (fun b xs' e1=>by rw [zi (zf e1 hfr)]; exact e1) (fun b o' u' e1=>by rw [zi (zf e1 hfr)]; exact e1) (fun b ps e1=>⟨#[],by rw [zi (zf e1 hfr),e1]; simp⟩) (fun m hm=>hm) hok I0.bare
   have e':b = s.heap.objs.size:=by simpa using hb
   subst e'
   refine ⟨.inr I.sz,fun z=>?_,fun y c h z=>?_,fun p hp' z=>?_⟩
   ·have:=I.lt; rw [<- z] at this; exact absurd this (Nat.lt_irrefl _)
   ·obtain ⟨v',hv⟩:=I.cell y c h
    have:=hv.lt; rw [z] at this; exact absurd this (Nat.lt_irrefl _)
   ·have:=I.pin_lt hp'; rw [z] at this; exact absurd this (Nat.lt_irrefl _)
  refine ⟨_,rfl,wpAny_letOwnedTupleGo_enum he' fun h2 he2 hs2=>?_⟩
  have nes:s.heap.objs.size ≠ e:=fun z=>by
   have:=Heap.lt_size (show s.heap.get? e = some _ from he)
   rw [<- z] at this; exact absurd this (Nat.lt_irrefl _)
  have nis:s.heap.objs.size ≠ it:=fun z=>by
   obtain ⟨o,ho,_⟩:=hit
   have:=Heap.lt_size ho
   rw [<- z] at this; exact absurd this (Nat.lt_irrefl _)
  have I2:Inv X pins σ (upd H s.heap.objs.size (.tup [.int i,x])) { s with heap:=h2,toks:=s.toks + 1 }:=
   I1.turned (s:={ s with heap:=h',toks:=s.toks + 1 }) (t':=s.toks + 1) (it:=e) (fun b o hb q=>(hs2.2 b hb).trans q) (by rw [zi nes.symm]; exact f0) f1 f3 f4 f5
  refine ⟨.ref s.heap.objs.size,_,I2,rfl,⟨_,x,rfl,hfr,fun xs' h'=>?_,rfl⟩,⟨⟨_,by simpa using he2⟩,?_⟩,fun b hb=>?_⟩
  ·rw [I.list_inj h' hS]; exact hx
  ·obtain ⟨o,ho,r⟩:=hit'
   exact ⟨o,(hs2.2 it (Ne.symm hne)).trans ho,r⟩
  ·rcases List.mem_cons.mp hb with rfl | hb
   ·rw [zi nes.symm]; exact f0
   ·have e':b = it:=by simpa using hb
    subst e'
    rw [zi nis.symm]; exact g0
 done:=by
  intro X hP hw hK hc i pins s σ H E I hf st hg
  subst hP hw hK
  obtain ⟨⟨old,he⟩,hit⟩:=st
  obtain ⟨g0,g1,g2,g3,g4,g5⟩:=hf it (by simp)
  obtain ⟨xs,hS,hle⟩:=hg
  obtain ⟨its,rv,hp,hz⟩:=I.list hS
  have hx:its.toArray[i]? = none:=by simp [<- rv.length,hle]
  exact wpAny_pyNext_enum_end (I.ok.hd hc) he hit hp.isList hx fun h' eb=>⟨rfl,I.turned (t':=s.toks) (fun b o hb e1=>eb b o hb e1) g0 g1 g3 g4 g5⟩
 self:=fun A i s Q E st h=>by
  obtain ⟨⟨old,he⟩,_⟩:=st
  exact wpAny_pyIter_enum he h
section
variable {X:Cx} {elts:List Expr} {x1:Nat} {tpos:Pos}
def zjE (K:Frag) (ta:TA):TI:=fun σ H R=>ta σ H fun vs H1=>∃ a,vs = [.ref a]/\(∃ xs,SqL K H1 a xs)/\R (Ite K a) H1
theorem xa {l:Expr} {ta:TA} {p pos:Pos} (hg:Gl X "enumerate") (hm:X.mg "enumerate" = none) (ha:PA X [l] ta) (hl:wR l = false:=by rfl):PI X (.Tuple elts x1 tpos) (.Call (.Name "enumerate" p) [l] [] pos) (zjE X.K ta):=by
 refine ⟨?_⟩
 intro pins s σ H R I h
 refine Call_ (vg I hg hm PyProof.Rows.boot_enumerate (PyProof.Rows.callWith_type1 (thn (ha pos pins s σ H _ I h) fun us s1 ⟨vs,H1,I1,r1,q1⟩=>?_) (yL hl) rfl))
 obtain ⟨a,e,⟨xs,hS⟩,q⟩:=q1
 subst e
 obtain ⟨u,rfl,ru⟩:=wO r1
 cases ru
 obtain ⟨its,rv,hp,hz⟩:=I1.list hS
 refine call_enumerate_list hp.isList fun h' he hit hsz hk=>?_
 refine wpAny_pyIter_enum he ?_
 have hfr:∀ b,s1.heap.objs.size<=b->H1 b = none:=fun b hb=>I1.hok.fresh hb
 have I2:Inv X pins σ H1 { s1 with heap:=h' }:=I1.kept (t':=s1.toks) hk
 refine ⟨s1.heap.objs.size + 1,[s1.heap.objs.size + 1,s1.heap.objs.size],_,_,H1,rfl,I2,zdL a _ _ (Nat.succ_ne_self _),⟨⟨_,he⟩,hit⟩,fun b hb=>?_,q⟩
 rcases List.mem_cons.mp hb with rfl | hb
 ·exact I1.fpOk (Nat.le_succ _) (hfr _ (Nat.le_succ _))
 ·have e':b = s1.heap.objs.size:=by simpa using hb
  subst e'
  exact I1.fpOk (Nat.le_refl _) (hfr _ (Nat.le_refl _))
end
end L2
namespace Att
open PySem PySem.W PySem.Calls PyProof.Rows
theorem zbj {ns:List Int} (h:WData.layableAll [WData.list (ns.map WData.int)] = true):∀ n ∈ ns,Builtin.Int.intBits n<=1048576:=fun n hn=>
 PySem.intBits_le_of_layable (layable0_of_all (lay0_int (layableW_item (layW_cons h).1 (.int n) (List.mem_map.mpr ⟨n,hn,rfl⟩))))
theorem zhk {l:OpenLaw} {n:Nat} {q:Program} {loose:List Str} {XP:(Str->Option Value)->Heap->Prop} {YP:World->Heap->Prop} {d:DefRec}
  (hn:l.most = some n) (hdf:d.params.defaults = [])
  (call:∀ (w:World) (s₀ s₁:Shared) (mg mb:Str->Option Value) (fa:Addr) (o:Obj) (pm cd doc:Value) (a:Addr) (vs:List Value) (ns:List Int),
   Ground q loose [] XP w s₀ mg mb s₁.heap->YP w s₁.heap->
   s₁.heap.get? fa = some o->o.data = .func (docDef d.name d.params d.body d.scope pm cd doc)->s₁.heap.CodeRec cd d.name->mg d.name = some (.ref fa)->
   s₁.heap.get? a = some { cls:=.type "list",data:=.seq vs.toArray }->IntsAre vs ns->ns.length<=n->(∀ m ∈ ns,Builtin.Int.intBits m<=1048576)->s₁.gens = #[]->
   codeAny (model l.prog w) callerA (.call (.ref fa) ⟨[.ref a],[]⟩) (fun r s'=>r = .ok (.ret (.bool true))/\OldK s₁.heap s'.heap/\s'.os = s₁.os/\AllBare s'.gens) s₁) :
  WalkO q loose XP YP l.row.toRowW d [] (fun f vs=>PySem.call f vs):=by
 intro w s₀ s₁ mg mb G Y fa o pm cd doc dV kV ho hd hcd hD hmg hg args vals as hpre hlay hrd hwl hlo
 obtain rfl:dV = .none:=Dflts.none hD hdf
 obtain rfl:kV = .none:=Dflts.noKw hD
 obtain ⟨a,vs,ns,rfl,rfl,hobj,hints,hlen⟩:=zdN hn hpre hwl
 refine enter_call (codeAny_mono (call w s₀ s₁ mg mb fa o pm cd doc a vs ns G Y ho (fd_plain hd) hcd hmg hobj hints hlen (zbj hlay) hg) fun r s' hq=>?_)
 obtain ⟨rfl,h2,h3,h4⟩:=hq
 exact ⟨.inl ⟨.bool true,.bool true,[],rfl,fun _=>rfl,.bool true,zdY l _,fun _=>⟨List.Pairwise.nil,fun _ hm=>(nomatch hm)⟩⟩,h2,h3,h4⟩
end Att
namespace L2
open PySem PySem.Spec PyProof.Rows
theorem ziU {l:PySem.W.OpenLaw} {n k:Nat} {q:Program} {loose:List Str} {XP:(Str->Option Value)->Heap->Prop} {YP:World->Heap->Prop} {d:DefRec} {K:Params->Frag} {CX:World->CXT} {sp:World->Sp} {x:Str}
  (hn:l.most = some n) (hn2:n<=sizeLine) (hdf:d.params.defaults = []) (hr:ya k callerA)
  (hY:∀ (w:World) (h:Heap),YP w h->(K w.params).In h)
  (F:∀ (w:World) (mg:Str->Option Value) (fa:Addr) (h:Heap),(K w.params).In h->h.Ns mainGlobals mg->mg d.name = some (.ref fa)->
   ∃ fd:FuncData,(∀ (s:Shared) (u:Value),BindsTo s fd ⟨[u],[]⟩ [(x,u)])/\
    ∀ base:Heap,(K w.params).In base->base.Ns mainGlobals mg->zC l.prog w (K w.params) mg base (CX w) k fa fd [x] (sp w))
  (hsp:∀ (w:World) (H:Hp) (a:Addr) (ns:List Int),ns.length<=n->(∀ m ∈ ns,Builtin.Int.intBits m<=1048576)->ziP H->SqL (K w.params) H a (ns.map V.int)->sp w [.ref a] H (fun v _=>v = .bl true) fun _ _ _=>False)
  (hCX:∀ (w:World) (H:Hp) (s:Shared) (e:Value) (s':Shared),CX w [] H s (fun _ _ _=>False) e s'->False) :
  PySem.W.WalkO q loose XP YP l.row.toRowW d [] (fun f vs=>PySem.call f vs):=by
 refine Att.zhk hn hdf fun w s₀ s₁ mg mb fa o pm cd doc a vs ns G Y ho hd hcd hmg hobj hints hlen hbits hg=>?_
 have KX:=hY w _ Y
 obtain ⟨fd,hb,hF⟩:=F w mg fa _ KX G.T.g hmg
 exact zfT KX G.T.g G.T.b G.T.builtins G.T.nolimit hg hobj hints (Nat.le_trans hlen hn2) hr hF hb (fun H hO hS=>hsp w H a ns hlen hbits hO hS) fun H e s'=>hCX w H s₁ e s'
section
variable {X:Cx}
theorem zgQ:OpR X (binaryOp .Mult) (rI IntMulOk fun i j=>.int (i * j)):=opI fun _ _ _ _ _ _ _ hc q=>mul_int q hc
end
structure qm (K:Frag) (x qual:Str) (st:Stmt) (f:Addr) (fd:FuncData) (items:List Value):Prop where
 ex:∃ (oc:Value) (od:Option Addr) (T:Addr) (kV doc pm:Value) (an:Option Addr) (cdv ct:Value) (osl:Array (Option Value)) (o:Obj) (n:Nat),
  fd = fnOf x qual (zp st) (zn st) (ze st) (.ref T) kV doc pm an cdv ct/\K.lookup f = some ⟨oc,od,.func fd,osl⟩/\codeIn K cdv qual = true/\K.lookup T = some o/\o.data = .seq items.toArray n
 kp:keepIn K (.ref f) = true
section
variable {P:Program} {w:World} {K:Frag} {mg:Str->Option Value} {base:Heap}
theorem qm.ok {x qual:Str} {st:Stmt} {f:Addr} {fd:FuncData} {items:List Value} {N ps:List Str} {k:Nat} {sp:Sp} (F:qm K x qual st f fd items) (S:zu N ps (ze st)) (len:∀ vs H Q E,sp vs H Q E->vs.length = ps.length)
  (hbody:∀ (cdv:Value) (A:Around) (outer:List Env) (s:Shared) (H:Hp) (vs:List V) (Q:VK) (E:XK),ya k (A.deeper (envOfC qual (ze st) s.heap.objs.size f cdv))->sp vs H Q E->
   ∃ t,PSs (qj CX0 P w K mg base N qual (ze st) f cdv A outer s H E).nox (zn st) t/\t { nx:=fun _ H'=>Q .non H',rt:=Q } (wT N vs) H):zC P w K mg base CX0 (k + 1) f fd ps sp:=by
 obtain ⟨oc,od,T,kV,doc,pm,an,cdv,ct,osl,o,n,rfl,lk,hcd,_,_⟩:=F.ex
 refine zdx lk hcd S len fun A outer s H vs Q E hr hsp=>?_
 obtain ⟨t,h,q⟩:=hbody cdv A outer s H vs Q E hr hsp
 exact ⟨t,h.nox,q⟩
theorem qm.bindsTo {x qual:Str} {st:Stmt} {f:Addr} {fd:FuncData} {items:List Value} (F:qm K x qual st f fd items) {args:Args} {bs:List (Str × Value)}
  (h:∀ (T:Addr) (kV doc pm:Value) (an:Option Addr) (cdv ct:Value),∃ k:Option (Array Value)->Sem (List (Str × Value)),
   bindArgs (fnOf x qual (zp st) (zn st) (ze st) (.ref T) kV doc pm an cdv ct) args = seqItems? (.ref T) >>= k/\k (some items.toArray) = pure bs) {s:Shared} (KX:K.In s.heap):BindsTo s fd args bs:=by
 obtain ⟨oc,od,T,kV,doc,pm,an,cdv,ct,osl,o,n,rfl,lk,hcd,lt,hs⟩:=F.ex
 obtain ⟨k,h1,h2⟩:=h T kV doc pm an cdv ct
 exact BindsTo.of_defaults (T:=T) (n:=n) rfl (KX _ _ lt) hs h1 h2
theorem jF {x qual:Str} {st:Stmt} {f T:Addr} {oc:Value} {od an:Option Addr} {osl:Array (Option Value)} {kV doc pm cdv ct:Value} {o:Obj} {n:Nat} {items:List Value}
  (l:K.lookup f = some ⟨oc,od,.func (fnOf x qual (zp st) (zn st) (ze st) (.ref T) kV doc pm an cdv ct),osl⟩)
  (c:codeIn K cdv qual = true) (k:keepIn K (.ref f) = true) (lT:K.lookup T = some o) (hs:o.data = .seq items.toArray n) :
  qm K x qual st f (fnOf x qual (zp st) (zn st) (ze st) (.ref T) kV doc pm an cdv ct) items:=⟨⟨oc,od,T,kV,doc,pm,an,cdv,ct,osl,o,n,rfl,l,c,lT,hs⟩,k⟩
end
section
variable {X:Cx} {CX:CXT} {k:Nat} {f C:Addr} {fd:FuncData} {ps ks:List Str} {sp:Sp} {E:XK} {x:Str} {p pos:Pos} {e:Expr} {es:List Expr} {kws:List Keyword} {t tk:TA}
 {g:List Value->List Value->List Value} {gV:List V->List V->List V}
end
theorem yC {t u:TS} {D:jh} {σ : St} {H:Hp} (R:St->Hp->Prop) (h2:∀ σ H,R σ H->u D σ H) (h1:(∀ σ H,R σ H->u D σ H)->t { D with nx:=u D } σ H):xY t u D σ H:=h1 h2
def lcN (n i:Nat) (D:Addr) (Pv:Nat->List V->Hp->Prop) (ys:List V):VK:=fun v H4=>H4 D = some (.lst ys)/\ys.length < sizeLine/\∃ m',m' < n - i/\m' = n - (i + 1)/\i + 1<=n/\Pv (i + 1) (ys ++ [v]) (upd H4 D (.lst (ys ++ [v])))
def lcS (n i:Nat) (Pv:Nat->List V->Hp->Prop) (ys:List V):Hp->Prop:=fun H4=>∃ m',m' < n - i/\m' = n - (i + 1)/\i + 1<=n/\Pv (i + 1) ys H4
theorem lcN.mk {n i:Nat} {D:Addr} {Pv:Nat->List V->Hp->Prop} {ys:List V} {v:V} {H4:Hp} (hi:i < n) (hn:n<=sizeLine) (hD:H4 D = some (.lst ys)) (hy:ys.length<=i) (p:Pv (i + 1) (ys ++ [v]) (upd H4 D (.lst (ys ++ [v])))):lcN n i D Pv ys v H4:=
 ⟨hD,by omega,n - (i + 1),by omega,rfl,hi,p⟩
theorem lcS.mk {n i:Nat} {Pv:Nat->List V->Hp->Prop} {ys:List V} {H4:Hp} (hi:i < n) (p:Pv (i + 1) ys H4):lcS n i Pv ys H4:=⟨n - (i + 1),by omega,rfl,hi,p⟩
theorem uu {K:Frag} {a:Addr} {xs:List V} {caps:List (Option Nat)} {g:TG} {tt:TT} {te:TE} {σ : St} {H1:Hp} {Q:VK} {D:Addr} (Pv:Nat->List V->Hp->Prop) (h0:Pv 0 [] (upd H1 D (.lst [])))
  (hl:∀ i ys H,Pv i ys H->SqL K H a xs)
  (hs:∀ i x ys H,i < xs.length->xs[i]? = some x->Pv i ys H->g x (yX caps σ) H fun σ2 H2=>tt σ2 H2 fun ok H3=>(ok = true->te σ2 H3 (lcN xs.length i D Pv ys))/\(ok = false->lcS xs.length i Pv ys H3))
  (hd:∀ ys H,Pv xs.length ys H->Q (.ref D) H):LCr (Itl K a) caps g tt te σ H1 Q D:=by
 refine ⟨fun i m ys H=>m = xs.length - i/\i<=xs.length/\Pv i ys H,⟨xs.length,by simp,Nat.zero_le _,h0⟩,?_⟩
 rintro i m ys H ⟨rfl,hi,p⟩
 have q:=hl i ys H p
 by_cases hlt:i < xs.length
 ·refine .inr ⟨⟨xs,xs[i],q,by simp [hlt]⟩,fun x H' y=>?_⟩
  obtain ⟨e,y⟩:=y
  subst e
  exact hs i x ys _ hlt (y xs q) p
 ·have e:i = xs.length:=by omega
  subst e
  exact .inl ⟨⟨xs,q,Nat.le_refl _⟩,hd ys H p⟩
theorem yh {H:Hp} {x dx:Addr} {o1:HO} (hx:H x = none) (hd:H dx = none):zm H (upd (upd H dx (.own x)) x o1):=fun b u q=>by
 rw [zi (zf q hx),zi (zf q hd)]
 exact q
theorem zc {H:Hp} {p:Addr} (h:H p = none) (o:HO):zm H (upd H p o):=fun b u q=>by rw [zi (zf q h)]; exact q
theorem vh {lo:Int} {n:Nat} {caps:List (Option Nat)} {g:TG} {tt:TT} {te:TE} {σ : St} {H1:Hp} {Q:VK} {D:Addr} (Pv:Nat->List V->Hp->Prop) (h0:Pv 0 [] (upd H1 D (.lst [])))
  (hs:∀ i ys H,i < n->Pv i ys H->g (.int (lo + i)) (yX caps σ) H fun σ2 H2=>tt σ2 H2 fun ok H3=>(ok = true->te σ2 H3 (lcN n i D Pv ys))/\(ok = false->lcS n i Pv ys H3))
  (hd:∀ ys H,Pv n ys H->Q (.ref D) H):LCr (Itr lo n) caps g tt te σ H1 Q D:=by
 refine ⟨fun i m ys H=>m = n - i/\i<=n/\Pv i ys H,⟨n,by simp,Nat.zero_le _,h0⟩,?_⟩
 rintro i m ys H ⟨rfl,hi,p⟩
 by_cases hlt:i < n
 ·refine .inr ⟨hlt,fun x H' y=>?_⟩
  obtain ⟨e,y⟩:=y
  subst e y
  exact hs i ys _ hlt p
 ·have e:i = n:=by omega
  subst e
  exact .inl ⟨Nat.le_refl _,hd ys H p⟩
theorem zaP {K:Frag} {a:Addr} {xs:List V} {caps:List (Option Nat)} {g:TG} {tt:TT} {te:TE} {σ : St} {H1:Hp} {Q:VK} {D:Addr} (Pv:Nat->List V->Hp->Prop) (h0:Pv 0 [] (upd H1 D (.lst [])))
  (hl:∀ i ys H,Pv i ys H->SqL K H a xs)
  (hs:∀ i x p ys H,i < xs.length->xs[i]? = some x->Pv i ys H->H p = none->g (.ref p) (yX caps σ) (upd H p (.tup [.int i,x])) fun σ2 H2=>tt σ2 H2 fun ok H3=>(ok = true->te σ2 H3 (lcN xs.length i D Pv ys))/\(ok = false->lcS xs.length i Pv ys H3))
  (hd:∀ ys H,Pv xs.length ys H->Q (.ref D) H):LCr (Ite K a) caps g tt te σ H1 Q D:=by
 refine ⟨fun i m ys H=>m = xs.length - i/\i<=xs.length/\Pv i ys H,⟨xs.length,by simp,Nat.zero_le _,h0⟩,?_⟩
 rintro i m ys H ⟨rfl,hi,p⟩
 have q:=hl i ys H p
 by_cases hlt:i < xs.length
 ·refine .inr ⟨⟨xs,xs[i],q,by simp [hlt]⟩,fun x H' y=>?_⟩
  obtain ⟨pp,y,rfl,hp,y2,rfl⟩:=y
  exact hs i y pp ys H hlt (y2 xs q) p hp
 ·have e:i = xs.length:=by omega
  subst e
  exact .inl ⟨⟨xs,q,Nat.le_refl _⟩,hd ys H p⟩
theorem vj {K:Frag} {a:Addr} {xs:List V} {g:TG} {tb:TS} {D:jh} {σ : St} {H:Hp} (Pv:Nat->St->Hp->Prop) (h0:Pv 0 σ H) (hl:∀ i σ H,i<=xs.length->Pv i σ H->SqL K H a xs)
  (hs:∀ i x p σ H,xs[i]? = some x->Pv i σ H->H p = none->g (.ref p) σ (upd H p (.tup [.int i,x])) fun σ2 H2=>tb { D with nx:=Pv (i + 1),ct:=Pv (i + 1),bk:=D.nx } σ2 H2) (hd:∀ σ H,Pv xs.length σ H->D.nx σ H) :
  ∃ W:Nat->Nat->St->Hp->Prop,(∃ m,W 0 m σ H)/\∀ i m σ H,W i m σ H->
   ((Ite K a).stop i H/\D.nx σ H)\/((Ite K a).go i H/\∃ N:St->Hp->Prop,(∀ σ' H',N σ' H'->∃ m',m' < m/\W (i + 1) m' σ' H')/\∀ x H',(Ite K a).yld i H x H'->g x σ H' fun σ2 H2=>tb { D with nx:=N,ct:=N,bk:=D.nx } σ2 H2):=by
 refine ⟨fun i m σ H=>m = xs.length - i/\i<=xs.length/\Pv i σ H,⟨xs.length,by simp,Nat.zero_le _,h0⟩,?_⟩
 rintro i m σ H ⟨rfl,hi,p⟩
 have q:=hl i σ H hi p
 by_cases hlt:i < xs.length
 ·refine .inr ⟨⟨xs,xs[i],q,by simp [hlt]⟩,Pv (i + 1),fun σ' H' p'=>⟨xs.length - (i + 1),by omega,rfl,hlt,p'⟩,fun x H' y=>?_⟩
  obtain ⟨pp,y,rfl,hp,y2,rfl⟩:=y
  exact hs i y pp σ H (y2 xs q) p hp
 ·have e:i = xs.length:=by omega
  subst e
  exact .inl ⟨⟨xs,q,Nat.le_refl _⟩,hd σ H p⟩
structure Fly (P:Program) (w:World) (outer:List Env) (H:Hp) (s:Shared) (cls:Value) (H':Hp) (ea:Addr) (s':Shared):Prop where
 os:s'.os = s.os
 bare:AllBare s'.gens
 un:Un (frs outer) [] H H' s.heap s'.heap
 hok:HOk P w H' s'.heap
 nt:H' ea = none
 fly:∃ B a0,Heap.FlyingW B outer ea cls a0 s'.heap/\(∀ b u,H' b = some u->∃ o,B.get? b = some o)/\(∀ b o,s.heap.get? b = some o->H b = none->b ∉ frs outer->B.get? b = some o)/\
  ∀ b o,s.heap.get? b = some o->b ∉ frs outer->∃ o',B.get? b = some o'
abbrev CXe (P:Program) (w:World):CXT:=fun outer H s E e s'=>∃ ea cls H',e = .ref ea/\Fly P w outer H s cls H' ea s'/\E cls none H'
section
variable {X:Cx} {pins:List (Addr × Obj)} {σ : St} {H H':Hp} {s s':Shared} {ea:Addr} {cls:Value} {vs:List Value} {h':Heap} {M:Model} {E:Value->Shared->Prop}
theorem zac (hstk:X.stack = X.env :: X.outer) (hfl:X.env.frame = some X.env.locals):frs X.stack = X.env.locals :: frs X.outer:=by
 rw [hstk]
 unfold frs
 rw [List.filterMap_cons,hfl]
theorem HOk.sameAt {P:Program} {w:World} {h h':Heap} (x:HOk P w H h) (k:∀ b u o,H b = some u->h.get? b = some o->h'.get? b = some o):HOk P w H h':=fun a o e=>
 (x a o e).stay (fun b u hb q=>by
  rcases hb with z | z
  ·exact k b o u (by rw [z]; exact e) q
  ·exact k b _ u z q) (fun _ q=>q) fun _ _ q=>q
theorem HOk.rec {P:Program} {w:World} {h:Heap} (x:HOk P w H h) {b:Addr} {u:HO} (e:H b = some u):∃ o,h.get? b = some o:=by
 have q:=x b u e
 cases u with
 | lst xs=>obtain ⟨_,_,_,_,e⟩:=q; exact ⟨_,e⟩
 | tup xs=>obtain ⟨_,_,_,o,e,_⟩:=q; exact ⟨_,e⟩
 | dK kvs=>obtain ⟨_,_,_,_,o,_,_,e,_⟩:=q; exact ⟨_,e⟩
 | dT kvs=>obtain ⟨_,_,_,_,o,_,_,e,_⟩:=q; exact ⟨_,e⟩
 | set S n=>obtain ⟨o,_,_,_,e,_⟩:=q; exact ⟨_,e⟩
 | ins C dx fs=>obtain ⟨_,_,_,e,_⟩:=q; exact ⟨_,e⟩
 | own y=>exact q
 | xd fs=>obtain ⟨_,⟨o,_,_,e,_⟩,_⟩:=q; exact ⟨_,e⟩
 | rng lo hi=>obtain ⟨_,_,_,e⟩:=q; exact ⟨_,e⟩
 | frz ob u=>obtain ⟨e,_⟩:=q; exact ⟨_,e⟩
 | tbl ps=>exact ⟨_,q⟩
 | met f y=>exact ⟨_,q⟩
 | ext φ=>exact q.2.1
theorem zf5 (I:Inv X pins σ H s) (hstk:X.stack = X.env :: X.outer) (hfl:X.env.frame = some X.env.locals) (hex:X.ex = []) (hx:Heap.MadeExcOf s.heap h' ea cls vs) :
  wpAny M X.A (leaving X.env (.ref ea)) (fun _ s''=>Fly X.prog X.w X.outer X.H₀ X.s₀ cls H ea s'') E { s with heap:=h' }:=by
 have fr:=zac hstk hfl
 have fl:s.heap.FunFrames (hideAll s.heap (frs X.stack)) (X.env :: X.outer):=by
  have:=I.stack
  rw [hstk] at this
  refine PySem.W.funFrames_hide this fun env he b hb=>?_
  rw [hstk]
  exact List.mem_filterMap.mpr ⟨env,he,hb⟩
 have fr0:=I.ok.frames
 rw [hstk] at fr0
 have neL:∀ b o,X.s₀.heap.get? b = some o->b ≠ X.env.locals:=fun b o e=>Nat.ne_of_lt (Nat.lt_of_lt_of_le (Heap.lt_size e) I.ok.above)
 have noEx:∀ b:Addr,b ∉ X.ex:=fun b=>by rw [hex]; simp
 have inB:∀ b o,s.heap.get? b = some o->b ∉ frs X.stack->(hideAll s.heap (frs X.stack)).get? b = some o:=fun b o e n=>PySem.W.hideAll_get _ e n
 have trB:∀ b u,H b = some u->b ∉ frs X.stack:=fun b u e n=>by rw [I.stkFree b n] at e; cases e
 refine wpAny_leaves_madeW (base:=hideAll s.heap (frs X.stack)) fr0 hfl (fun b o q=>PySem.W.of_hideAll _ q) fl hx fun h2 t x1 x2 x3 x4=>?_
 have stay:∀ b o,s.heap.get? b = some o->b ∉ frs X.stack->h2.get? b = some o:=fun b o e n=>x1.1 b o (inB b o e n)
 have up:∀ b o,s.heap.get? b = some o->(∀ vs,o.data ≠ .fields vs)->∃ sl,h2.get? b = some { o with slots:=sl }:=fun b o e n=>x4 b o (hx.keeps b o e) n
 refine ⟨I.os,I.bare,⟨fun b o e n hb _=>?_,fun b o e n hb _=>?_,fun b o e n _=>I.base.free b o e n (noEx b),fun b o e _=>?_,I.base.tups,I.base.frzs,I.base.tbls⟩,I.hok.sameAt fun b u o e q=>stay b o q (trB b u e),?_,?_⟩
 ·refine stay b o (I.base.keep b o e n hb (noEx b)) ?_
  rw [fr]
  exact fun z=>(List.mem_cons.mp z).elim (neL b o e) hb
 ·obtain ⟨sl,e1⟩:=I.base.slot b o e n hb (noEx b)
  obtain ⟨_,o',ho',hd⟩:=I.funs.mem hb
  rw [e1] at ho'
  cases ho'
  obtain ⟨sl2,e2⟩:=up b _ e1 hd
  exact ⟨sl2,e2⟩
 ·obtain ⟨o1,e1⟩:=I.base.there b o e (noEx b)
  by_cases hb:b ∈ frs X.stack
  ·obtain ⟨_,o',ho',hd⟩:=I.stack.mem hb
   obtain ⟨sl2,e2⟩:=up b o' ho' hd
   exact ⟨_,e2⟩
  ·exact ⟨o1,stay b o1 e1 hb⟩
 ·cases q:H ea with
  | none=>rfl
  | some u=>
   obtain ⟨o,e⟩:=I.hok.rec q
   rw [hx.new] at e; cases e
 ·refine ⟨_,_,x1,fun b u e=>?_,fun b o e n hb=>?_,fun b o e hb=>?_⟩
  ·obtain ⟨o,q⟩:=I.hok.rec e
   exact ⟨o,inB b o q (trB b u e)⟩
  ·refine inB b o (I.base.keep b o e n hb (noEx b)) ?_
   rw [fr]
   exact fun z=>(List.mem_cons.mp z).elim (neL b o e) hb
  ·obtain ⟨o1,e1⟩:=I.base.there b o e (noEx b)
   refine ⟨o1,inB b o1 e1 ?_⟩
   rw [fr]
   exact fun z=>(List.mem_cons.mp z).elim (neL b o e) hb
theorem ziE (I:Inv X pins σ H s) (hstk:X.stack = X.env :: X.outer) (hfl:X.env.frame = some X.env.locals) (hex:X.ex = []) (F:Fly X.prog X.w X.stack H s cls H' ea s') :
  wpAny M X.A (leaving X.env (.ref ea)) (fun _ s''=>Fly X.prog X.w X.outer X.H₀ X.s₀ cls H' ea s'') E s':=by
 have fr:=zac hstk hfl
 have fr0:=I.ok.frames
 rw [hstk] at fr0
 obtain ⟨B,a0,fl,tr,old,olds⟩:=F.fly
 have neL:∀ b o,X.s₀.heap.get? b = some o->b ≠ X.env.locals:=fun b o e=>Nat.ne_of_lt (Nat.lt_of_lt_of_le (Heap.lt_size e) I.ok.above)
 have noEx:∀ b:Addr,b ∉ X.ex:=fun b=>by rw [hex]; simp
 have nst:∀ b o,X.s₀.heap.get? b = some o->b ∉ frs X.outer->b ∉ frs X.stack:=fun b o e hb=>by
  rw [fr]
  exact fun z=>(List.mem_cons.mp z).elim (neL b o e) hb
 have fl':=fl
 rw [hstk] at fl'
 refine wpAny_leaves_onW fr0 hfl fl' fun h2 x1 x2=>?_
 have oldB:∀ b o,X.s₀.heap.get? b = some o->X.H₀ b = none->b ∉ frs X.outer->B.get? b = some o:=fun b o e n hb=>
  old b o (I.base.keep b o e n hb (noEx b)) (I.base.free b o e n (noEx b)) (nst b o e hb)
 refine ⟨F.os.trans I.os,F.bare,⟨fun b o e n hb _=>x1.1 b o (oldB b o e n hb),fun b o e n hb _=>?_,fun b o e n _=>?_,fun b o e _=>?_,fun b xs e=>F.un.tups b xs (I.base.tups b xs e),fun b o u e=>F.un.frzs b o u (I.base.frzs b o u e),fun b ps e=>?_⟩,F.hok.sameAt fun b u o e q=>?_,F.nt,⟨B,a0,x1,tr,oldB,fun b o e hb=>?_⟩⟩
 ·obtain ⟨sl,e1⟩:=I.base.slot b o e n hb (noEx b)
  obtain ⟨sl1,e2⟩:=F.un.any e1 (I.base.free b o e n (noEx b)) (by simp)
  have hd:∀ vs,o.data ≠ .fields vs:=by
   obtain ⟨_,o',ho',hd⟩:=I.funs.mem hb
   rw [e1] at ho'
   cases ho'
   exact hd
  obtain ⟨sl2,e3⟩:=x2 b _ e2 hd
  exact ⟨sl2,e3⟩
 ·obtain ⟨o',e1⟩:=I.base.there b o e (noEx b)
  exact F.un.free b o' e1 (I.base.free b o e n (noEx b)) (by simp)
 ·obtain ⟨o1,e1⟩:=I.base.there b o e (noEx b)
  obtain ⟨o2,e2⟩:=F.un.there b o1 e1 (by simp)
  by_cases hb:b ∈ frs X.stack
  ·obtain ⟨_,o',ho',hd⟩:=fl.2.2.1.mem hb
   obtain ⟨sl2,e3⟩:=x2 b o' ho' hd
   exact ⟨_,e3⟩
  ·obtain ⟨o3,e3⟩:=olds b o1 e1 hb
   exact ⟨o3,x1.1 b o3 e3⟩
 ·obtain ⟨m1,e1⟩:=I.base.tbls b ps e
  obtain ⟨m2,e2⟩:=F.un.tbls b _ e1
  exact ⟨m1 ++ m2,by rw [e2,Array.append_assoc]⟩
 ·obtain ⟨o3,e3⟩:=tr b u e
  have e4:=fl.1 b o3 e3
  rw [q] at e4
  cases e4
  exact x1.1 b o e3
 ·obtain ⟨o1,e1⟩:=I.base.there b o e (noEx b)
  exact olds b o1 e1 (nst b o e hb)
end
def zgk (X:Cx) (E:XK):Prop:=∀ (pins:List (Addr × Obj)) (σ : St) (H:Hp) (s:Shared) (ea:Addr) (cls:Value) (vs:List Value) (h':Heap),Inv X pins σ H s->Heap.MadeExcOf s.heap h' ea cls vs->E cls none H->X.xe (.ref ea) { s with heap:=h' }
def zhI (C:Addr) (E:XK) (t:TA):TS:=fun _ σ H=>t σ H fun vs H1=>vs.length<=sizeLine/\E (.ref C) none H1
section
variable {X:Cx} {E:XK} {x:Str} {C:Addr} {B Bn newId nid initId inN:String} {bm bmN:List Value} {np cpos pos:Pos} {e:Expr} {es:List Expr} {t:TA}
theorem zeZ (hX:zgk X E) (O:OwnCls x C bm newId X.mg X.base) (Fn:ExcBaseFacts Bn newId inN bmN) (hBn:bm.contains (.type Bn) = true) (FB:ExcBaseFacts B nid initId bm) (hc:X.calm = true) (ha:PA X (e :: es) t)
  (hg:Gl X x:=by rfl) (hd:(x == ("__debug__" : Str)) = false:=by decide) (h1:wR e = false:=by rfl) (h2:es.any wR = false:=by rfl) :
  PS X (.Raise (some (.Call (.Name x np) (e :: es) [] cpos)) none pos) (zhI C E t):=by
 refine ⟨?_⟩
 intro pins s σ H D I h
 obtain ⟨tl,N,nm,q,bs,hdct,sn,sub,ab,col,dd,k0,k1,k2,k3,k5,mN,hC,hN,hni,T⟩:=O.obj
 have hst:starEach (e :: es) X.env = (false,eval e X.env) :: starEach es X.env:=yL h1
 refine wpAny_Raise_call_subU (C:=C) (nm:=nm) (q:=q) (N:=N) (bs:=bs) (bm:=tl) (hdct:=hdct) (sn:=sn) (sub:=sub) (ab:=ab) (col:=col) (dd:=dd) (k0:=k0) (k1:=k1) (k2:=k2) (k3:=k3) (k5:=k5)
  Fn hBn FB (mN:=mN) (T.hasType FB.hasBase) (I.ok.hd hc) (by rw [hst]; show (false || (backTo cpos (starEach es X.env)).any (·.1)) = false; rw [xB h2]; rfl) hni (vC I hg O.bound ⟨rfl,?_⟩ hd)
 rw [hst]
 refine Calls.evalArgs_plain ?_
 have hA:=ha cpos pins s σ H _ I h
 rw [hst] at hA
 refine thn hA fun us s2 ⟨vs,H1,I1,r,hl,q1⟩=>⟨rfl,by rw [<- r.length]; exact hl,I1.bk _ _ hC,hN.keeps I1.bk,T.keeps I1.bk,fun h' ea hm=>?_⟩
 exact hX pins σ H1 s2 ea _ _ h' I1 hm q1
end
section
variable {P:Program} {w:World} {K:Frag} {mg:Str->Option Value} {base:Heap} {N:List Str} {qual:Str} {scope:Scope} {f:Addr} {cd:Value} {A:Around} {outer:List Env} {s:Shared} {H:Hp} {E E':XK}
theorem zdX:zgk (qj (CXe P w) P w K mg base N qual scope f cd A outer s H E) E:=fun pins σ H1 s1 ea cls vs h' I hm q=>by
 refine wpAny_mono (zf5 I rfl rfl rfl hm) (fun _ s2 F=>?_) fun _ _ z=>z
 exact ⟨ea,cls,H1,rfl,F,q⟩
theorem vO (hE:∀ c d H,E' c d H->E c d H):xz (CXe P w) (qj (CXe P w) P w K mg base N qual scope f cd A outer s H E) E':=fun pins σ H1 s1 e s' I q=>by
 obtain ⟨ea,cls,H',rfl,F,q⟩:=q
 refine wpAny_mono (ziE I rfl rfl rfl F) (fun _ s2 F2=>?_) fun _ _ z=>z
 exact ⟨ea,cls,H',rfl,F2,hE _ _ _ q⟩
theorem Fun.okE {x:Str} {st:Stmt} {fd:FuncData} {ps:List Str} {k:Nat} {sp:Sp} (F:Fun K x qual st f fd) (S:zu N ps (ze st)) (len:∀ vs H Q E,sp vs H Q E->vs.length = ps.length)
  (hbody:∀ (cdv:Value) (A:Around) (outer:List Env) (s:Shared) (H:Hp) (vs:List V) (Q:VK) (E:XK),ya k (A.deeper (envOfC qual (ze st) s.heap.objs.size f cdv))->sp vs H Q E->
   ∃ t,PSs (qj (CXe P w) P w K mg base N qual (ze st) f cdv A outer s H E) (zn st) t/\t { nx:=fun _ H'=>Q .non H',rt:=Q } (wT N vs) H):zC P w K mg base (CXe P w) (k + 1) f fd ps sp:=by
 obtain ⟨oc,od,kV,doc,pm,an,cdv,ct,osl,rfl,lk,hcd⟩:=F.ex
 exact zdx lk hcd S len fun A outer s H vs Q E hr hsp=>hbody cdv A outer s H vs Q E hr hsp
end
structure za5 (P:Program) (w:World) (K:Frag) (mg:Str->Option Value) (base:Heap) (k:Nat) (x:Str) (f:Addr) (fd:FuncData) (ps:List Str) (sp:Sp):Prop where
 ok:zC P w K mg base (CXe P w) k f fd ps sp
 mg:mg x = some (.ref f)
 kp:keepIn K (.ref f) = true
 bd:zS K fd ps []
section
variable {X:Cx} {k:Nat} {f:Addr} {fd:FuncData} {ps:List Str} {sp:Sp} {E:XK} {x:Str} {p pos:Pos} {e:Expr} {es:List Expr} {t:TA}
theorem cE (c:za5 X.prog X.w X.K X.mg X.base k x f fd ps sp) (hp:xz (CXe X.prog X.w) X E) (hr:ya k X.A) (ha:PA X (e :: es) t) (hg:Gl X x:=by rfl) (hdb:(x == ("__debug__" : Str)) = false:=by decide)
  (h1:wR e = false:=by rfl) (h2:es.any wR = false:=by rfl):PE X (.Call (.Name x p) (e :: es) [] pos) (zc0 sp [] E t):=
 zdh c.ok hr hg c.mg c.kp c.bd .nil hp ha hdb (yL h1) (xB h2)
end
section
variable {X:Cx} {pins:List (Addr × Obj)} {σ : St} {H H':Hp} {s s':Shared} {ea a:Addr} {cls:Value} {o:HO} {h5:Heap}
end
section
variable {X:Cx} {pins:List (Addr × Obj)} {σ : St} {H:Hp} {s:Shared} {M:Model} {A:Around} {E:Value->Shared->Prop} {i:Nat} {n:Str} {pos:Pos}
end
section
variable {X:Cx} {pins:List (Addr × Obj)} {σ : St} {e:Expr} {es:List Expr} {te ta:TE} {t tr:TA} {E:XK} {x m:Str} {p pos apos:Pos} {k:Nat} {f C:Addr} {fd:FuncData} {ps:List Str} {sp:Sp} {o:Expr} {dvs:List V} {ds:List Value}
end
section
variable {X:Cx} {pins:List (Addr × Obj)} {σ : St} {H:Hp} {s:Shared} {ea:Addr}
variable {st b₀:Stmt} {suite:List Stmt} {c n:Str} {np hpos pos:Pos} {C:Addr} {i:Nat} {tb:XK->TS} {ts:TS} {ok:Value->Prop}
end
end L2
namespace L2
open PySem PySem.W PySem.Builtin PySem.Builtin.ObjectAttr PySem.Builtin.Getset_descriptor PySem.Spec PyProof.Rows
section
variable {prog:Program} {w:World} {A:Around} {E:Value->Shared->Prop} {s:Shared} {K:Frag} {x D:Addr}
end
end L2
namespace L2
open PySem PySem.Spec PyProof.Rows
section
variable {X:Cx}
end
section
variable {P:Program} {w:World} {K:Frag} {mg:Str->Option Value} {base:Heap}
end
section
variable {X:Cx} {k:Nat} {f:Addr} {fd:FuncData} {ps:List Str} {sp:Sp} {x:Str} {p pos:Pos} {e:Expr} {es:List Expr} {t:TA}
end
section
variable {prog:Program} {w:World} {A:Around} {E:Value->Shared->Prop} {s:Shared} {r:Addr} {n:Int} {t u v:Tok}
end
section
variable {X:Cx} {tg:Expr}
end
section
variable {X:Cx} {o i:Expr} {to ti:TE} {pos tpos:Pos}
def zj4:R2:=fun x y H Q=>∃ (a c:Addr) (xs ys:List V),x = .ref a/\y = .ref c/\H a = some (.lst xs)/\H c = some (.lst ys)/\xs.length ≠ ys.length/\Q (.bl false) H
theorem zbw (hu:X.A.units < cLine):OpR X (compareOp .Eq) zj4:=by
 intro pins s σ H x y v u Q I rx ry h
 obtain ⟨a,c,xs,ys,rfl,rfl,ha,hc,hn,q⟩:=h
 cases rx
 cases ry
 obtain ⟨its,r,pl,_⟩:=I.list (SqL.of ha)
 obtain ⟨its2,r2,pl2,_⟩:=I.list (SqL.of hc)
 have e1:=r.length
 have e2:=r2.length
 exact PySem.SeqAt.eq_list_lengthsAt pl.isList pl2.isList (by simp only [List.size_toArray,bne_iff_ne]; omega) hu ⟨.bl false,H,I,rfl,q⟩
end
section
variable {X:Cx} {pins:List (Addr × Obj)} {σ : St} {e:Expr} {te:TE} {pos p:Pos} {C:Addr} {x:Str}
end
theorem zji {P:Program} {w:World} {X:Cx}:xz (CXe P w) X (fun _ _ _=>False):=fun pins σ H1 s1 e s' I q=>by
 obtain ⟨_,_,_,_,_,q⟩:=q
 exact q.elim
theorem xP {H H1:Hp} {x dx:Addr} {o1 o2:HO} (hx:H x = none) (hd:H dx = none) (s:zm (upd (upd H dx (.own x)) x o1) H1):zm H (upd H1 x o2):=fun b u q=>by
 rw [zi (zf q hx)]
 exact s _ _ (yh hx hd b u q)
structure qp (P:Program) (w:World) (K:Frag) (mg:Str->Option Value) (base:Heap) (CX:CXT) (k:Nat) (x:Str) (C i:Addr) (fd:FuncData) (ps:List Str) (ds:List Value) (sp:Sp):Prop where
 mkr:Mk K C i
 ok:zC P w K mg base CX k i fd ps sp
 mg:mg x = some (.ref C)
 bd:zS K fd ps ds
section
variable {X:Cx} {CX:CXT} {k:Nat} {C i f:Addr} {fd:FuncData} {ps ks:List Str} {sp:Sp} {E:XK} {x m:Str} {p pos apos:Pos} {e:Expr} {es:List Expr} {t tk:TA} {ds:List Value} {dvs:List V} {kws:List Keyword}
 {g:List Value->List Value->List Value} {gV:List V->List V->List V}
theorem cMk (c:qp X.prog X.w X.K X.mg X.base CX k x C i fd ps ds sp) (hd:zK dvs ds) (hp:xz CX X E) (hr:ya (k + 1) X.A) (ha:PA X (e :: es) t) (hg:Gl X x:=by rfl) (hdb:(x == ("__debug__" : Str)) = false:=by decide)
  (h1:wR e = false:=by rfl) (h2:es.any wR = false:=by rfl):PE X (.Call (.Name x p) (e :: es) [] pos) (zhq C sp dvs E t):=zdf c.mkr c.ok hr hg c.mg c.bd hd hp ha hdb (yL h1) (xB h2)
structure qr (K:Frag) (C:Addr) (m:Str) (f:Addr):Prop where
 ga:specialIn K (.ref C) "__getattribute__" = some (some (.builtin "type.__getattribute__"))
 rd:PySem.W.readsIn K C (.type "type") = true
 fc:PySem.W.findCls K (.ref C) (.type "type") m = some (.val (.ref f))
 kp:keepIn K (.ref f) = true
theorem zbq {pl:Sem Bool} (B:qr X.K C m f) (hm:X.mg x = some (.ref C)) (F:zC X.prog X.w X.K X.mg X.base CX k f fd ps sp) (hr:ya k X.A) (hb:zS X.K fd ps []) (hx:xz CX X E) (ha:PA X (e :: es) t) (hg:Gl X x:=by rfl)
  (hdb:(x == ("__debug__" : Str)) = false:=by decide) (h1:wR e = false:=by rfl) (h2:es.any wR = false:=by rfl)
  (ht:eval (.Call (.Attribute (.Name x p) m apos) (e :: es) [] pos) X.env = (do
   let ov <- eval (.Name x p) X.env
   standAt apos.atName
   let (f,first) <- holding [ov] (getMethod ov m pl)
   callWith pos f first (backTo pos (starEach (e :: es) X.env)) (backToKw pos (keywordEach [] X.env))):=by rfl) :
  PE X (.Call (.Attribute (.Name x p) m apos) (e :: es) [] pos) (zc0 sp [] E t):=by
 refine ⟨?_⟩
 intro pins s σ H Q I h
 refine methodCall_KW (pl:=pl) (vC I hg hm ?_ hdb) ht
 refine PySem.W.method_cls I.kIn B.ga (PySem.W.cls_value I.kIn B.rd B.fc rfl ?_)
 have It:=I.tok (s.toks + 1)
 refine callWith_K (first:=[]) (h₀:=X.base) I.ok.mod.kin B.kp (thn (ha pos pins _ σ H _ It h) fun us s2 ⟨vs,H2,I2,r,q2⟩=>⟨I2.kIn,?_⟩) (yL h1) (xB h2)
 exact jP F hr hb .nil hx I2 r q2
end
theorem qm.okE {P:Program} {w:World} {K:Frag} {mg:Str->Option Value} {base:Heap} {x qual:Str} {st:Stmt} {f:Addr} {fd:FuncData} {items:List Value} {N ps:List Str} {k:Nat} {sp:Sp} (F:qm K x qual st f fd items) (S:zu N ps (ze st)) (len:∀ vs H Q E,sp vs H Q E->vs.length = ps.length)
  (hbody:∀ (cdv:Value) (A:Around) (outer:List Env) (s:Shared) (H:Hp) (vs:List V) (Q:VK) (E:XK),ya k (A.deeper (envOfC qual (ze st) s.heap.objs.size f cdv))->sp vs H Q E->
   ∃ t,PSs (qj (CXe P w) P w K mg base N qual (ze st) f cdv A outer s H E) (zn st) t/\t { nx:=fun _ H'=>Q .non H',rt:=Q } (wT N vs) H):zC P w K mg base (CXe P w) (k + 1) f fd ps sp:=by
 obtain ⟨oc,od,T,kV,doc,pm,an,cdv,ct,osl,o,n,rfl,lk,hcd,_,_⟩:=F.ex
 exact zdx lk hcd S len fun A outer s H vs Q E hr hsp=>hbody cdv A outer s H vs Q E hr hsp
theorem uf {X:Cx} {st:Stmt}:PS X st (fun _ _ _=>False):=⟨fun _ _ _ _ _ _ h=>h.elim⟩
def zkx (P:Program) (w:World) (a:Addr) (S:Str->Bool) (n:Nat) (h:Heap):Prop:=h.SetOf (strKind P w) a S n
abbrev wQ (P:Program) (w:World) (a:Addr) (S:Str->Bool) (n:Nat):HO:=.ext (zkx P w a S n)
theorem zaG {P:Program} {w:World} {H:Hp} {h:Heap} {a:Addr} {S:Str->Bool} {n:Nat} (e:h.SetOf (strKind P w) a S n):yy P w H h a (wQ P w a S n):=
 ⟨e,let ⟨o,_,_,_,h1,_⟩:=e; ⟨o,h1⟩,fun g1 g2 q k=>let ⟨o,es,ep,t,h1,c⟩:=q; ⟨o,es,ep,t,k o h1,c⟩⟩
section
variable {X:Cx}
theorem zeA:xk X (.type "set") (fun xs H Q=>xs = []/\∀ p,H p = none->Q (.ref p) (upd H p (wQ X.prog X.w p (fun _=>false) 0))):=by
 intro pins s σ H xs us Q I r h
 obtain ⟨rfl,q⟩:=h
 cases r
 refine call_set_0 fun led=>?_
 have hf:H s.heap.objs.size = none:=I.hok.fresh (Nat.le_refl _)
 refine ⟨.ref s.heap.objs.size,_,I.laid (t':=s.toks) (fun b u e=>Heap.get?_push_of_some _ e) (Nat.le_refl _) (zaG ?_),rfl,q _ hf⟩
 exact (setObjOf_fresh led).setOf (Heap.get?_push_size _ rfl) (by decide)
theorem jT:OpR X (compareOp .In) (fun x y H Q=>∃ (a:Addr) (S:Str->Bool) (n:Nat) (z:Str),x = .str z/\y = .ref a/\H a = some (wQ X.prog X.w a S n)/\Q (.bl (S z)) H):=by
 intro pins s σ H x y v u Q I rx ry h
 obtain ⟨a,S,n,z,rfl,rfl,e,q⟩:=h
 obtain ⟨t,rfl⟩:=rx
 cases ry
 have hS:s.heap.SetOf (strKind X.prog X.w) a S n:=(I.hok a _ e).1
 exact wpAny_inSet_of (strKind_is X.prog X.w z t) rfl hS ⟨.bl (S z),H,I.tok _,rfl,q⟩
def ziZ (P:Program) (w:World) (to te:TE):TE:=fun σ H Q=>to σ H fun x H1=>∃ (a:Addr) (S:Str->Bool) (n:Nat),x = .ref a/\H1 a = some (wQ P w a S n)/\te σ H1 fun y H2=>∃ (S:Str->Bool) (n:Nat) (z:Str),y = .str z/\H2 a = some (wQ P w a S n)/\n + 1 < scanBound/\
 Q .non (upd H2 a (wQ P w a (fun k=>S k || decide (k = z)) (if S z then n else n + 1)))
theorem zgJ {o e:Expr} {apos cpos:Pos} {to te:TE} (ho:PE X o to) (he:PE X e te) (m:M1 X o "add" apos e cpos):PE X (.Call (.Attribute o "add" apos) [e] [] cpos) (ziZ X.prog X.w to te):=by
 refine ⟨?_⟩
 intro pins s σ H Q I h
 refine wpAny_Call_method m.base m.few m.line PySem.F.plainAttrs_set PySem.F.slot_set_add PySem.F.type_set_add (thn (ho pins s σ H _ I h) fun u s1 ⟨x,H1,I1,rx,a,S,n,ex,d,q1⟩=>?_)
 subst ex
 obtain rfl:u = Value.ref a:=rx
 have hS:s1.heap.SetOf (strKind X.prog X.w) a S n:=(I1.hok a _ d).1
 refine ⟨hS.typeIs,hS.noDict,?_⟩
 rw [m.trees]
 refine Calls.callWith_builtin rfl (Calls.evalArgs_plain (Calls.spliced_cons (thn (he pins s1 σ H1 _ I1 q1) fun iv s2 ⟨y,H2,I2,ry,S2,n2,z,ey,e2,hn,q2⟩=>Calls.spliced_nil ?_)))
 subst ey
 obtain ⟨t,rfl⟩:=ry
 have hS2:s2.heap.SetOf (strKind X.prog X.w) a S2 n2:=(I2.hok a _ e2).1
 refine call_set_add (strKind_is X.prog X.w z t) rfl hS2 hn fun h' hs hS3=>⟨.non,_,?_,rfl,q2⟩
 refine I2.write (x:=a) (e:=a) (by rw [e2]; exact True.intro) (.inl rfl) (fun b q hb z=>(hs.2 b hb).trans z) (let ⟨o,_,_,_,h1,_⟩:=hS3; ⟨o,h1⟩) (zaG hS3)
def zhK (Cs:Addr->Prop) (m:Str) (sp:Sp) (E:XK) (ta:TE):TE:=fun σ H Q=>ta σ H fun x H1=>∃ a C dx fs,x = .ref a/\Cs C/\H1 a = some (.ins C dx fs)/\fs.lookup m = none/\sp [x] H1 Q E
theorem ui {CX:CXT} {k:Nat} {f:Addr} {fd:FuncData} {ps:List Str} {sp:Sp} {E:XK} {m:Str} {pos apos:Pos} {o:Expr} {ta:TE} {Cs:Addr->Prop} {pl:Sem Bool} (he:PE X o ta) (hC:∀ C,Cs C->Cls X.K C/\y6 X.K C m f) (F:zC X.prog X.w X.K X.mg X.base CX k f fd ps sp) (hr:ya k X.A) (hb:zS X.K fd ps []) (hx:xz CX X E)
  (ht:eval (.Call (.Attribute o m apos) [] [] pos) X.env = (do
   let ov <- eval o X.env
   standAt apos.atName
   let (f,first) <- holding [ov] (getMethod ov m pl)
   callWith pos f first (backTo pos (starEach [] X.env)) (backToKw pos (keywordEach [] X.env))):=by rfl) :
  PE X (.Call (.Attribute o m apos) [] [] pos) (zhK Cs m sp E ta):=by
 refine ⟨?_⟩
 intro pins s σ H Q I h
 refine methodCall_KW (pl:=pl) (thn (he pins s σ H _ I h) fun u s1 ⟨x,H1,I1,rx,a,C,dx,fs,ex,hc,ea,l,q⟩=>?_) ht
 subst ex
 obtain rfl:u = Value.ref a:=rx
 obtain ⟨c,hm⟩:=hC C hc
 refine wN I1 ea c hm l ?_
 exact PySem.W.callWith_K0 (first:=[.ref a]) I1.kIn hm.kp (jP (us:=[.ref a]) (vs:=[.ref a]) F hr hb .nil hx I1 (.cons rfl .nil) q)
structure ziR (w:World) (K:Frag) (a:Addr) (f:Str->Option V):Prop where
 obj:∃ es n,K.lookup a = some ⟨.type "dict",none,.dict es n,#[]⟩/\KeysLit w.params es.toList
 vals:∀ x v,f x = some v->∃ u,nsIn K a x = some (some u)/\zO v u
theorem zgK {e:Expr} {d:Str} {p pos:Pos} {a:Addr} {f:Str->Option V} {te:TE} (T:ziR X.w X.K a f) (hm:X.mg d = some (.ref a)) (he:PE X e te) (hg:Gl X d:=by rfl) (hs:ziQ e:=by first | exact fun _ _=>rfl | decide | rfl) (hdb:(d == ("__debug__" : Str)) = false:=by decide) :
  PE X (.Subscript (.Name d p) e pos) (fun σ H Q=>te σ H fun y H1=>∃ x v,y = .str x/\f x = some v/\Q v H1):=by
 refine ⟨?_⟩
 intro pins s σ H Q I h
 obtain ⟨es,n,hl,hk⟩:=T.obj
 refine zc1 PySem.F.slot_dict_getitem.lookup hs (vC I hg hm (thn (he pins s σ H _ I h) fun iv s2 ⟨y,H2,I2,ry,x,v,ey,ef,q2⟩=>?_) hdb)
 subst ey
 obtain ⟨t,rfl⟩:=ry
 obtain ⟨u,eu,ru⟩:=T.vals x v ef
 have hmap:=PySem.W.mapOf_K (prog:=X.prog) (w:=X.w) I2.kIn hl hk
 exact ⟨hmap.typeIs,wpAny_getItem_of (strKind_is X.prog X.w x t) hmap (PySem.W.find_K hl eu) ⟨v,H2,I2.tok _,ru,q2⟩⟩
end
section
variable {X:Cx} {pins:List (Addr × Obj)} {σ : St} {H:Hp} {s:Shared} {sc:Scope} {fr Nc:List Str} {fp:List Addr} {C:Addr}
theorem zbV {caps:List (Option Nat)} {h':Heap} {D:Addr} {m:Str->Option Value} {t':Nat} {o0:HO} (I:Inv X pins σ H s) (B:yQ X.env sc fr) (hf:∀ b ∈ fp,vk X pins H b) (ho:∀ b ∈ fp,∃ o,s.heap.get? b = some o)
  (hC:s.heap.objs.size<=C) (hD:s.heap.objs.size<=D) (hDC:D ≠ C) (keep:∀ b o,s.heap.get? b = some o->h'.get? b = some o) (new:yy X.prog X.w (upd H D o0) h' D o0) (hn:h'.Ns C m)
  (hcap:vZ X.N Nc caps X.env sc fr = true) (hlen:caps.length = Nc.length) :
  Inv (zN X pins sc fr Nc fp s H C) [] (yX caps σ) (upd H D o0) { s with heap:=h',toks:=t' }:=by
 have hk:X.env.scope.kind = .function:=I.ok.kind
 have fresh:∀ a,s.heap.objs.size<=a->H a = none:=fun a ha=>I.hok.fresh ha
 refine ⟨zdG I B hf ho hC,rfl,I.bare,Un.laid keep hD (fresh D hD),⟨m,hn,fun i x v e1 e2 e3=>?_⟩,fun x c h=>?_,?_,fun x c h=>?_,fun p hp=>?_,?_,?_⟩
 ·
  have e2':(caps[i]?).map (fun o=>match o with | none=>none | some j=>(σ[j]?).join) = some (some v):=by
   have:(yX caps σ)[i]? = some (some v):=e2
   unfold yX at this
   rw [List.getElem?_map] at this
   exact this
  cases hc:caps[i]? with
  | none=>rw [hc] at e2'; cases e2'
  | some o=>
   rw [hc] at e2'
   cases o with
   | none=>simp at e2'
   | some j=>
    have e4:(σ[j]?).join = some v:=by simpa using e2'
    have e5 : σ[j]? = some (some v):=by
     cases q : σ[j]? with
     | none=>rw [q] at e4; cases e4
     | some w'=>rw [q] at e4; simp at e4; rw [e4]
    have e6:(Nc.zip caps)[i]? = some (x,some j):=by
     rw [List.getElem?_zip_eq_some]
     exact ⟨e1,hc⟩
    have e7:=List.all_eq_true.mp hcap _ (List.mem_of_getElem? e6)
    simp only [Bool.and_eq_true,beq_iff_eq,List.contains_iff_mem] at e7
    obtain ⟨⟨⟨a1,a2⟩,a3⟩,a4⟩:=e7
    obtain ⟨m0,hn0,hl0⟩:=I.loc
    obtain ⟨u,r,l⟩:=hl0 j x v a1 e5 (.inr (.inl a2))
    refine ⟨u,r,.inr ⟨.inl (wE hk a3 a2),_,za0 a4,?_⟩⟩
    rcases l with ⟨z,_⟩ | ⟨_,c,ec,hcell⟩
    ·rw [a2] at z; cases z
    ·have:(X.env.cells.lookup x).getD 0 = c:=by rw [ec]; rfl
     rw [this]
     exact hcell.keeps keep
 ·obtain ⟨v,hv⟩:=I.cell x c (B.sub h)
  exact ⟨v,hv.keeps keep⟩
 ·show upd H D o0 C = none
  rw [zi (Ne.symm hDC)]; exact fresh C hC
 ·obtain ⟨v,hv⟩:=I.cell x c (B.sub h)
  have:c ≠ D:=fun z=>by have:=hv.lt; rw [z] at this; exact absurd (Nat.lt_of_lt_of_le this hD) (Nat.lt_irrefl _)
  rw [zi this]; exact I.freeC x c (B.sub h)
 ·have hp':p ∈ X.pn ++ pins:=by simpa using hp
  obtain ⟨e,n,ne,nf,d⟩:=I.pin p hp'
  have hlt:=I.pin_lt hp'
  refine ⟨keep _ _ e,?_,?_,fun z=>?_,d⟩
  ·rw [zi (fun z=>by rw [z] at hlt; exact absurd (Nat.lt_of_lt_of_le hlt hD) (Nat.lt_irrefl _))]; exact n
  ·intro z
   have z':p.1 = C:=z
   rw [z'] at hlt; exact absurd (Nat.lt_of_lt_of_le hlt hC) (Nat.lt_irrefl _)
  ·rcases List.mem_cons.mp (I.stkSub p.1 z) with q | q
   ·exact ne q
   ·exact nf q
 ·exact I.hok.laid keep hD new
 ·show (yX caps σ).length = Nc.length
  unfold yX
  rw [List.length_map,hlen]
end
section
variable {prog:Program} {w:World} {A:Around} {R:Result->Shared->Prop} {s:Shared}
theorem qw {kx vx target iter:Expr} {ifs:List Expr} {scope:Scope} {pos:Pos} {it:Value} {D:Addr} {env:Env} (I:Nat->Shared->Prop)
  (turn:∀ n s,I n s->wpAny (model prog w) A (pyNext it) (fun r s₁=>match r with
   | none=>R (.ok .next) s₁
   | some v=>wpAny (model prog w) A (letOwnedTupleGo target it v) (fun _ s₀=>wpAny (model prog w) A (assign target env v) (fun _ s₂=>
     wpAny (model prog w) A (forIn ifs true fun c r=>if r = true then do let ok <- isTrue c env (eval c env); pure (ForInStep.yield ok) else pure (ForInStep.yield r)) (fun ok s₃=>
      if ok = true then wpAny (model prog w) A (eval kx env) (fun kv s₄=>wpAny (model prog w) A (eval vx env) (fun vv s₅=>
       wpAny (model prog w) A (dictSet D kv vv) (fun _ s₆=>∃ m,m < n/\I m s₆) (fun _ _=>False) s₅) (fun _ _=>False) s₄) (fun _ _=>False) s₃
      else ∃ m,m < n/\I m s₃) (fun _ _=>False) s₂) (fun _ _=>False) s₀) (fun _ _=>False) s₁) (fun _ _=>False) s)
  (n:Nat) (h:I n s) :
  codeAny (model prog w) A (.compLoop (.DictComp kx vx [⟨target,iter,ifs,0⟩] scope pos) 0 it (.ref D) env) R s:=by
 refine codeAny_loop rfl I (fun n s hI=>?_) n h
 show wpAny _ A ((compTurn (.DictComp kx vx [⟨target,iter,ifs,0⟩] scope pos) 0 it (.ref D) env).onRaise (fun x=>do noteFrame x env; theTreesLotGoes x)) _ _ s
 refine wpAny_noted ?_
 rw [compTurn_dict]
 refine wpAny_bind (wpAny_standAt (wpAny_bind (wpAny_mono (turn n s hI) (fun r s₁ h₁=>?_) fun _ _ z=>z.elim)))
 cases r with
 | none=>exact wpAny_pure h₁
 | some v=>
  refine wpAny_bind (wpAny_mono h₁ (fun _ s₀ h₀=>?_) fun _ _ z=>z.elim)
  refine wpAny_bind (wpAny_mono h₀ (fun _ s₂ h₂=>wpAny_bind (wpAny_mono h₂ (fun ok s₃ h₃=>?_) fun _ _ z=>z.elim)) fun _ _ z=>z.elim)
  cases ok with
  | false=>exact wpAny_pure ⟨rfl,h₃⟩
  | true=>
   exact wpAny_bind (wpAny_bind (wpAny_mono h₃ (fun kv s₄ h₄=>wpAny_bind (wpAny_holding (wpAny_mono h₄ (fun vv s₅ h₅=>wpAny_bind (wpAny_standAt (wpAny_holding (wpAny_mono h₅ (fun _ s₆ h₆=>wpAny_pure ⟨rfl,h₆⟩) fun _ _ z=>z.elim)))) fun _ _ z=>z.elim))) fun _ _ z=>z.elim))
end
def DCr (J:It) (caps:List (Option Nat)) (g:TG) (tt:TT) (tk tv:TE) (σ : St) (H1:Hp) (Q:VK) (D:Addr):Prop:=
 ∃ W:Nat->Nat->List (Key × V)->Hp->Prop,(∃ m,W 0 m [] (upd H1 D (.dK [])))/\∀ i m ys H,W i m ys H->
  (J.stop i H/\Q (.ref D) H)\/
  (J.go i H/\∀ x H',J.yld i H x H'->g x (yX caps σ) H' fun σ2 H2=>tt σ2 H2 fun ok H3=>
   (ok = true->tk σ2 H3 fun y H4=>tv σ2 H4 fun v H5=>∃ k,y = kV k/\H5 D = some (.dK ys)/\ys.length < sizeLine/\∃ m',m' < m/\W (i + 1) m' (yr ys k v) (upd H5 D (.dK (yr ys k v))))/\
   (ok = false->∃ m',m' < m/\W (i + 1) m' ys H3))
def tDC (wi:TI) (caps:List (Option Nat)) (g:TG) (tt:TT) (tk tv:TE):TE:=fun σ H Q=>wi σ H fun J H1=>∀ D,H1 D = none->DCr J caps g tt tk tv σ H1 Q D
section
variable {X:Cx} {pins:List (Addr × Obj)} {σ : St} {s:Shared} {sc:Scope} {fr Nc:List Str} {caps:List (Option Nat)} {kx vx tg iter:Expr} {ifs:List Expr} {g:TG} {tt:TT} {tk tv:TE} {ow:List Nat} {pos pos2:Pos} {E:Value->Shared->Prop}
theorem zi8 {H:Hp} (I:Inv X pins σ H s):sysModules < s.heap.objs.size:=I.big
theorem zey {H2:Hp} {it:Addr} {fp:List Addr} {tn:Nat->Heap->Prop} {J:It} {Q:VK} {RR:Value->Addr->Result->Shared->Prop}
  (hc:X.calm = true) (B:yQ X.env sc fr) (go:zcS g ow) (how:(ow.all fun i=>caps[i]? == some none) = true) (hcap:vZ X.N Nc caps X.env sc fr = true) (hlen:caps.length = Nc.length)
  (hb:∀ (pins:List (Addr × Obj)) (fp:List Addr) (s:Shared) (H:Hp) (C:Addr),PG (zN X pins sc fr Nc fp s H C) tg g/\PIf (zN X pins sc fr Nc fp s H C) ifs tt/\PE (zN X pins sc fr Nc fp s H C) kx tk/\PE (zN X pins sc fr Nc fp s H C) vx tv)
  (I2:Inv X pins σ H2 s) (T:za3 X.prog X.w X.K tg J fp it tn) (st2:tn 0 s.heap) (f2:∀ b ∈ fp,vk X pins H2 b) (h:∀ D,H2 D = none->DCr J caps g tt tk tv σ H2 Q D)
  (fin:∀ (D C:Addr) (σ':St) (H':Hp) (s':Shared),Inv (zN X pins sc fr Nc fp s H2 C) [] σ' H' s'->Q (.ref D) H'->RR (.ref D) C (.ok .next) s') :
  wpAny (model X.prog X.w) X.A newDict (fun acc s₃=>wpAny (model X.prog X.w) X.A (newFunctionEnv sc X.env.globals (clB X.env fr) [] X.env.qual none .none (some X.env)) (fun cenv s₄=>
   codeAny (model X.prog X.w) X.A (.compStart (.DictComp kx vx [⟨tg,iter,ifs,0⟩] sc pos) 0 (.ref it) acc { cenv with scope:=relabel sc X.env }) (RR acc cenv.locals) s₄) E s₃) E s:=by
 have hcell:∀ y ∈ sc.names,y.2 ≠ .cell:=fun y hy=>by
  have h3:=List.all_eq_true.mp B.names _ hy
  simp only [Bool.and_eq_true,bne_iff_ne,ne_eq] at h3
  exact h3.1.1
 refine wpAny_newObj_type (wpAny_newFunctionEnv hcell (by intro y hy; simp at hy) (fun h₁ hns₁ hsb₁=>?_) B.kind)
 dsimp only at hns₁ hsb₁ |-
 have hnew:(s.heap.push { cls:=.type "dict",dict:=none,data:=.dict #[] }).DictOf (zZ X.prog X.w) s.heap.objs.size []:=Heap.DictOf.new s.heap
 generalize hH2:s.heap.push { cls:=.type "dict",dict:=none,data:=.dict #[] } = H3 at hns₁ hsb₁ hnew |-
 have hCs:H3.objs.size = s.heap.objs.size + 1:=by rw [<- hH2,Heap.size_push]
 have hDC:s.heap.objs.size ≠ H3.objs.size:=by rw [hCs]; exact Nat.ne_of_lt (Nat.lt_succ_self _)
 have hC:s.heap.objs.size<=H3.objs.size:=by rw [hCs]; exact Nat.le_succ _
 have old:∀ b o,s.heap.get? b = some o->h₁.get? b = some o:=fun b o e=>
  hsb₁.extBut b o (Nat.ne_of_lt (Nat.lt_of_lt_of_le (Heap.lt_size e) hC)) (Heap.get?_push_of_some _ (hH2 ▸ Heap.get?_push_of_some _ e))
 have hsm:sysModules < s.heap.objs.size:=zi8 I2
 have hD:h₁.DictOf (zZ X.prog X.w) s.heap.objs.size []:=hnew.at fun o e=>hsb₁.extBut _ _ hDC (Heap.get?_push_of_some _ e)
 have hDo:∀ H',yy X.prog X.w H' h₁ s.heap.objs.size (.dK []):=fun _=>⟨Nat.zero_le _,beq_eq_false_iff_ne.mpr (Ne.symm (Nat.ne_of_lt hsm)),[],.nil,hD⟩
 have ho:∀ b ∈ fp,∃ o,s.heap.get? b = some o:=fun b hb'=>let ⟨o,e,_⟩:=T.obj 0 _ st2 b hb'; ⟨o,e⟩
 have I4:∀ t',Inv (zN X pins sc fr Nc fp s H2 H3.objs.size) [] (yX caps σ) (upd H2 s.heap.objs.size (.dK [])) { s with heap:=h₁,toks:=t' }:=fun t'=>
  zbV I2 B f2 ho hC (Nat.le_refl _) hDC old (hDo _) hns₁ hcap hlen
 have ok:=(I4 0).ok
 obtain ⟨hbg,hbt,hbk,hbv⟩:=hb pins fp s H2 H3.objs.size
 obtain ⟨W,⟨m0,w0⟩,turn⟩:=h s.heap.objs.size (I2.hok.fresh (Nat.le_refl _))
 have stat:∀ {H':Hp},(∀ b ∈ fp,H' b = none)->∀ b ∈ fp,vk (zN X pins sc fr Nc fp s H2 H3.objs.size) [] H' b:=fun hn b hb'=>
  ⟨hn b hb',(ok.exf b hb').1,ok.exfs b hb',.inl hb',(ok.exf b hb').2,fun p hp=>(f2 b hb').2.2.2.2.2 p (by simpa using hp)⟩
 have hfp0:∀ b ∈ fp,upd H2 s.heap.objs.size (.dK []) b = none:=fun b hb'=>by
  obtain ⟨o,e⟩:=ho b hb'
  rw [zi (Nat.ne_of_lt (Heap.lt_size e))]
  exact (f2 b hb').1
 have loop:∀ s₃:Shared,s₃ = { s with heap:=h₁,toks:=s.toks + ([]:List (Str × Value)).length }->
   codeAny (model X.prog X.w) X.A (.compLoop (.DictComp kx vx [⟨tg,iter,ifs,0⟩] sc pos) 0 (.ref it) (.ref s.heap.objs.size) (compEnvC sc (clB X.env fr) H3.objs.size X.env)) (RR (.ref s.heap.objs.size) H3.objs.size) s₃:=by
  rintro s₃ rfl
  refine qw (fun n s'=>∃ i σ' H' ys,Inv (zN X pins sc fr Nc fp s H2 H3.objs.size) [] σ' H' s'/\tn i s'.heap/\(∀ b ∈ fp,H' b = none)/\W i n ys H'/\
   (∀ (k:Nat) (v:V),(yX caps σ)[k]? = some (some v)->σ'[k]? = some (some v))) ?_ m0
   ⟨0,_,_,[],I4 _,T.keep _ _ _ st2 (fun b _ o e=>old b o e),hfp0,w0,fun _ _ e=>e⟩
  rintro n s3 ⟨i,σ3,H4,ys,I3,st3,fr3,w3,wk3⟩
  have I3':Inv (zN X pins sc fr Nc fp s H2 H3.objs.size) [] (yX caps σ) H4 s3:=I3.weak (by rw [I3.len]; exact (I4 0).len) wk3
  rcases turn i n ys H4 w3 with ⟨stop,qn⟩ | ⟨gg,step⟩
  ·refine thn (T.done (zN X pins sc fr Nc fp s H2 H3.objs.size) rfl rfl rfl hc i [] s3 _ H4 (fun _ _=>False) I3' (stat fr3) st3 stop) fun r s4 ⟨hr,I4'⟩=>?_
   subst hr
   exact fin _ _ _ _ _ I4' qn
  ·refine thn (T.item (zN X pins sc fr Nc fp s H2 H3.objs.size) rfl rfl rfl hc i [] s3 _ H4 (fun _ _=>False) I3' (stat fr3) st3 gg) fun r s4 ⟨u,hr,h4⟩=>?_
   subst hr
   refine thn h4 fun _ s5 ⟨x,H5,I5,r5,y5,st5,fr5⟩=>?_
   have I5':=I5.pinned (stat fr5) (T.obj _ _ st5)
   refine thn (hbg _ s5 _ H5 x u _ I5' r5 (go _ _ _ _ (step x H5 y5))) fun _ s6 ⟨σ6,H6,I6,q6,l6,k6⟩=>?_
   have wk6:∀ (k:Nat) (v:V),(yX caps σ)[k]? = some (some v)->σ6[k]? = some (some v):=fun k v e=>by
    rw [k6 k fun hk=>?_]
    ·exact e
    ·have h1:=List.all_eq_true.mp how k hk
     have h2:caps[k]? = some none:=by simpa using h1
     unfold yX at e
     rw [List.getElem?_map,h2] at e
     cases e
   refine thn (hbt _ s6 σ6 H6 _ I6 q6) fun ok s7 ⟨H7,I7,q7⟩=>?_
   have again:∀ {H8:Hp} {s8:Shared} {ys':List (Key × V)},Inv (zN X pins sc fr Nc fp s H2 H3.objs.size) ([] ++ u7 fp s5.heap) σ6 H8 s8->(∃ m',m' < n/\W (i + 1) m' ys' H8)->
     ∃ m,m < n/\∃ i σ' H' ys,Inv (zN X pins sc fr Nc fp s H2 H3.objs.size) [] σ' H' s8/\tn i s8.heap/\(∀ b ∈ fp,H' b = none)/\W i m ys H'/\(∀ (k:Nat) (v:V),(yX caps σ)[k]? = some (some v)->σ'[k]? = some (some v)):=fun {H8 s8 ys'} I8 ⟨m',hm,w8⟩=>by
    refine ⟨m',hm,i + 1,σ6,H8,ys',I8.unpinned,T.keep _ _ _ st5 fun b hb' o e=>(I8.pin (b,o) (List.mem_append_right _ (List.mem_append_right _ (xy hb' e)))).1,fun b hb'=>?_,w8,wk6⟩
    obtain ⟨o,e,d⟩:=T.obj _ _ st5 b hb'
    exact (I8.pin (b,o) (List.mem_append_right _ (List.mem_append_right _ (xy hb' e)))).2.1
   cases ok with
   | false=>
    rw [if_neg Bool.false_ne_true]
    exact again I7 (q7.2 rfl)
   | true=>
    rw [if_pos rfl]
    refine thn (hbk _ s7 σ6 H7 _ I7 (q7.1 rfl)) fun uk s8 ⟨y,H8,I8,r8,q8⟩=>?_
    refine thn (hbv _ s8 σ6 H8 _ I8 q8) fun uv s9 ⟨v,H9,I9,r9,k,ey,hD9,hz,q9⟩=>?_
    subst ey
    obtain ⟨z,hd,vs,rel,dd⟩:=zga I9.hok hD9
    have hzs:vs.length<=sizeLine:=by rw [<- rel.length]; exact z
    have hl:(yr ys k v).length<=sizeLine:=by have:=xi ys k v; omega
    refine wpAny_dictSet_pairs (hsz:=hzs) (jm r8) dd fun h' dd' hs=>?_
    have he:∃ q,h'.get? s.heap.objs.size = some q:=let ⟨q,_,_,hq,_⟩:=dd'; ⟨q,hq⟩
    exact again (jI I9 (by rw [hD9]; exact True.intro) hs he (zcO hl hd (rel.put k r9) dd')) q9
 exact codeAny_compStart_dict (loop _ rfl) (T.self _ 0 _ _ _ (T.keep _ _ _ st2 (fun b _ o e=>old b o e)) (loop _ rfl))
theorem zjh {wi:TI} (fr Nc:List Str) (caps:List (Option Nat)) (hc:X.calm = true) (B:yQ X.env sc fr) (hi:PI X tg iter wi) (go:zcS g ow) (how:(ow.all fun i=>caps[i]? == some none) = true)
  (hcap:vZ X.N Nc caps X.env sc fr = true) (hlen:caps.length = Nc.length)
  (hb:∀ (pins:List (Addr × Obj)) (fp:List Addr) (s:Shared) (H:Hp) (C:Addr),PG (zN X pins sc fr Nc fp s H C) tg g/\PIf (zN X pins sc fr Nc fp s H C) ifs tt/\PE (zN X pins sc fr Nc fp s H C) kx tk/\PE (zN X pins sc fr Nc fp s H C) vx tv)
  (hs:∀ x,foldedSetIterable iter X.env x = pure x:=by intro _; rfl):PE X (.DictComp kx vx [⟨tg,iter,ifs,0⟩] sc pos) (tDC wi caps g tt tk tv):=by
 refine ⟨?_⟩
 intro pins s σ H Q I h
 rw [arm_eval_DictComp]
 refine wpAny_comprehension_free (use:=none) rfl hs B.clos B.kind B.loc (thn (hi pins s σ H _ I h) fun v s1 h1=>thn h1 fun itv s2 h2=>?_)
 obtain ⟨it,fp,tn,J,H2,e,I2,T,st2,f2,q⟩:=h2
 subst e
 refine zey (RR:=fun acc C=>compPost (model X.prog X.w) X.A X.xe none (EP X pins σ Q) acc C) hc B go how hcap hlen hb I2 T st2 f2 q ?_
 intro D C σ' H' s' J' qq
 obtain ⟨m,hn,_⟩:=J'.loc
 exact ⟨m,hn,fun h' hs'=>⟨.ref D,H',zah I2 J' (jg I2 f2 J') hs',rfl,qq⟩⟩
end
def eqT (xs ys:List V):Bool:=((List.range (min xs.length ys.length)).all fun j=>eqV (xs[j]?.getD .non) (ys[j]?.getD .non)) && xs.length == ys.length
end L2
namespace K25
open PySem L2 PyProof.Rows
def top (i:Nat):Stmt:=PySem.Challenge.pw_callbinds_k25_whole_mended_calls.main.body.getD i (.Pass ⟨0,0,0,0⟩)
abbrev uR:Stmt:=yk (top 47) 0
abbrev qM:Stmt:=yk (top 47) 1
abbrev wv:Stmt:=yk (top 47) 2
abbrev vz:Stmt:=yk (top 47) 3
abbrev zaL:Stmt:=yk (top 47) 4
abbrev zdb:Stmt:=yk (top 47) 5
abbrev qE:Stmt:=yk (top 48) 0
abbrev qU:Stmt:=yk (top 49) 0
abbrev qD:Stmt:=yk (top 50) 0
abbrev zdR:Stmt:=yk (top 51) 0
abbrev zdV:Stmt:=yk (top 52) 0
abbrev uY:Stmt:=yk (top 37) 0
abbrev qL:Stmt:=yk (top 37) 1
abbrev uX:Stmt:=yk (top 37) 2
abbrev uZ:Stmt:=yk (top 37) 3
abbrev wt:Stmt:=yk (top 37) 4
abbrev uW:Stmt:=yk (top 37) 5
abbrev qR:Stmt:=yk (top 37) 6
abbrev qQ:Stmt:=yk (top 37) 7
abbrev sIs:Stmt:=top 31
abbrev zdS:Stmt:=top 53
abbrev uO:Stmt:=top 38
abbrev vt:Stmt:=top 39
abbrev uP:Stmt:=top 40
abbrev vq:Stmt:=top 41
abbrev qH:Stmt:=top 42
abbrev qJ:Stmt:=top 1
abbrev wq:Stmt:=top 16
abbrev qP:Stmt:=top 17
abbrev uM:Stmt:=top 19
abbrev vy:Stmt:=top 20
abbrev zdU:Stmt:=top 21
abbrev uS:Stmt:=top 22
abbrev zdQ:Stmt:=top 23
abbrev qK:Stmt:=top 24
abbrev qG:Stmt:=top 26
abbrev jw:Stmt:=top 27
abbrev uQ:Stmt:=top 18
abbrev u0:Stmt:=top 25
abbrev qT:Stmt:=top 55
abbrev zdT:Stmt:=top 56
abbrev qF:Stmt:=top 57
abbrev qO:Stmt:=top 58
abbrev uT:Stmt:=top 59
abbrev uL:Stmt:=top 60
abbrev uU:Stmt:=top 61
abbrev zdW:Stmt:=top 62
abbrev u5:Stmt:=top 63
abbrev ww:Stmt:=top 64
abbrev wx:Stmt:=top 65
abbrev wy:Stmt:=top 66
abbrev vw:Stmt:=top 67
abbrev qI:Stmt:=top 68
abbrev uV:Stmt:=top 69
abbrev wu:Stmt:=top 70
abbrev wp:Stmt:=top 71
abbrev uN:Stmt:=top 72
abbrev zaM:Stmt:=top 73
def low (c:Nat):Bool:=decide (97<=c) && decide (c<=122)
def xh (z:Str):Bool:=decide (1<=z.length) && decide (z.length<=8) && z.cps.toList.all low
def nmV:V->Bool
 | .str z=>xh z
 | _=>false
def OkS (z:Str):Prop:=z.length<=1000/\∀ c ∈ z.cps.toList,c < 128
def OkV (K:Frag) (H:Hp) (x:V):Prop:=(∃ z,x = .str z/\OkS z)\/(nmV x = false/\∃ t,vL K H x t/\kitOne K t (.type "str") = some false)
theorem jb {z:Str}:xh z = true ↔ 1<=z.length/\z.length<=8/\∀ c ∈ z.cps.toList,97<=c/\c<=122:=by
 unfold xh low
 simp only [Bool.and_eq_true,decide_eq_true_eq,List.all_eq_true]
 constructor
 ·rintro ⟨⟨a,b⟩,c⟩; exact ⟨a,b,c⟩
 ·rintro ⟨a,b,c⟩; exact ⟨⟨a,b⟩,c⟩
theorem jY {z:Str} (h:z.length = 0\/9<=z.length):xh z = false:=by
 cases e:xh z with
 | false=>rfl
 | true=>
  have:=jb.mp e
  omega
theorem zbA {z:Str} (h:xh z = true):OkS z:=by
 obtain ⟨_,h2,h3⟩:=jb.mp h
 exact ⟨by omega,fun c hc=>by have:=h3 c hc; omega⟩
def letters:Str:="abcdefghijklmnopqrstuvwxyz"
theorem zcx:∀ k:Nat,k < 26->letters.cps.toList[k]? = some (97 + k):=by decide +kernel
theorem zbE:letters.length = 26:=by decide +kernel
theorem zcw:∀ c:Nat,c < 128->(!(Builtin.Str.occurrences letters ⟨#[c]⟩ 0 letters.length 1).isEmpty) = low c:=by decide +kernel
theorem zc {H:Hp} {p:Addr} (h:H p = none) (o:HO):zm H (upd H p o):=fun b u q=>by rw [zi (zf q h)]; exact q
theorem zdJ {K:Frag} {H H':Hp} {x:V} {t:Value} (s:zm H H') (h:vL K H x t):vL K H' x t:=by
 cases h with
 | non=>exact .non
 | bl b=>exact .bl b
 | int i=>exact .int i
 | str z=>exact .str z
 | flt z=>exact .flt z
 | lst e=>exact .lst (s _ _ e)
 | frz e=>exact .frz (s _ _ e)
 | tup e=>exact .tup (s _ _ e)
 | dK e=>exact .dK (s _ _ e)
 | dT e=>exact .dT (s _ _ e)
 | ins e a b c d f=>exact .ins (s _ _ e) a b c d f
theorem OkV.same {K:Frag} {H H':Hp} {x:V} (s:zm H H') (h:OkV K H x):OkV K H' x:=by
 rcases h with h | ⟨h,t,ty,e⟩
 ·exact .inl h
 ·exact .inr ⟨h,t,zdJ s ty,e⟩
theorem nd1:([Str.ofString "sign"]:List Str).Nodup:=by decide +kernel
def zgs (K:Frag):Sp:=fun vs H Q _=>∃ x,vs = [x]/\OkV K H x/\∀ H',zm H H'->Q (.bl (nmV x)) H'
structure zjJ (K:Frag) (mg:Str->Option Value):Prop where
 isi:mg "isinstance" = none
 str:mg "str" = none
 bool:mg "bool" = none
 len:mg "len" = none
 all:mg "all" = none
 range:mg "range" = none
 letters:∃ t,mg "LETTERS" = some (.str letters t)
 longest:∃ t,mg "LONGEST" = some (.int 8 t)
 kNon:kitOne K (.type "NoneType") (.type "str") = some false
 kInt:kitOne K (.type "int") (.type "str") = some false
 kBl:kitOne K (.type "bool") (.type "str") = some false
 kLst:kitOne K (.type "list") (.type "str") = some false
 kTup:kitOne K (.type "tuple") (.type "str") = some false
 kDct:kitOne K (.type "dict") (.type "str") = some false
 kStr:kitOne K (.type "str") (.type "str") = some true
 bBl:kitOne K (.type "bool") (.type "bool") = some true
section
variable {P:Program} {w:World} {K:Frag} {mg:Str->Option Value} {base:Heap} {f:Addr} {fd:FuncData}
theorem zjZ:zu ["thing"] ["thing"] (ze sIs):=⟨rfl,rfl,rfl,by decide +kernel,rfl,by decide +kernel,by decide +kernel⟩
theorem zjm (F:Fun K "is_name" "is_name" sIs f fd) (T:zjJ K mg):zC P w K mg base CX0 1 f fd ["thing"] (zgs K):=by
 refine F.ok zjZ (fun vs H Q E h=>?_) (fun cdv A outer s H vs Q E hr h=>?_)
 ·obtain ⟨x,rfl,_⟩:=h
  rfl
 obtain ⟨x,rfl,hx,q⟩:=h
 obtain ⟨tL,hL⟩:=T.letters
 obtain ⟨tN,hN⟩:=T.longest
 refine ⟨_,zd (zJ (PW.pt (zeV (wY (xF (cB zb1 T.isi boot_isinstance (ac (pv 0) (ac (zgM (v:=.ty "str") rfl T.str PyProof.Rows.boot_str rfl) zb)))))
   (zci (wY (zeX zfh zfh zg (cB za1 T.len PySem.boot_len (ac (pv 0) zb)) (wH (v:=.int 8) rfl hN ⟨_,rfl⟩))))))
   (zh (zw wz)) zA)
  (zh (zw (cB (zeE rfl) T.all boot_all (ac (xI [] ["sign"] [none] rfl ⟨rfl,rfl,rfl,rfl⟩ (zh9 (pv 0)) (yx 0) rfl rfl rfl
   (fun pins fp s H C=>⟨zk (i:=0) nd1 rfl (Or.inl rfl) (.inr rfl),xp,xb zd5 (pv 0) (wH (v:=.str letters) rfl hL ⟨_,rfl⟩) (by with_unfolding_all rfl)⟩)) zb)))),?_⟩
 rcases hx with ⟨z,rfl,hz1,hz2⟩ | ⟨hn,t,ty,e⟩
 ·refine ⟨_,rfl,_,_,_,_,rfl,.str z,T.kStr,_,rfl,?_⟩
  refine y9 ?_
  refine ⟨_,rfl,z,rfl,Nat.le_trans hz1 (by decide),_,_,rfl,rfl,_,rfl,?_⟩
  have no:xh z = false->Q (.bl false) H:=fun e=>by
   have:=q H (zm.refl H)
   have e':nmV (.str z) = false:=e
   rw [e'] at this
   exact this
  refine qa (fun c=>?_) (fun c=>?_)
  ·have c':(1:Int)<=(z.length:Int):=of_decide_eq_true c
   refine ⟨_,_,rfl,rfl,_,rfl,?_⟩
   by_cases h8:(z.length:Int)<=8
   ·rw [decide_eq_true h8]
    refine y9 ?_
    refine ⟨_,rfl,z,rfl,fun D hD=>?_⟩
    refine ⟨fun i m ys H'=>i<=z.cps.size/\m = z.cps.size - i/\ys = (z.cps.toList.take i).map (fun c=>V.bl (low c))/\H' = upd H D (.lst ys),⟨_,Nat.zero_le _,rfl,rfl,rfl⟩,?_⟩
    rintro i m ys H' ⟨hi,rfl,rfl,rfl⟩
    by_cases he:i = z.cps.size
    ·subst he
     refine .inl ⟨Nat.le_refl _,?_⟩
     refine ⟨D,z.cps.toList.map low,rfl,SqL.of ?_,?_⟩
     ·rw [za,List.take_of_length_le (by simp),List.map_map]
      rfl
     ·have e:(z.cps.toList.map low).all id = nmV (.str z):=by
       show _ = xh z
       unfold xh
       rw [decide_eq_true (show 1<=z.length by omega),decide_eq_true (show z.length<=8 by omega),List.all_map]
       rfl
      rw [e]
      exact q _ (zc hD _)
    ·refine .inr ⟨by show i < z.cps.size; omega,?_⟩
     rintro x H' ⟨rfl,c,hc,rfl⟩
     refine ⟨fun _=>?_,fun e=>Bool.noConfusion e⟩
     refine ⟨_,rfl,_,_,rfl,rfl,za,?_,z.cps.size - (i + 1),by omega,by omega,rfl,?_,?_⟩
     ·rw [List.length_map,List.length_take]
      have:z.cps.size<=1000:=hz1
      exact zz (by omega)
     ·have hc':z.cps.toList[i]? = some c:=by simpa using hc
      have hlow:=zcw c (hz2 c (List.mem_of_getElem? hc'))
      rw [hlow,List.take_add_one,hc',List.map_append]
      rfl
     ·rw [zao]
   ·rw [decide_eq_false h8]
    refine vI ?_
    exact no (jY (.inr (by omega)))
  ·have c':¬ (1:Int)<=(z.length:Int):=of_decide_eq_false (Bool.eq_false_iff.mpr c)
   refine ⟨_,rfl,?_⟩
   exact vI (no (jY (.inl (by omega))))
 ·refine ⟨_,rfl,_,_,_,_,rfl,ty,e,_,rfl,?_⟩
  refine vI ?_
  refine vI ?_
  have:=q H (zm.refl H)
  rw [hn] at this
  exact this
end
abbrev EB:List Value:=[.type "ValueError",.type "Exception",.type "BaseException",.type "object"]
theorem dT {A B:Prop} {c:Prop} [Decidable c] (h:c) (a:A):if decide c = true then A else B:=by rw [decide_eq_true h]; exact vI a
theorem dF {A B:Prop} {c:Prop} [Decidable c] (h:¬ c) (b:B):if decide c = true then A else B:=by rw [decide_eq_false h]; exact y9 b
def kw:Nat->Str
 | 0=>"seat" | 1=>"both" | 2=>"tail" | 3=>"tag" | _=>"bag"
def zbl (k:Nat) (x:V) (b:Bool):List V:=match k with
 | 0=>[.str "seat",x,.bl b] | 1=>[.str "both",x,.bl b] | 2=>[.str "tail",x] | 3=>[.str "tag",x,.bl b] | _=>[.str "bag",x]
def fr (k:Nat) (b:Bool):Bool:=match k with
 | 0=>b | 1=>b | 2=>true | 3=>b | _=>true
theorem lt5 {k:Nat} (h:k < 5):k = 0\/k = 1\/k = 2\/k = 3\/k = 4:=by omega
def pf (wd:Str) (x:V) (b:Bool):List (Str × V):=zT "may_lack" (.bl b) (zT "name" x (zT "word" (.str wd) []))
theorem uh {wd:Str} {x:V} {b:Bool}:(pf wd x b).lookup ("word" : Str) = some (.str wd):=by
 unfold pf
 rw [zj,if_neg (by decide +kernel),zj,if_neg (by decide +kernel),zj,if_pos rfl]
theorem jx {wd:Str} {x:V} {b:Bool}:(pf wd x b).lookup ("name" : Str) = some x:=by
 unfold pf
 rw [zj,if_neg (by decide +kernel),zj,if_pos rfl]
theorem zgI {wd:Str} {x:V} {b:Bool}:(pf wd x b).lookup ("may_lack" : Str) = some (.bl b):=by
 unfold pf
 rw [zj,if_pos rfl]
theorem qX {wd:Str} {x:V} {b:Bool} {m:Str} (h1:¬ m = "may_lack") (h2:¬ m = "name") (h3:¬ m = "word"):(pf wd x b).lookup m = none:=by
 unfold pf
 rw [zj,if_neg h1,zj,if_neg h2,zj,if_neg h3]
 rfl
structure MA where
 (fF fP fB fT fO:Addr)
structure PC (K:Frag) (m:MA) (C:Addr):Prop where
 cl:Cls K C
 nW:xf K C "word"
 nN:xf K C "name"
 nM:xf K C "may_lack"
 mF:y6 K C "free" m.fF
 mP:y6 K C "by_place" m.fP
 mB:y6 K C "by_name" m.fB
 mT:y6 K C "takes_one" m.fT
 mO:y6 K C "told" m.fO
def spP (K:Frag) (m:MA) (N:Addr):Sp:=fun vs H Q E=>∃ (p dx C:Addr) (wd:Str) (x:V) (b:Bool),vs = [.ref p,.str wd,x,.bl b]/\H p = some (.ins C dx [])/\PC K m C/\OkV K H x/\(nmV x = true->∀ H1,zm H H1->Q .non (upd H1 p (.ins C dx (pf wd x b))))/\(nmV x = false->∀ H1,zm H H1->E (.ref N) none H1)
def spS (K:Frag) (C N:Addr) (wd:Str):Sp:=fun vs H Q E=>∃ (p dx:Addr) (x:V) (b:Bool),vs = [.ref p,x,.bl b]/\H p = some (.ins C dx [])/\OkV K H x/\(nmV x = true->∀ H1,zm H H1->Q .non (upd H1 p (.ins C dx (pf wd x b))))/\(nmV x = false->∀ H1,zm H H1->E (.ref N) none H1)
def spT (K:Frag) (C N:Addr) (wd:Str):Sp:=fun vs H Q E=>∃ (p dx:Addr) (x:V),vs = [.ref p,x]/\H p = some (.ins C dx [])/\OkV K H x/\(nmV x = true->∀ H1,zm H H1->Q .non (upd H1 p (.ins C dx (pf wd x true))))/\(nmV x = false->∀ H1,zm H H1->E (.ref N) none H1)
def bpL:List V:=[.str "seat",.str "both"]
def bnL:List V:=[.str "both",.str "tag"]
def otL:List V:=[.str "seat",.str "both",.str "tag"]
def zcc (K:Frag) (m:MA):Sp:=fun vs H Q _=>∃ (p dx C:Addr) (wd:Str) (x:V) (b:Bool),vs = [.ref p]/\PC K m C/\H p = some (.ins C dx (pf wd x b))/\Q (.bl b) H
def zaz (K:Frag) (m:MA) (l:List V):Sp:=fun vs H Q _=>∃ (p dx C:Addr) (wd:Str) (x:V) (b:Bool),vs = [.ref p]/\PC K m C/\H p = some (.ins C dx (pf wd x b))/\Q (.bl (inV (.str wd) l)) H
structure Wds (K:Frag) (mg:Str->Option Value) (tP tB tO:Addr):Prop where
 mP:mg "BY_PLACE" = some (.ref tP)
 mB:mg "BY_NAME" = some (.ref tB)
 mO:mg "OF_ONE_THING" = some (.ref tO)
 hP:∀ H,SqT K H tP bpL
 hB:∀ H,SqT K H tB bnL
 hO:∀ H,SqT K H tO otL
section
variable {P:Program} {w:World} {K:Frag} {mg:Str->Option Value} {base:Heap} {f C N tP tB tO:Addr} {fd:FuncData} {m:MA}
theorem zgv:zu ["self","word","name","may_lack"] ["self","word","name","may_lack"] (ze uR):=⟨rfl,rfl,rfl,by decide +kernel,rfl,by decide +kernel,by decide +kernel⟩
theorem zfr {g:Addr} {gd:FuncData} (F:Fun K "__init__" "Parameter.__init__" uR f fd) (own:OwnCls "NoName" N EB "ValueError.__new__" mg base) (cI:zl P w K mg base 1 "is_name" g gd ["thing"] (zgs K)) :
  zC P w K mg base (CXe P w) 2 f fd ["self","word","name","may_lack"] (spP K m N):=by
 refine F.okE zgv (fun vs H Q E h=>?_) (fun cdv A outer s H vs Q E hr h=>?_)
 ·obtain ⟨p,dx,C,wd,x,b,rfl,_⟩:=h
  rfl
 obtain ⟨p,dx,C,wd,x,b,rfl,hp,c,hx,q1,q2⟩:=h
 refine ⟨_,zd (zJ (wY (xF (cF cI hr (ac (pv 2) zb)))) (zh (zeZ zdX own PySem.F.excBase_ValueError (by decide) PySem.F.excBase_ValueError rfl (ac zq zb))) zA)
  (zd (wG (pv 0) (pv 1) rfl) (zd (wG (pv 0) (pv 2) rfl) (zh (wG (pv 0) (pv 3) rfl)))),?_⟩
 refine ⟨_,rfl,x,rfl,hx,fun H1 s1=>⟨_,rfl,?_⟩⟩
 cases e:nmV x with
 | false=>
  refine vI ?_
  exact ⟨by show 1<=sizeLine; decide,q2 e _ s1⟩
 | true=>
  refine y9 ?_
  refine ⟨_,rfl,_,rfl,p,C,dx,[],rfl,s1 _ _ hp,c.cl,c.nW,(by show 0 < 1000; decide),?_⟩
  refine ⟨_,rfl,_,rfl,p,C,dx,_,rfl,za,c.cl,c.nN,(by show 1 < 1000; decide),?_⟩
  refine ⟨_,rfl,_,rfl,p,C,dx,_,rfl,za,c.cl,c.nM,(by show 2 < 1000; decide),?_⟩
  rw [zao,zao]
  exact q1 e _ s1
theorem zhV:zu ["self","name","free"] ["self","name","free"] (ze qE):=⟨rfl,rfl,rfl,by decide +kernel,rfl,by decide +kernel,by decide +kernel⟩
theorem zdj {g D:Addr} {gd:FuncData} {ds:List Value} (F:qm K "__init__" "Seat.__init__" qE f fd ds) (c:PC K m C) (B:qr K D "__init__" g) (mD:mg "Parameter" = some (.ref D)) (G:zC P w K mg base (CXe P w) 2 g gd ["self","word","name","may_lack"] (spP K m N)) (bg:zS K gd ["self","word","name","may_lack"] []) :
  zC P w K mg base (CXe P w) 3 f fd ["self","name","free"] (spS K C N "seat"):=by
 refine F.okE zhV (fun vs H Q E h=>?_) (fun cdv A outer s H vs Q E hr h=>?_)
 ·obtain ⟨p,dx,x,b,rfl,_⟩:=h
  rfl
 obtain ⟨p,dx,x,b,rfl,hp,hx,q1,q2⟩:=h
 refine ⟨_,zh (zE (zbq B mD G hr bg (vO fun _ _ _ z=>z) (ac (pv 0) (ac zq (ac (pv 1) (ac (pv 2) zb)))))),?_⟩
 exact ⟨_,rfl,_,rfl,_,rfl,p,dx,C,_,x,b,rfl,hp,c,hx,q1,q2⟩
theorem zh3:zu ["self","name","free"] ["self","name","free"] (ze qU):=⟨rfl,rfl,rfl,by decide +kernel,rfl,by decide +kernel,by decide +kernel⟩
theorem zdk {g D:Addr} {gd:FuncData} {ds:List Value} (F:qm K "__init__" "Both.__init__" qU f fd ds) (c:PC K m C) (B:qr K D "__init__" g) (mD:mg "Parameter" = some (.ref D)) (G:zC P w K mg base (CXe P w) 2 g gd ["self","word","name","may_lack"] (spP K m N)) (bg:zS K gd ["self","word","name","may_lack"] []) :
  zC P w K mg base (CXe P w) 3 f fd ["self","name","free"] (spS K C N "both"):=by
 refine F.okE zh3 (fun vs H Q E h=>?_) (fun cdv A outer s H vs Q E hr h=>?_)
 ·obtain ⟨p,dx,x,b,rfl,_⟩:=h
  rfl
 obtain ⟨p,dx,x,b,rfl,hp,hx,q1,q2⟩:=h
 refine ⟨_,zh (zE (zbq B mD G hr bg (vO fun _ _ _ z=>z) (ac (pv 0) (ac zq (ac (pv 1) (ac (pv 2) zb)))))),?_⟩
 exact ⟨_,rfl,_,rfl,_,rfl,p,dx,C,_,x,b,rfl,hp,c,hx,q1,q2⟩
theorem zja:zu ["self","name","free"] ["self","name","free"] (ze zdR):=⟨rfl,rfl,rfl,by decide +kernel,rfl,by decide +kernel,by decide +kernel⟩
theorem zfo {g D:Addr} {gd:FuncData} {ds:List Value} (F:qm K "__init__" "Tag.__init__" zdR f fd ds) (c:PC K m C) (B:qr K D "__init__" g) (mD:mg "Parameter" = some (.ref D)) (G:zC P w K mg base (CXe P w) 2 g gd ["self","word","name","may_lack"] (spP K m N)) (bg:zS K gd ["self","word","name","may_lack"] []) :
  zC P w K mg base (CXe P w) 3 f fd ["self","name","free"] (spS K C N "tag"):=by
 refine F.okE zja (fun vs H Q E h=>?_) (fun cdv A outer s H vs Q E hr h=>?_)
 ·obtain ⟨p,dx,x,b,rfl,_⟩:=h
  rfl
 obtain ⟨p,dx,x,b,rfl,hp,hx,q1,q2⟩:=h
 refine ⟨_,zh (zE (zbq B mD G hr bg (vO fun _ _ _ z=>z) (ac (pv 0) (ac zq (ac (pv 1) (ac (pv 2) zb)))))),?_⟩
 exact ⟨_,rfl,_,rfl,_,rfl,p,dx,C,_,x,b,rfl,hp,c,hx,q1,q2⟩
theorem zhU:zu ["self","name"] ["self","name"] (ze qD):=⟨rfl,rfl,rfl,by decide +kernel,rfl,by decide +kernel,by decide +kernel⟩
theorem zgR {g D:Addr} {gd:FuncData} (F:Fun K "__init__" "Tail.__init__" qD f fd) (c:PC K m C) (B:qr K D "__init__" g) (mD:mg "Parameter" = some (.ref D)) (G:zC P w K mg base (CXe P w) 2 g gd ["self","word","name","may_lack"] (spP K m N)) (bg:zS K gd ["self","word","name","may_lack"] []) :
  zC P w K mg base (CXe P w) 3 f fd ["self","name"] (spT K C N "tail"):=by
 refine F.okE zhU (fun vs H Q E h=>?_) (fun cdv A outer s H vs Q E hr h=>?_)
 ·obtain ⟨p,dx,x,rfl,_⟩:=h
  rfl
 obtain ⟨p,dx,x,rfl,hp,hx,q1,q2⟩:=h
 refine ⟨_,zh (zE (zbq B mD G hr bg (vO fun _ _ _ z=>z) (ac (pv 0) (ac zq (ac (pv 1) (ac wz zb)))))),?_⟩
 exact ⟨_,rfl,_,rfl,p,dx,C,_,x,true,rfl,hp,c,hx,q1,q2⟩
theorem zjb:zu ["self","name"] ["self","name"] (ze zdV):=⟨rfl,rfl,rfl,by decide +kernel,rfl,by decide +kernel,by decide +kernel⟩
theorem zio {g D:Addr} {gd:FuncData} (F:Fun K "__init__" "Bag.__init__" zdV f fd) (c:PC K m C) (B:qr K D "__init__" g) (mD:mg "Parameter" = some (.ref D)) (G:zC P w K mg base (CXe P w) 2 g gd ["self","word","name","may_lack"] (spP K m N)) (bg:zS K gd ["self","word","name","may_lack"] []) :
  zC P w K mg base (CXe P w) 3 f fd ["self","name"] (spT K C N "bag"):=by
 refine F.okE zjb (fun vs H Q E h=>?_) (fun cdv A outer s H vs Q E hr h=>?_)
 ·obtain ⟨p,dx,x,rfl,_⟩:=h
  rfl
 obtain ⟨p,dx,x,rfl,hp,hx,q1,q2⟩:=h
 refine ⟨_,zh (zE (zbq B mD G hr bg (vO fun _ _ _ z=>z) (ac (pv 0) (ac zq (ac (pv 1) (ac wz zb)))))),?_⟩
 exact ⟨_,rfl,_,rfl,p,dx,C,_,x,true,rfl,hp,c,hx,q1,q2⟩
theorem zhY:zu ["self"] ["self"] (ze qM):=⟨rfl,rfl,rfl,by decide +kernel,rfl,by decide +kernel,by decide +kernel⟩
theorem zgZ (F:Fun K "free" "Parameter.free" qM f fd):zC P w K mg base CX0 1 f fd ["self"] (zcc K m):=by
 refine F.ok zhY (fun vs H Q E h=>?_) (fun cdv A outer s H vs Q E hr h=>?_)
 ·obtain ⟨p,dx,C,wd,x,b,rfl,_⟩:=h
  rfl
 obtain ⟨p,dx,C,wd,x,b,rfl,c,hp,q⟩:=h
 refine ⟨_,zh (zw (yO (pv 0) rfl)),?_⟩
 exact ⟨_,rfl,p,C,dx,_,_,rfl,hp,c.cl,c.nM,zgI,q⟩
theorem zdP:zu ["self"] ["self"] (ze wv):=⟨rfl,rfl,rfl,by decide +kernel,rfl,by decide +kernel,by decide +kernel⟩
theorem zbx (F:Fun K "by_place" "Parameter.by_place" wv f fd) (Wd:Wds K mg tP tB tO):zC P w K mg base CX0 1 f fd ["self"] (zaz K m bpL):=by
 refine F.ok zdP (fun vs H Q E h=>?_) (fun cdv A outer s H vs Q E hr h=>?_)
 ·obtain ⟨p,dx,C,wd,x,b,rfl,_⟩:=h
  rfl
 obtain ⟨p,dx,C,wd,x,b,rfl,c,hp,q⟩:=h
 refine ⟨_,zh (zw (xb y1 (yO (pv 0) rfl) (wH (v:=.ref tP) rfl Wd.mP rfl) (by with_unfolding_all rfl))),?_⟩
 exact ⟨_,rfl,p,C,dx,_,_,rfl,hp,c.cl,c.nW,uh,tP,bpL,rfl,.inr (Wd.hP H),rfl,(by decide),q⟩
theorem zeS:zu ["self"] ["self"] (ze vz):=⟨rfl,rfl,rfl,by decide +kernel,rfl,by decide +kernel,by decide +kernel⟩
theorem zcp (F:Fun K "by_name" "Parameter.by_name" vz f fd) (Wd:Wds K mg tP tB tO):zC P w K mg base CX0 1 f fd ["self"] (zaz K m bnL):=by
 refine F.ok zeS (fun vs H Q E h=>?_) (fun cdv A outer s H vs Q E hr h=>?_)
 ·obtain ⟨p,dx,C,wd,x,b,rfl,_⟩:=h
  rfl
 obtain ⟨p,dx,C,wd,x,b,rfl,c,hp,q⟩:=h
 refine ⟨_,zh (zw (xb y1 (yO (pv 0) rfl) (wH (v:=.ref tB) rfl Wd.mB rfl) (by with_unfolding_all rfl))),?_⟩
 exact ⟨_,rfl,p,C,dx,_,_,rfl,hp,c.cl,c.nW,uh,tB,bnL,rfl,.inr (Wd.hB H),rfl,(by decide),q⟩
end
structure C5 where
 (c0 c1 c2 c3 c4:Addr)
def C5.at (c:C5):Nat->Addr
 | 0=>c.c0 | 1=>c.c1 | 2=>c.c2 | 3=>c.c3 | _=>c.c4
def g21 {α : Type}:List α->List α->List α
 | [u,v],[w]=>[u,v,w]
 | _,_=>[]
theorem jE {vs:List V} {us:List Value} {zs:List V} {ws:List Value} (r:zK vs us) (q:zK zs ws):zK (g21 vs zs) (g21 us ws):=by
 cases r with
 | nil=>exact .nil
 | cons a r=>cases r with
  | nil=>exact .nil
  | cons a2 r=>cases r with
   | cons _ _=>exact .nil
   | nil=>cases q with
    | nil=>exact .nil
    | cons b q=>cases q with
     | nil=>exact .cons a (.cons a2 (.cons b .nil))
     | cons _ _=>exact .nil
structure zhD (P:Program) (w:World) (K:Frag) (mg:Str->Option Value) (base:Heap) (c:C5) (N:Addr) (i0 i1 i2 i3 i4:Addr) (d0 d1 d2 d3 d4:FuncData):Prop where
 k0:qp P w K mg base (CXe P w) 3 "Seat" c.c0 i0 d0 ["self","name","free"] [] (spS K c.c0 N "seat")
 e0:qp P w K mg base (CXe P w) 3 "Seat" c.c0 i0 d0 ["self","name","free"] [.bool false] (spS K c.c0 N "seat")
 b0:v0 K d0 ["self","name","free"] ["free"] g21 g21
 k1:qp P w K mg base (CXe P w) 3 "Both" c.c1 i1 d1 ["self","name","free"] [] (spS K c.c1 N "both")
 e1:qp P w K mg base (CXe P w) 3 "Both" c.c1 i1 d1 ["self","name","free"] [.bool false] (spS K c.c1 N "both")
 b1:v0 K d1 ["self","name","free"] ["free"] g21 g21
 k2:qp P w K mg base (CXe P w) 3 "Tail" c.c2 i2 d2 ["self","name"] [] (spT K c.c2 N "tail")
 k3:qp P w K mg base (CXe P w) 3 "Tag" c.c3 i3 d3 ["self","name","free"] [] (spS K c.c3 N "tag")
 e3:qp P w K mg base (CXe P w) 3 "Tag" c.c3 i3 d3 ["self","name","free"] [.bool false] (spS K c.c3 N "tag")
 b3:v0 K d3 ["self","name","free"] ["free"] g21 g21
 k4:qp P w K mg base (CXe P w) 3 "Bag" c.c4 i4 d4 ["self","name"] [] (spT K c.c4 N "bag")
def Res (c:C5) (N:Addr) (H:Hp) (k:Nat) (x:V) (b:Bool) (Q:VK) (E:XK):Prop:=
 (nmV x = true->∀ (o dx:Addr) (H':Hp),zm H H'->H' o = some (.ins (c.at k) dx (pf (kw k) x (fr k b)))->Q (.ref o) H')/\(nmV x = false->∀ H',zm H H'->E (.ref N) none H')
def zeJ (K:Frag) (c:C5) (N:Addr):Sp:=fun vs H Q E=>∃ (p:Addr) (k:Nat) (x:V) (b:Bool),vs = [.ref p]/\k < 5/\H p = some (.tup (zbl k x b))/\OkV K H x/\Res c N H k x b Q E
theorem zkk:¬ (V.str "both" = V.str "seat"):=by decide +kernel
theorem zkj:¬ (V.str "tail" = V.str "seat"):=by decide +kernel
theorem zki:¬ (V.str "tail" = V.str "both"):=by decide +kernel
theorem zkh:¬ (V.str "tag" = V.str "seat"):=by decide +kernel
theorem zkg:¬ (V.str "tag" = V.str "both"):=by decide +kernel
theorem zkf:¬ (V.str "tag" = V.str "tail"):=by decide +kernel
theorem zke:¬ (V.str "bag" = V.str "seat"):=by decide +kernel
theorem zkd:¬ (V.str "bag" = V.str "both"):=by decide +kernel
theorem zkc:¬ (V.str "bag" = V.str "tail"):=by decide +kernel
theorem zkb:¬ (V.str "bag" = V.str "tag"):=by decide +kernel
section
variable {P:Program} {w:World} {K:Frag} {mg:Str->Option Value} {base:Heap} {f N i0 i1 i2 i3 i4:Addr} {fd d0 d1 d2 d3 d4:FuncData} {c:C5}
theorem zjy {x:V} {k:Nat} {b:Bool}:atI (zbl k x b) 1 = some x:=by unfold zbl; split <;> rfl
theorem zjz {x:V} {k:Nat} {b:Bool} (h:k < 5):atI (zbl k x b) 0 = some (.str (kw k)):=by rcases lt5 h with rfl | rfl | rfl | rfl | rfl <;> rfl
theorem zhs:zu ["told","word"] ["told"] (ze zdS):=⟨rfl,rfl,rfl,by decide +kernel,rfl,by decide +kernel,by decide +kernel⟩
theorem zij (F:Fun K "parameter_of" "parameter_of" zdS f fd) (U:zhD P w K mg base c N i0 i1 i2 i3 i4 d0 d1 d2 d3 d4):zC P w K mg base (CXe P w) 5 f fd ["told"] (zeJ K c N):=by
 refine F.okE zhs (fun vs H Q E h=>?_) (fun cdv A outer s H vs Q E hr h=>?_)
 ·obtain ⟨p,k,x,b,rfl,_⟩:=h
  rfl
 obtain ⟨p,k,x,b,rfl,hk,hp,hx,r1,r2⟩:=h
 refine ⟨_,zd (zv (i:=1) zhs.nd rfl (Or.inl rfl) (zI zQ (pv 0) zg (fun _ _=>rfl)))
  (zd (zJ (zo ym (pv 1) zq (zx _)) (zh (zw (cMk U.k0 .nil (vO fun _ _ _ z=>z) hr (ac (zI zQ (pv 0) zg (fun _ _=>rfl)) (ac (zI zQ (pv 0) zg (fun _ _=>rfl)) zb))))) zA)
  (zd (zJ (zo ym (pv 1) zq (zx _)) (zh (zw (cMk U.k1 .nil (vO fun _ _ _ z=>z) hr (ac (zI zQ (pv 0) zg (fun _ _=>rfl)) (ac (zI zQ (pv 0) zg (fun _ _=>rfl)) zb))))) zA)
  (zd (zJ (zo ym (pv 1) zq (zx _)) (zh (zw (cMk U.k2 .nil (vO fun _ _ _ z=>z) hr (ac (zI zQ (pv 0) zg (fun _ _=>rfl)) zb)))) zA)
  (zd (zJ (zo ym (pv 1) zq (zx _)) (zh (zw (cMk U.k3 .nil (vO fun _ _ _ z=>z) hr (ac (zI zQ (pv 0) zg (fun _ _=>rfl)) (ac (zI zQ (pv 0) zg (fun _ _=>rfl)) zb))))) zA)
  (zh (zw (cMk U.k4 .nil (vO fun _ _ _ z=>z) hr (ac (zI zQ (pv 0) zg (fun _ _=>rfl)) zb)))))))),?_⟩
 refine ⟨_,rfl,p,_,_,.str (kw k),rfl,rfl,SqT.of hp,zjz hk,?_⟩
 rcases lt5 hk with rfl | rfl | rfl | rfl | rfl
 ·have hS:SqT K H p _:=SqT.of hp
  refine ⟨_,rfl,rfl,_,rfl,?_⟩
  refine dT rfl ?_
  exact ⟨_,rfl,p,_,_,x,rfl,rfl,hS,rfl,_,rfl,p,_,_,.bl b,rfl,rfl,hS,rfl,fun o dx ho hdx ne=>⟨o,dx,x,b,rfl,za,hx.same (yh ho hdx),fun e H1 s1=>⟨rfl,r1 e o dx _ (xP ho hdx s1) za⟩,fun e H1 s1=>r2 e _ ((yh ho hdx).trans s1)⟩⟩
 ·have hS:SqT K H p _:=SqT.of hp
  refine ⟨_,rfl,rfl,_,rfl,?_⟩
  refine dF zkk ?_
  refine ⟨_,rfl,rfl,_,rfl,?_⟩
  refine dT rfl ?_
  exact ⟨_,rfl,p,_,_,x,rfl,rfl,hS,rfl,_,rfl,p,_,_,.bl b,rfl,rfl,hS,rfl,fun o dx ho hdx ne=>⟨o,dx,x,b,rfl,za,hx.same (yh ho hdx),fun e H1 s1=>⟨rfl,r1 e o dx _ (xP ho hdx s1) za⟩,fun e H1 s1=>r2 e _ ((yh ho hdx).trans s1)⟩⟩
 ·have hS:SqT K H p _:=SqT.of hp
  refine ⟨_,rfl,rfl,_,rfl,?_⟩
  refine dF zkj ?_
  refine ⟨_,rfl,rfl,_,rfl,?_⟩
  refine dF zki ?_
  refine ⟨_,rfl,rfl,_,rfl,?_⟩
  refine dT rfl ?_
  exact ⟨_,rfl,p,_,_,x,rfl,rfl,hS,rfl,fun o dx ho hdx ne=>⟨o,dx,x,rfl,za,hx.same (yh ho hdx),fun e H1 s1=>⟨rfl,r1 e o dx _ (xP ho hdx s1) za⟩,fun e H1 s1=>r2 e _ ((yh ho hdx).trans s1)⟩⟩
 ·have hS:SqT K H p _:=SqT.of hp
  refine ⟨_,rfl,rfl,_,rfl,?_⟩
  refine dF zkh ?_
  refine ⟨_,rfl,rfl,_,rfl,?_⟩
  refine dF zkg ?_
  refine ⟨_,rfl,rfl,_,rfl,?_⟩
  refine dF zkf ?_
  refine ⟨_,rfl,rfl,_,rfl,?_⟩
  refine dT rfl ?_
  exact ⟨_,rfl,p,_,_,x,rfl,rfl,hS,rfl,_,rfl,p,_,_,.bl b,rfl,rfl,hS,rfl,fun o dx ho hdx ne=>⟨o,dx,x,b,rfl,za,hx.same (yh ho hdx),fun e H1 s1=>⟨rfl,r1 e o dx _ (xP ho hdx s1) za⟩,fun e H1 s1=>r2 e _ ((yh ho hdx).trans s1)⟩⟩
 ·have hS:SqT K H p _:=SqT.of hp
  refine ⟨_,rfl,rfl,_,rfl,?_⟩
  refine dF zke ?_
  refine ⟨_,rfl,rfl,_,rfl,?_⟩
  refine dF zkd ?_
  refine ⟨_,rfl,rfl,_,rfl,?_⟩
  refine dF zkc ?_
  refine ⟨_,rfl,rfl,_,rfl,?_⟩
  refine dF zkb ?_
  exact ⟨_,rfl,p,_,_,x,rfl,rfl,hS,rfl,fun o dx ho hdx ne=>⟨o,dx,x,rfl,za,hx.same (yh ho hdx),fun e H1 s1=>⟨rfl,r1 e o dx _ (xP ho hdx s1) za⟩,fun e H1 s1=>r2 e _ ((yh ho hdx).trans s1)⟩⟩
end
end K25
namespace L2
open PySem PySem.Spec PyProof.Rows
def dcN (n i:Nat) (D:Addr) (Pv:Nat->List (Key × V)->Hp->Prop) (ys:List (Key × V)) (y:V):VK:=fun v H5=>∃ k,y = kV k/\H5 D = some (.dK ys)/\ys.length < sizeLine/\∃ m',m' < n - i/\m' = n - (i + 1)/\i + 1<=n/\Pv (i + 1) (yr ys k v) (upd H5 D (.dK (yr ys k v)))
def dcS (n i:Nat) (Pv:Nat->List (Key × V)->Hp->Prop) (ys:List (Key × V)) (H4:Hp):Prop:=∃ m',m' < n - i/\m' = n - (i + 1)/\i + 1<=n/\Pv (i + 1) ys H4
theorem dcN.mk {n i:Nat} {D:Addr} {Pv:Nat->List (Key × V)->Hp->Prop} {ys:List (Key × V)} {y v:V} {H5:Hp} (k:Key) (hi:i < n) (ek:y = kV k) (hn:n<=sizeLine) (hD:H5 D = some (.dK ys)) (hy:ys.length<=i) (p:Pv (i + 1) (yr ys k v) (upd H5 D (.dK (yr ys k v)))):dcN n i D Pv ys y v H5:=
 ⟨k,ek,hD,by omega,n - (i + 1),by omega,rfl,hi,p⟩
theorem dcS.mk {n i:Nat} {Pv:Nat->List (Key × V)->Hp->Prop} {ys:List (Key × V)} {H4:Hp} (hi:i < n) (p:Pv (i + 1) ys H4):dcS n i Pv ys H4:=⟨n - (i + 1),by omega,rfl,hi,p⟩
theorem zhh {K:Frag} {a:Addr} {xs:List V} {caps:List (Option Nat)} {g:TG} {tt:TT} {tk tv:TE} {σ : St} {H1:Hp} {Q:VK} {D:Addr} (Pv:Nat->List (Key × V)->Hp->Prop) (h0:Pv 0 [] (upd H1 D (.dK [])))
  (hl:∀ i ys H,Pv i ys H->SqL K H a xs)
  (hs:∀ i x p ys H,i < xs.length->xs[i]? = some x->Pv i ys H->H p = none->g (.ref p) (yX caps σ) (upd H p (.tup [.int i,x])) fun σ2 H2=>tt σ2 H2 fun ok H3=>(ok = true->tk σ2 H3 fun y H4=>tv σ2 H4 (dcN xs.length i D Pv ys y))/\(ok = false->dcS xs.length i Pv ys H3))
  (hd:∀ ys H,Pv xs.length ys H->Q (.ref D) H):DCr (Ite K a) caps g tt tk tv σ H1 Q D:=by
 refine ⟨fun i m ys H=>m = xs.length - i/\i<=xs.length/\Pv i ys H,⟨xs.length,by simp,Nat.zero_le _,h0⟩,?_⟩
 rintro i m ys H ⟨rfl,hi,p⟩
 have q:=hl i ys H p
 by_cases hlt:i < xs.length
 ·refine .inr ⟨⟨xs,xs[i],q,by simp [hlt]⟩,fun x H' y=>?_⟩
  obtain ⟨pp,y,rfl,hp,y2,rfl⟩:=y
  exact hs i y pp ys H hlt (y2 xs q) p hp
 ·have e:i = xs.length:=by omega
  subst e
  exact .inl ⟨⟨xs,q,Nat.le_refl _⟩,hd ys H p⟩
end L2
namespace K25
open PySem L2 PyProof.Rows
structure Rw where
 (k:Nat) (z:Str) (b:Bool)
def Rw.ok (r:Rw):Prop:=r.k < 5/\xh r.z = true
abbrev rv (r:Rw):List V:=zbl r.k (.str r.z) r.b
abbrev pr (r:Rw):List (Str × V):=pf (kw r.k) (.str r.z) (fr r.k r.b)
def PAt (c:C5) (H:Hp) (p:Addr) (r:Rw):Prop:=∃ dx,H p = some (.ins (c.at r.k) dx (pr r))
def xc (k:Nat):Bool:=k == 0 || k == 1
def z0 (k:Nat):Bool:=k == 1 || k == 3
theorem zhA:∀ k:Nat,k < 5->inV (.str (kw k)) bpL = xc k:=by decide +kernel
theorem qc:∀ k:Nat,k < 5->inV (.str (kw k)) bnL = z0 k:=by decide +kernel
def grp:Nat->Nat
 | 0=>0 | 1=>0 | 2=>1 | 3=>2 | _=>3
def yB (l g:Nat):Bool:=decide (g < l) || (g == l && (g == 1 || g == 3))
def zW:Nat->List Rw->Bool
 | _,[]=>true
 | l,r :: rs=>!yB l (grp r.k) && zW (grp r.k) rs
def nms (rows:List Rw):List Str:=(rows.filter fun r=>z0 r.k).map (·.z)
structure yP (rows:List Rw) (bars:List Str):Prop where
 ok:∀ r ∈ rows,r.ok
 l24:rows.length<=24
 l60:bars.length<=60
 ord:zW 0 rows = true
 bn:∀ z ∈ bars,xh z = true
 nd:(nms rows ++ bars).Nodup
def zy (kk:Nat):Nat->List Rw->Option Nat
 | _,[]=>none
 | i,r :: rs=>if r.k = kk then some i else zy kk (i + 1) rs
def xZ:Option Nat->V
 | none=>.non
 | some i=>.int i
def yl:Nat->List (Key × V)->List Rw->List (Key × V)
 | _,acc,[]=>acc
 | i,acc,r :: rs=>yl (i + 1) (if z0 r.k = true then yr acc (.inr r.z) (.int i) else acc) rs
def plN (rows:List Rw):Nat:=(rows.filter fun r=>xc r.k).length
def zgg:List Str:=["row","bar_names","place_count","tail_number","bag_number","doors"]
structure FF (fs:List (Str × V)) (lr lb ld:Addr) (rows:List Rw):Prop where
 row:fs.lookup ("row" : Str) = some (.ref lr)
 bn:fs.lookup ("bar_names" : Str) = some (.ref lb)
 pc:fs.lookup ("place_count" : Str) = some (.int (plN rows))
 tn:fs.lookup ("tail_number" : Str) = some (xZ (zy 2 0 rows))
 bg:fs.lookup ("bag_number" : Str) = some (xZ (zy 4 0 rows))
 dr:fs.lookup ("doors" : Str) = some (.ref ld)
 no:∀ m,m ∉ zgg->fs.lookup m = none
def xg (c:C5) (CF:Addr) (H:Hp) (f:Addr) (rows:List Rw) (bars:List Str):Prop:=
 ∃ dx fs lr lb ld ps,H f = some (.ins CF dx fs)/\FF fs lr lb ld rows/\H lr = some (.lst (ps.map V.ref))/\Paired (PAt c H) ps rows/\H lb = some (.lst (bars.map V.str))/\H ld = some (.dK (yl 0 [] rows))
section
variable {c:C5} {CF f p:Addr} {H H':Hp} {rows:List Rw} {bars:List Str} {r:Rw} {ps:List Addr}
theorem PAt.same (h:PAt c H p r) (s:zm H H'):PAt c H' p r:=h.imp fun _=>s _ _
theorem xx (s:zm H H') (h:Paired (PAt c H) ps rows):Paired (PAt c H') ps rows:=Paired.imp' (fun _ _ z=>z.same s) h
theorem xg.same (h:xg c CF H f rows bars) (s:zm H H'):xg c CF H' f rows bars:=by
 obtain ⟨dx,fs,lr,lb,ld,ps,h1,h2,h3,h4,h5,h6⟩:=h
 exact ⟨dx,fs,lr,lb,ld,ps,s _ _ h1,h2,s _ _ h3,xx s h4,s _ _ h5,s _ _ h6⟩
def qo (c:C5) (CF:Addr) (H H':Hp) (f:Addr) (rows:List Rw) (bars:List Str):Prop:=
 ∃ dx fs lr lb ld ps,H' f = some (.ins CF dx fs)/\FF fs lr lb ld rows/\H' lr = some (.lst (ps.map V.ref))/\Paired (PAt c H') ps rows/\H' lb = some (.lst (bars.map V.str))/\H' ld = some (.dK (yl 0 [] rows))/\H lr = none/\H lb = none
theorem qo.at (h:qo c CF H H' f rows bars):xg c CF H' f rows bars:=by
 obtain ⟨dx,fs,lr,lb,ld,ps,h1,h2,h3,h4,h5,h6,_,_⟩:=h
 exact ⟨dx,fs,lr,lb,ld,ps,h1,h2,h3,h4,h5,h6⟩
theorem qo.of {H0:Hp} (h:qo c CF H H' f rows bars) (s:zm H0 H):qo c CF H0 H' f rows bars:=by
 obtain ⟨dx,fs,lr,lb,ld,ps,h1,h2,h3,h4,h5,h6,h7,h8⟩:=h
 exact ⟨dx,fs,lr,lb,ld,ps,h1,h2,h3,h4,h5,h6,s.free h7,s.free h8⟩
theorem yv {α β : Type} {R : α->β->Prop} {xs:List α} {ys:List β} (h:Paired R xs ys):∀ {i:Nat} {x : α},xs[i]? = some x->∃ y,ys[i]? = some y/\R x y:=by
 induction h with
 | nil=>intro i x e; simp at e
 | cons r t ih=>
  intro i x e
  cases i with
  | zero=>exact ⟨_,rfl,by simp at e; exact e ▸ r⟩
  | succ i=>simpa using ih (by simpa using e)
end
def zha (x:Str):Option V:=([(("seat" : Str),V.int 0),("both",.int 0),("tail",.int 1),("tag",.int 2),("bag",.int 3)]:List (Str × V)).lookup x
theorem zg9:∀ k:Nat,k < 5->zha (kw k) = some (.int (grp k)):=by decide +kernel
theorem ziD (k:Nat):grp k < 4:=by unfold grp; split <;> decide
structure zb2 (w:World) (K:Frag) (mg:Str->Option Value) (G sg:Addr):Prop where
 len:mg "len" = none
 en:mg "enumerate" = none
 lst:mg "list" = none
 set:mg "set" = none
 mp:∃ t,mg "MOST_PARAMETERS" = some (.int 24 t)
 mb:∃ t,mg "MOST_BARS" = some (.int 60 t)
 mgr:mg "GROUPS" = some (.ref G)
 gt:ziR w K G zha
 ms:mg "SINGLE_GROUPS" = some (.ref sg)
 hs:∀ H,SqT K H sg [.int 1,.int 3]
def Cs5 (c:C5):Addr->Prop:=fun C=>∃ k,k < 5/\C = c.at k
def zb9 (K:Frag):Sp:=fun vs H Q _=>∃ (a b:Addr) (xs ys:List V),vs = [.ref a,.ref b]/\SqL K H a xs/\SqL K H b ys/\xs.length<=24/\ys.length<=60/\Q .non H
def zeK (c:C5):Sp:=fun vs H Q _=>∃ (a:Addr) (ps:List Addr) (rows:List Rw),vs = [.ref a]/\H a = some (.lst (ps.map V.ref))/\Paired (PAt c H) ps rows/\(∀ r ∈ rows,r.ok)/\zW 0 rows = true/\∀ H',zm H H'->Q .non H'
def zhQ:Sp:=fun vs H Q _=>∃ (b:Addr) (bars:List Str),vs = [.ref b]/\H b = some (.lst (bars.map V.str))/\(∀ z ∈ bars,xh z = true)/\∀ H',zm H H'->Q .non H'
def zhP (c:C5):Sp:=fun vs H Q _=>∃ (a b:Addr) (ps:List Addr) (rows:List Rw) (bars:List Str),vs = [.ref a,.ref b]/\H a = some (.lst (ps.map V.ref))/\Paired (PAt c H) ps rows/\(∀ r ∈ rows,r.ok)/\rows.length<=500/\H b = some (.lst (bars.map V.str))/\bars.length<=500/\(nms rows ++ bars).Nodup/\∀ H',zm H H'->Q .non H'
def zhS (c:C5):Sp:=fun vs H Q _=>∃ (a:Addr) (ps:List Addr) (rows:List Rw) (kk:Nat),vs = [.ref a,.str (kw kk)]/\kk < 5/\H a = some (.lst (ps.map V.ref))/\Paired (PAt c H) ps rows/\(∀ r ∈ rows,r.ok)/\∀ H',zm H H'->Q (xZ (zy kk 0 rows)) H'
theorem ziu:∀ i:Nat,i < 5->∀ k:Nat,k < 5->decide (V.str (kw k) = V.str (kw i)) = (k == i):=by decide +kernel
theorem zdA {α : Type} {xs:List α} {i:Nat} {x : α} (h:xs[i]? = some x):xs.drop i = x :: xs.drop (i + 1):=by
 have hi:i < xs.length:=(List.getElem?_eq_some_iff.mp h).1
 rw [List.drop_eq_getElem_cons hi]
 rw [List.getElem?_eq_getElem hi] at h
 rw [Option.some.inj h]
theorem xn {ps:List Addr} {i:Nat} {x:V} (h:(ps.map V.ref)[i]? = some x):∃ p,ps[i]? = some p/\x = .ref p:=by
 rw [List.getElem?_map] at h
 cases e:ps[i]? with
 | none=>rw [e] at h; cases h
 | some p=>rw [e] at h; exact ⟨p,rfl,(Option.some.inj h).symm⟩
theorem strs_at {zs:List Str} {i:Nat} {x:V} (h:(zs.map V.str)[i]? = some x):∃ z,zs[i]? = some z/\x = .str z:=by
 rw [List.getElem?_map] at h
 cases e:zs[i]? with
 | none=>rw [e] at h; cases h
 | some p=>rw [e] at h; exact ⟨p,rfl,(Option.some.inj h).symm⟩
section
variable {P:Program} {w:World} {K:Frag} {mg:Str->Option Value} {base:Heap} {f G sg:Addr} {fd:FuncData} {c:C5} {m:MA}
def Pcs (K:Frag) (m:MA) (c:C5):Prop:=∀ k,k < 5->PC K m (c.at k)
theorem zgu:zu ["parameters","bars"] ["parameters","bars"] (ze uO):=⟨rfl,rfl,rfl,by decide +kernel,rfl,by decide +kernel,by decide +kernel⟩
theorem zgV (F:Fun K "refuse_too_many" "refuse_too_many" uO f fd) (T:zb2 w K mg G sg):zC P w K mg base CX0 1 f fd ["parameters","bars"] (zb9 K):=by
 refine F.ok zgu (fun vs H Q E h=>?_) (fun cdv A outer s H vs Q E hr h=>?_)
 ·obtain ⟨a,b,xs,ys,rfl,_⟩:=h
  rfl
 obtain ⟨a,b,xs,ys,rfl,ha,hb,l1,l2,q⟩:=h
 obtain ⟨t1,m1⟩:=T.mp
 obtain ⟨t2,m2⟩:=T.mb
 refine ⟨_,zd (zJ (zo zbv (cB zB T.len PySem.boot_len (ac (pv 0) zb)) (wH (v:=.int 24) rfl m1 ⟨_,rfl⟩) (zx _)) (zh uf) zA)
  (zh (zJ (zo zbv (cB zB T.len PySem.boot_len (ac (pv 1) zb)) (wH (v:=.int 60) rfl m2 ⟨_,rfl⟩) (zx _)) (zh uf) zA)),?_⟩
 refine ⟨_,rfl,a,_,rfl,.inl ha,_,_,rfl,rfl,_,rfl,?_⟩
 refine dF (by show ¬ (24:Int) < (xs.length:Int); omega) ?_
 refine ⟨_,rfl,b,_,rfl,.inl hb,_,_,rfl,rfl,_,rfl,?_⟩
 exact dF (by show ¬ (60:Int) < (ys.length:Int); omega) q
theorem wn:zu ["parameters","last","at","parameter","group"] ["parameters"] (ze vt):=⟨rfl,rfl,rfl,by decide +kernel,rfl,by decide +kernel,by decide +kernel⟩
theorem zfu (F:Fun K "refuse_bad_order" "refuse_bad_order" vt f fd) (T:zb2 w K mg G sg) (PP:Pcs K m c):zC P w K mg base CX0 1 f fd ["parameters"] (zeK c):=by
 refine F.ok wn (fun vs H Q E h=>?_) (fun cdv A outer s H vs Q E hr h=>?_)
 ·obtain ⟨a,ps,rows,rfl,_⟩:=h
  rfl
 obtain ⟨a,ps,rows,rfl,ha,hp,hok,ho,q⟩:=h
 refine ⟨_,zd (zv (i:=1) wn.nd rfl (Or.inl rfl) zg)
  (zh (yE PassesOwn.never rfl (xa rfl T.en (ac (pv 0) zb)) (yc rfl (zt (zk (i:=2) wn.nd rfl (Or.inl rfl)) (zt (zk (i:=3) wn.nd rfl (Or.inl rfl)) zV)))
   (zd (zv (i:=4) wn.nd rfl (Or.inl rfl) (zgK T.gt T.mgr (yO (pv 3) rfl)))
   (zd (zJ (PW.pt (zeV (zo jk (pv 4) (pv 1) (zx _)) (zci (PW.pt (xw (zo ym (pv 4) (pv 1) (zx _)) (yZ (zo y1 (pv 4) (wH (v:=.ref sg) rfl T.ms rfl) (by with_unfolding_all rfl)))))))) (zh uf) zA)
   (zh (zv (i:=1) wn.nd rfl (Or.inl rfl) (pv 4))))))),?_⟩
 show xY _ _ _ _ _
 refine ⟨_,rfl,a,rfl,⟨_,SqL.of ha⟩,vj (K:=K) (a:=a) (xs:=ps.map V.ref) (fun i σ H'=>∃ (l:Nat) (v2 v3 v4:Option V),σ = [some (.ref a),some (.int (l:Nat)),v2,v3,v4]/\zm H H'/\zW l (rows.drop i) = true)
  ⟨0,_,_,_,rfl,zm.refl _,ho⟩ (fun i σ H' _ ⟨_,_,_,_,_,sH,_⟩=>SqL.of (sH _ _ ha)) ?_ ?_⟩
 ·rintro i x p σ H' hx ⟨l,v2,v3,v4,rfl,sH,hl⟩ hpn
  obtain ⟨pa,hpa,rfl⟩:=xn hx
  obtain ⟨r,hr',dx,hdx⟩:=yv hp hpa
  have rok:=hok r (List.mem_of_getElem? hr')
  have C:=PP r.k rok.1
  rw [zdA hr'] at hl
  have hl':(!yB l (grp r.k) && zW (grp r.k) (rows.drop (i + 1))) = true:=hl
  rw [Bool.and_eq_true,Bool.not_eq_true'] at hl'
  obtain ⟨hb,hl2⟩:=hl'
  have hb':(decide (grp r.k < l) || (grp r.k == l && (grp r.k == 1 || grp r.k == 3))) = false:=hb
  rw [Bool.or_eq_false_iff] at hb'
  have sp:=zc hpn (.tup [.int (i:Nat),.ref pa])
  refine ⟨p,_,rfl,SqT.of za,rfl,_,_,rfl,_,_,rfl,rfl,?_⟩
  refine ⟨_,rfl,pa,_,dx,_,_,rfl,sp _ _ (sH _ _ hdx),C.cl,C.nW,uh,kw r.k,.int (grp r.k),rfl,zg9 r.k rok.1,?_⟩
  refine ⟨_,rfl,_,rfl,_,_,rfl,rfl,_,rfl,?_⟩
  refine dF (fun z=>by have:=of_decide_eq_false hb'.1; omega) ?_
  have fin:∃ (l':Nat) (v2 v3 v4:Option V),([some (.ref a),some (.int (grp r.k:Nat)),some (.int (i:Nat)),some (.ref pa),some (.int (grp r.k:Nat))]:L2.St) = [some (.ref a),some (.int (l':Nat)),v2,v3,v4]/\zm H (upd H' p (.tup [.int (i:Nat),.ref pa]))/\zW l' (rows.drop (i + 1)) = true:=
   ⟨grp r.k,_,_,_,rfl,sH.trans sp,hl2⟩
  refine ⟨_,rfl,_,rfl,rfl,_,rfl,?_⟩
  by_cases e:grp r.k = l
  ·refine dT (by rw [e]) ?_
   refine ⟨_,rfl,sg,_,rfl,.inr (T.hs _),rfl,(by decide),_,rfl,?_⟩
   have h13:(grp r.k == 1 || grp r.k == 3) = false:=by
    have:=hb'.2
    rw [e] at this |-
    simpa using this
   have hin:inV (.int (grp r.k:Nat)) [.int 1,.int 3] = false:=by
    have g4:=ziD r.k
    have:∀ g:Nat,g < 4->(g == 1 || g == 3) = false->inV (.int (g:Nat)) [.int 1,.int 3] = false:=by decide +kernel
    exact this _ g4 h13
   rw [show (if false = true then !inV (V.int ((grp r.k:Nat):Int)) [V.int 1,V.int 3] else inV (V.int ((grp r.k:Nat):Int)) [V.int 1,V.int 3]) = false from hin]
   refine y9 ?_
   exact ⟨_,rfl,fin⟩
  ·refine dF (fun z=>e (by have:=V.int.inj z; omega)) ?_
   exact ⟨_,rfl,fin⟩
 ·rintro σ H' ⟨l,v2,v3,v4,rfl,sH,_⟩
  exact q _ sH
end
end K25
namespace L2
open PySem PySem.Spec PyProof.Rows
theorem zdg {X:Cx} {K:Frag} {e:Expr} {f:Str} {pos:Pos} {ta:TE} (hK:X.K = K) (he:PE X e ta) (hb:attributeBase e f X.env (eval e X.env) = eval e X.env):PE X (.Attribute e f pos) (zi3 K ta f):=hK ▸ yO he hb
end L2
namespace K25
open PySem L2 PyProof.Rows
theorem z8 {n:Nat} (h:n<=1000):n<=sizeLine:=Nat.le_of_lt (zz h)
theorem zg6 {rows:List Rw} {i:Nat} {r:Rw} (h:rows[i]? = some r):nms (rows.take (i + 1)) = nms (rows.take i) ++ (if z0 r.k = true then [r.z] else []):=by
 have hi:i < rows.length:=(List.getElem?_eq_some_iff.mp h).1
 have e:rows[i] = r:=by rw [List.getElem?_eq_getElem hi] at h; exact Option.some.inj h
 unfold nms
 rw [List.take_succ_eq_append_getElem hi,List.filter_append,List.map_append,e]
 cases hb:z0 r.k <;> simp [hb]
section
variable {P:Program} {w:World} {K:Frag} {mg:Str->Option Value} {base:Heap} {f G sg:Addr} {fd:FuncData} {c:C5} {m:MA}
theorem zch:zu ["parameters","word","at","parameter"] ["parameters","word"] (ze qH):=⟨rfl,rfl,rfl,by decide +kernel,rfl,by decide +kernel,by decide +kernel⟩
theorem zgU (F:Fun K "number_of_word" "number_of_word" qH f fd) (T:zb2 w K mg G sg) (PP:Pcs K m c):zC P w K mg base CX0 1 f fd ["parameters","word"] (zhS c):=by
 refine F.ok zch (fun vs H Q E h=>?_) (fun cdv A outer s H vs Q E hr h=>?_)
 ·obtain ⟨a,ps,rows,kk,rfl,_⟩:=h
  rfl
 obtain ⟨a,ps,rows,kk,rfl,hkk,ha,hp,hok,q⟩:=h
 refine ⟨_,zd (yE PassesOwn.never rfl (xa rfl T.en (ac (pv 0) zb)) (yc rfl (zt (zk (i:=2) zch.nd rfl (Or.inl rfl)) (zt (zk (i:=3) zch.nd rfl (Or.inl rfl)) zV)))
   (zh (zJ (zo ym (yO (pv 3) rfl) (pv 1) (zx _)) (zh (zw (pv 2))) zA))) (zh (zw zib)),?_⟩
 refine ⟨_,rfl,a,rfl,⟨_,SqL.of ha⟩,vj (K:=K) (a:=a) (xs:=ps.map V.ref) (fun i σ H'=>∃ (v2 v3:Option V),σ = [some (.ref a),some (.str (kw kk)),v2,v3]/\zm H H'/\zy kk i (rows.drop i) = zy kk 0 rows)
  ⟨_,_,rfl,zm.refl _,rfl⟩ (fun i σ H' _ ⟨_,_,_,sH,_⟩=>SqL.of (sH _ _ ha)) ?_ ?_⟩
 ·rintro i x p σ H' hx ⟨v2,v3,rfl,sH,hl⟩ hpn
  obtain ⟨pa,hpa,rfl⟩:=xn hx
  obtain ⟨r,hr',dx,hdx⟩:=yv hp hpa
  have rok:=hok r (List.mem_of_getElem? hr')
  have C:=PP r.k rok.1
  rw [zdA hr'] at hl
  have hl':(if r.k = kk then some i else zy kk (i + 1) (rows.drop (i + 1))) = zy kk 0 rows:=hl
  have sp:=zc hpn (.tup [.int (i:Nat),.ref pa])
  refine ⟨p,_,rfl,SqT.of za,rfl,_,_,rfl,_,_,rfl,rfl,?_⟩
  refine ⟨_,rfl,pa,_,dx,_,_,rfl,sp _ _ (sH _ _ hdx),C.cl,C.nW,uh,_,rfl,rfl,_,rfl,?_⟩
  by_cases e:r.k = kk
  ·refine dT (by rw [e]) ?_
   rw [if_pos e] at hl'
   refine ⟨_,rfl,?_⟩
   have:=q _ (sH.trans sp)
   rw [<- hl'] at this
   exact this
  ·refine dF (fun z=>?_) ?_
   ·have h1:=ziu kk hkk r.k rok.1
    rw [decide_eq_true z] at h1
    exact e (by simpa using h1.symm)
   ·rw [if_neg e] at hl'
    exact ⟨_,_,rfl,sH.trans sp,hl'⟩
 ·rintro σ H' ⟨v2,v3,rfl,sH,hl⟩
  have e:zy kk 0 rows = none:=by
   rw [<- hl,List.length_map,hp.length,List.drop_length]
   rfl
  have:=q _ sH
  rw [e] at this
  exact this
theorem zc6:zu ["bars","bar"] ["bars"] (ze uP):=⟨rfl,rfl,rfl,by decide +kernel,rfl,by decide +kernel,by decide +kernel⟩
theorem zfq {g:Addr} {gd:FuncData} (F:Fun K "refuse_bars_without_name" "refuse_bars_without_name" uP f fd) (cI:zl P w K mg base 1 "is_name" g gd ["thing"] (zgs K)):zC P w K mg base CX0 2 f fd ["bars"] zhQ:=by
 refine F.ok zc6 (fun vs H Q E h=>?_) (fun cdv A outer s H vs Q E hr h=>?_)
 ·obtain ⟨b,bars,rfl,_⟩:=h
  rfl
 obtain ⟨b,bars,rfl,hb,hn,q⟩:=h
 refine ⟨_,zh (yE PassesOwn.never rfl (yH (pv 0)) (zk (i:=1) zc6.nd rfl (Or.inl rfl)) (zh (zJ (wY (xF (cF cI hr (ac (pv 1) zb)))) (zh uf) zA))),?_⟩
 refine ⟨_,rfl,b,rfl,⟨_,SqL.of hb⟩,vi (K:=K) (a:=b) (xs:=bars.map V.str) (fun i σ H'=>∃ v1,σ = [some (.ref b),v1]/\zm H H') ⟨_,rfl,zm.refl _⟩ (fun i σ H' _ ⟨_,_,sH⟩=>SqL.of (sH _ _ hb)) ?_ ?_⟩
 ·rintro i x σ H' hx ⟨v1,rfl,sH⟩
  obtain ⟨z,hz,rfl⟩:=strs_at hx
  have nz:=hn z (List.mem_of_getElem? hz)
  refine ⟨_,rfl,_,rfl,.inl ⟨z,rfl,zbA nz⟩,fun H2 s2=>⟨_,rfl,?_⟩⟩
  rw [show nmV (.str z) = true from nz]
  refine y9 ?_
  exact ⟨_,rfl,sH.trans s2⟩
 ·rintro σ H' ⟨v1,rfl,sH⟩
  exact q _ sH
theorem zjn:([Str.ofString "parameter"]:List Str).Nodup:=by decide +kernel
theorem jN:zu ["parameters","bars","seen","name"] ["parameters","bars"] (ze vq):=⟨rfl,rfl,rfl,by decide +kernel,rfl,by decide +kernel,by decide +kernel⟩
theorem zfm {gd:FuncData} (F:Fun K "refuse_twice" "refuse_twice" vq f fd) (T:zb2 w K mg G sg) (PP:Pcs K m c) (GB:zC P w K mg base CX0 1 m.fB gd ["self"] (zaz K m bnL)) (bB:zS K gd ["self"] []):zC P w K mg base CX0 2 f fd ["parameters","bars"] (zhP c):=by
 refine F.ok jN (fun vs H Q E h=>?_) (fun cdv A outer s H vs Q E hr h=>?_)
 ·obtain ⟨a,b,ps,rows,bars,rfl,_⟩:=h
  rfl
 obtain ⟨a,b,ps,rows,bars,rfl,ha,hp,hok,l1,hb,l2,nd,q⟩:=h
 have hC:∀ C,Cs5 c C->Cls K C/\y6 K C "by_name" m.fB:=fun C ⟨k,hk,e⟩=>by rw [e]; exact ⟨(PP k hk).cl,(PP k hk).mB⟩
 refine ⟨_,zd (zv (i:=2) jN.nd rfl (Or.inl rfl) (zcl zeA rfl T.set (by decide +kernel:bootBuiltins "set" = some (.type "set"))))
  (zh (yE PassesOwn.never rfl (yH (zr y8 (xI [] ["parameter"] [none] rfl ⟨rfl,rfl,rfl,rfl⟩ (yH (pv 0)) (yx 0) rfl rfl rfl
    (fun pins fp s H C=>⟨zk (i:=0) zjn rfl (Or.inl rfl) (.inr rfl),y0 (xF (ui (pv 0) hC GB hr bB y7)),zdg (K:=K) rfl (pv 0) rfl⟩)) (cTy y3 T.lst PyProof.Rows.boot_list (ac (pv 1) zb)))) (zk (i:=3) jN.nd rfl (Or.inl rfl))
   (zd (zJ (zo jT (pv 3) (pv 2) (by with_unfolding_all rfl)) (zh uf) zA)
   (zh (zE (zgJ (pv 2) (pv 3) ⟨rfl,rfl,rfl,rfl⟩)))))),?_⟩
 refine ⟨rfl,fun se hse=>?_⟩
 have s1:zm H (upd H se (wQ P w se (fun _=>false) 0)):=zc hse _
 have g1:upd H se (wQ P w se (fun _=>false) 0) se = some (wQ P w se (fun _=>false) 0):=za
 show xY _ _ _ _ (upd H se (wQ P w se (fun _=>false) 0))
 generalize upd H se (wQ P w se (fun _=>false) 0) = H1 at s1 g1 |-
 have ha1:=s1 _ _ ha
 have hp1:=xx s1 hp
 refine ⟨_,rfl,a,rfl,⟨_,SqL.of ha1⟩,fun D hD=>?_⟩
 refine uu (K:=K) (xs:=ps.map V.ref) (fun i ys H'=>zm H1 H'/\H' D = some (.lst ys)/\ys = (nms (rows.take i)).map V.str) ⟨zc hD _,za,rfl⟩ (fun i ys H' h=>SqL.of (h.1 _ _ ha1)) ?_ ?_
 ·rintro i x ys H' hlt hx ⟨sH,hDy,ey⟩
  obtain ⟨pa,hpa,rfl⟩:=xn hx
  obtain ⟨r,hr',dx,hdx⟩:=yv hp1 hpa
  have rok:=hok r (List.mem_of_getElem? hr')
  have C:=PP r.k rok.1
  have nl:ys.length<=i:=by
   rw [ey,List.length_map]
   unfold nms
   rw [List.length_map]
   refine Nat.le_trans (List.length_filter_le _ _) ?_
   rw [List.length_take]
   omega
  have hd2:=sH _ _ hdx
  refine ⟨_,rfl,pa,_,dx,_,rfl,⟨r.k,rok.1,rfl⟩,hd2,qX (by decide +kernel) (by decide +kernel) (by decide +kernel),pa,dx,_,_,_,_,rfl,C,hd2,_,rfl,?_⟩
  rw [qc r.k rok.1]
  have tk:=zg6 hr'
  refine ⟨fun e=>?_,fun e=>?_⟩
  ·rw [e,if_pos rfl] at tk
   refine ⟨_,rfl,pa,_,dx,_,_,rfl,hd2,C.cl,C.nN,jx,?_⟩
   refine lcN.mk hlt (z8 (by rw [List.length_map,hp.length]; omega)) hDy nl ⟨fun b u e=>?_,za,?_⟩
   ·rw [zi (zf e hD)]
    exact sH b u e
   ·rw [ey,tk,List.map_append]
    rfl
  ·rw [e,if_neg Bool.false_ne_true,List.append_nil] at tk
   exact lcS.mk hlt ⟨sH,hDy,by rw [ey,tk]⟩
 rintro ys H2 ⟨s2,hDy,ey⟩
 have ey:ys = (nms rows).map V.str:=by
  rw [ey,List.length_map,hp.length,List.take_length]
 subst ey
 have hb2:=s2 _ _ (s1 _ _ hb)
 refine ⟨_,rfl,b,_,rfl,.inl (SqL.of hb2),fun l hl=>?_⟩
 have s3:=zc hl (.lst (bars.map V.str))
 have g3:upd H2 l (.lst (bars.map V.str)) l = some (.lst (bars.map V.str)):=za
 generalize upd H2 l (.lst (bars.map V.str)) = H3 at s3 g3 |-
 have ln:(nms rows).length<=500:=by
  unfold nms
  rw [List.length_map]
  exact Nat.le_trans (List.length_filter_le _ _) l1
 refine ⟨D,l,_,_,rfl,rfl,s3 _ _ hDy,g3,z8 (by rw [List.length_map,List.length_map]; omega),fun l4 hl4=>?_⟩
 rw [<- List.map_append]
 have s4:=zc hl4 (.lst ((nms rows ++ bars).map V.str))
 have g4:upd H3 l4 (.lst ((nms rows ++ bars).map V.str)) l4 = some (.lst ((nms rows ++ bars).map V.str)):=za
 have nse:l4 ≠ se:=fun z=>by
  rw [z] at hl4
  rw [s3 _ _ (s2 _ _ g1)] at hl4
  cases hl4
 generalize upd H3 l4 (.lst ((nms rows ++ bars).map V.str)) = H4 at s4 g4 |-
 have sA:zm H1 H4:=s2.trans (s3.trans s4)
 have gse:=sA _ _ g1
 refine ⟨l4,rfl,⟨_,SqL.of g4⟩,vi (K:=K) (a:=l4) (xs:=(nms rows ++ bars).map V.str) (fun i σ H'=>∃ (S:Str->Bool) (n:Nat) (v3:Option V),σ = [some (.ref a),some (.ref b),some (.ref se),v3]/\H' se = some (wQ P w se S n)/\(∀ z,S z = decide (z ∈ (nms rows ++ bars).take i))/\n<=i/\(∀ b' u,H4 b' = some u->b' ≠ se->H' b' = some u))
  ⟨_,0,_,rfl,gse,fun z=>by simp,Nat.le_refl _,fun b' u e _=>e⟩ (fun i σ H' _ ⟨_,_,_,_,_,_,_,k⟩=>SqL.of (k _ _ g4 nse)) ?_ ?_⟩
 ·rintro i x σ H' hx ⟨S,n,v3,rfl,hS,hSz,hn,k⟩
  obtain ⟨z,hz,rfl⟩:=strs_at hx
  have hi:i < (nms rows ++ bars).length:=(List.getElem?_eq_some_iff.mp hz).1
  have ez:(nms rows ++ bars)[i] = z:=by rw [List.getElem?_eq_getElem hi] at hz; exact Option.some.inj hz
  have nz:S z = false:=by
   rw [hSz,decide_eq_false_iff_not]
   intro hm
   obtain ⟨j,hj,ej⟩:=List.mem_take_iff_getElem.mp hm
   have:=List.pairwise_iff_getElem.mp nd j i (by omega) hi (by omega)
   exact this (ej.trans ez.symm)
  refine ⟨_,rfl,_,rfl,se,S,n,z,rfl,rfl,hS,_,rfl,?_⟩
  rw [nz]
  refine y9 ?_
  refine ⟨_,rfl,se,S,n,rfl,hS,_,rfl,S,n,z,rfl,hS,?_,?_⟩
  ·rw [List.length_append] at hi
   show n + 1 < 4096
   omega
  ·refine ⟨_,_,_,rfl,za,fun y=>?_,?_,fun b' u e ne=>?_⟩
   ·rw [hSz y,List.take_succ_eq_append_getElem hi,ez]
    simp [List.mem_append]
   ·rw [nz]
    show n + 1<=i + 1
    omega
   ·rw [zi ne]
    exact k b' u e ne
 ·rintro σ H' ⟨S,n,v3,rfl,hS,hSz,hn,k⟩
  refine q _ fun b' u e=>k b' u (sA _ _ (s1 _ _ e)) fun z=>?_
  rw [z,hse] at e
  cases e
end
def SX (f:Addr) (H H':Hp):Prop:=∀ b u,H b = some u->b ≠ f->H' b = some u
theorem SX.same {f:Addr} {H H1 H2:Hp} (x:SX f H H1) (s:zm H1 H2):SX f H H2:=fun b u e n=>s b u (x b u e n)
theorem SX.upd {f:Addr} {H H1:Hp} {o:HO} (x:SX f H H1):SX f H (upd H1 f o):=fun b u e n=>by rw [zi n]; exact x b u e n
theorem SX.refl {f:Addr} {H:Hp}:SX f H H:=fun _ _ e _=>e
theorem wF (f:Str) (v:V):∀ fs:List (Str × V),(zT f v fs).length<=fs.length + 1
 | []=>Nat.le_refl _
 | (g,x) :: r=>by
  show (if g = f then (g,v) :: r else (g,x) :: zT f v r).length<=_
  split
  ·simp
  ·have:=wF f v r
   simp only [List.length_cons]
   omega
def Pre (fs:List (Str × V)):Prop:=fs.length<=50/\∀ m,m ∉ zgg->fs.lookup m = none
structure FC (K:Frag) (CF:Addr):Prop where
 cl:Cls K CF
 n1:xf K CF "row"
 n2:xf K CF "bar_names"
 n3:xf K CF "place_count"
 n4:xf K CF "tail_number"
 n5:xf K CF "bag_number"
 n6:xf K CF "doors"
def zcb (c:C5) (CF:Addr):Sp:=fun vs H Q _=>∃ (f a b dx:Addr) (fs:List (Str × V)) (ps:List Addr) (rows:List Rw) (bars:List Str),vs = [.ref f,.ref a,.ref b]/\H f = some (.ins CF dx fs)/\Pre fs/\H a = some (.lst (ps.map V.ref))/\Paired (PAt c H) ps rows/\(∀ r ∈ rows,r.ok)/\rows.length<=500/\H b = some (.lst (bars.map V.str))/\
 ∀ H',SX f H H'->qo c CF H H' f rows bars->(∃ dx' fs',H' f = some (.ins CF dx' fs')/\fs'.length<=fs.length + 6)->Q .non H'
theorem zgG {rows:List Rw} {i:Nat} {r:Rw} (h:rows[i]? = some r):plN (rows.take (i + 1)) = plN (rows.take i) + (if xc r.k = true then 1 else 0):=by
 have hi:i < rows.length:=(List.getElem?_eq_some_iff.mp h).1
 have e:rows[i] = r:=by rw [List.getElem?_eq_getElem hi] at h; exact Option.some.inj h
 unfold plN
 rw [List.take_succ_eq_append_getElem hi,List.filter_append,List.length_append,e]
 cases hb:xc r.k <;> simp [hb]
theorem zaf:∀ (rows:List Rw) (i:Nat) (acc:List (Key × V)),(yl i acc rows).length<=acc.length + rows.length
 | [],_,_=>Nat.le_refl _
 | r :: rs,i,acc=>by
  have h:=zaf rs (i + 1) (if z0 r.k = true then yr acc (.inr r.z) (.int i) else acc)
  have h2:(if z0 r.k = true then yr acc (.inr r.z) (.int i) else acc).length<=acc.length + 1:=by
   split
   ·exact xi acc _ _
   ·omega
  show (yl (i + 1) _ rs).length<=acc.length + (rs.length + 1)
  omega
theorem jo {r:Rw}:∀ (rows:List Rw) (j i:Nat) (acc:List (Key × V)),rows[i]? = some r->yl j acc (rows.take (i + 1)) = (if z0 r.k = true then yr (yl j acc (rows.take i)) (.inr r.z) (.int (j + i:Nat)) else yl j acc (rows.take i))
 | [],_,_,_,h=>by simp at h
 | r0 :: rs,j,0,acc,h=>by
  have e:r0 = r:=by simpa using h
  subst e
  show (if z0 r0.k = true then yr acc (.inr r0.z) (.int j) else acc) = _
  rfl
 | r0 :: rs,j,i + 1,acc,h=>by
  have:=jo rs (j + 1) i (if z0 r0.k = true then yr acc (.inr r0.z) (.int j) else acc) (by simpa using h)
  show yl (j + 1) _ (rs.take (i + 1)) = _
  rw [this,show j + 1 + i = j + (i + 1) by omega]
  rfl
section
variable {P:Program} {w:World} {K:Frag} {mg:Str->Option Value} {base:Heap} {f G sg CF:Addr} {fd:FuncData} {c:C5} {m:MA}
theorem PAt.ne {H:Hp} {p f CF dx:Addr} {r:Rw} {fs:List (Str × V)} (h:PAt c H p r) (e:H f = some (.ins CF dx fs)) (n:fs.lookup ("word" : Str) = none):p ≠ f:=fun z=>by
 obtain ⟨d,h⟩:=h
 rw [z,e] at h
 injection h with h
 injection h with h1 h2 h3
 rw [h3,uh] at n
 cases n
theorem uj {H H':Hp} {f CF dx:Addr} {fs:List (Str × V)} (e:H f = some (.ins CF dx fs)) (n:fs.lookup ("word" : Str) = none) (x:SX f H H') {ps:List Addr} {rows:List Rw} (h:Paired (PAt c H) ps rows):Paired (PAt c H') ps rows:=
 Paired.imp' (fun _ _ z=>by
  have ne:=z.ne e n
  obtain ⟨d,q⟩:=z
  exact ⟨d,x _ _ q ne⟩) h
theorem zju:([Str.ofString "at",Str.ofString "parameter"]:List Str).Nodup:=by decide +kernel
theorem zhX:zu ["self","parameters","bars"] ["self","parameters","bars"] (ze qL):=⟨rfl,rfl,rfl,by decide +kernel,rfl,by decide +kernel,by decide +kernel⟩
theorem zgY {g:Addr} {gd gp gb:FuncData} (F:Fun K "keep" "Form.keep" qL f fd) (T:zb2 w K mg G sg) (PP:Pcs K m c) (FK:FC K CF) (cW:zl P w K mg base 1 "number_of_word" g gd ["parameters","word"] (zhS c))
  (GP:zC P w K mg base CX0 1 m.fP gp ["self"] (zaz K m bpL)) (bP:zS K gp ["self"] []) (GB:zC P w K mg base CX0 1 m.fB gb ["self"] (zaz K m bnL)) (bB:zS K gb ["self"] []):zC P w K mg base CX0 2 f fd ["self","parameters","bars"] (zcb c CF):=by
 refine F.ok zhX (fun vs H Q E h=>?_) (fun cdv A outer s H vs Q E hr h=>?_)
 ·obtain ⟨f,a,b,dx,fs,ps,rows,bars,rfl,_⟩:=h
  rfl
 obtain ⟨f,a,b,dx,fs,ps,rows,bars,rfl,hf,⟨pl,pn⟩,ha,hp,hok,l5,hb,q⟩:=h
 have hP:∀ C,Cs5 c C->Cls K C/\y6 K C "by_place" m.fP:=fun C ⟨k,hk,e⟩=>by rw [e]; exact ⟨(PP k hk).cl,(PP k hk).mP⟩
 have hB:∀ C,Cs5 c C->Cls K C/\y6 K C "by_name" m.fB:=fun C ⟨k,hk,e⟩=>by rw [e]; exact ⟨(PP k hk).cl,(PP k hk).mB⟩
 have nw:fs.lookup ("word" : Str) = none:=pn _ (by decide +kernel)
 refine ⟨_,zd (wG (pv 0) (cTy y3 T.lst PyProof.Rows.boot_list (ac (pv 1) zb)) rfl)
  (zd (wG (pv 0) (cTy y3 T.lst PyProof.Rows.boot_list (ac (pv 2) zb)) rfl)
  (zd (wG (pv 0) (cB zB T.len PySem.boot_len (ac (xI [] ["parameter"] [none] rfl ⟨rfl,rfl,rfl,rfl⟩ (yH (yO (pv 0) rfl)) (yx 0) rfl rfl rfl
    (fun pins fp s H C=>⟨zk (i:=0) zjn rfl (Or.inl rfl) (.inr rfl),y0 (xF (ui (pv 0) hP GP hr bP y7)),pv 0⟩)) zb)) rfl)
  (zd (wG (pv 0) (cF cW hr (ac (yO (pv 0) rfl) (ac zq zb))) rfl)
  (zd (wG (pv 0) (cF cW hr (ac (yO (pv 0) rfl) (ac zq zb))) rfl)
  (zh (wG (pv 0) (zjh [] ["at","parameter"] [none,none] rfl ⟨rfl,rfl,rfl,rfl⟩ (xa rfl T.en (ac (yO (pv 0) rfl) zb)) (yw (K:=K) (n:=2) 0 1) rfl rfl rfl
    (fun pins fp s H C=>⟨yc rfl (zt (zk (i:=0) zju rfl (Or.inl rfl) (.inr rfl)) (zt (zk (i:=1) zju rfl (Or.inl rfl) (.inr rfl)) zV)),y0 (xF (ui (pv 1) hB GB hr bB y7)),zdg (K:=K) rfl (pv 1) rfl,pv 0⟩)) rfl)))))),?_⟩
 refine ⟨_,rfl,a,_,rfl,.inl (SqL.of ha),fun l1 hl1=>?_⟩
 have s1:=zc hl1 (.lst (ps.map V.ref))
 refine ⟨_,rfl,f,CF,dx,fs,rfl,s1 _ _ hf,FK.cl,FK.n1,(by omega),?_⟩
 have x1:SX f H (upd (upd H l1 (.lst (ps.map V.ref))) f (.ins CF dx (zT "row" (.ref l1) fs))):=(SX.refl.same s1).upd
 have f1:upd (upd H l1 (.lst (ps.map V.ref))) f (.ins CF dx (zT "row" (.ref l1) fs)) f = some (.ins CF dx (zT "row" (.ref l1) fs)):=za
 have e1:upd (upd H l1 (.lst (ps.map V.ref))) f (.ins CF dx (zT "row" (.ref l1) fs)) l1 = some (.lst (ps.map V.ref)):=by
  rw [zi (fun z=>by rw [z,hf] at hl1; cases hl1),za]
 have p1:=wF "row" (.ref l1) fs
 have r1:(zT "row" (.ref l1) fs).lookup ("row" : Str) = some (.ref l1):=by rw [zj,if_pos rfl]
 show xY _ _ _ _ (upd (upd H l1 (.lst (ps.map V.ref))) f (.ins CF dx (zT "row" (.ref l1) fs)))
 generalize upd (upd H l1 (.lst (ps.map V.ref))) f (.ins CF dx (zT "row" (.ref l1) fs)) = H1 at x1 f1 e1 |-
 have nbf:b ≠ f:=xK hb hf (by intro z; cases z)
 refine ⟨_,rfl,b,_,rfl,.inl (SqL.of (x1 _ _ hb nbf)),fun l2 hl2=>?_⟩
 have s2:=zc hl2 (.lst (bars.map V.str))
 have hlb:H l2 = none:=by
  cases e:H l2 with
  | none=>rfl
  | some u=>exact absurd (x1 _ _ e (fun z=>by rw [z,f1] at hl2; cases hl2)) (by rw [hl2]; intro z; cases z)
 refine ⟨_,rfl,f,CF,dx,_,rfl,s2 _ _ f1,FK.cl,FK.n2,(by omega),?_⟩
 have x2:SX f H (upd (upd H1 l2 (.lst (bars.map V.str))) f (.ins CF dx (zT "bar_names" (.ref l2) (zT "row" (.ref l1) fs)))):=(x1.same s2).upd
 have f2:upd (upd H1 l2 (.lst (bars.map V.str))) f (.ins CF dx (zT "bar_names" (.ref l2) (zT "row" (.ref l1) fs))) f = some (.ins CF dx (zT "bar_names" (.ref l2) (zT "row" (.ref l1) fs))):=za
 have g2:upd (upd H1 l2 (.lst (bars.map V.str))) f (.ins CF dx (zT "bar_names" (.ref l2) (zT "row" (.ref l1) fs))) l2 = some (.lst (bars.map V.str)):=by
  rw [zi (fun z=>by rw [z,f1] at hl2; cases hl2),za]
 have e2:upd (upd H1 l2 (.lst (bars.map V.str))) f (.ins CF dx (zT "bar_names" (.ref l2) (zT "row" (.ref l1) fs))) l1 = some (.lst (ps.map V.ref)):=by
  rw [zi (xK e1 f1 (by intro z; cases z)),s2 _ _ e1]
 have p2:=wF "bar_names" (.ref l2) (zT "row" (.ref l1) fs)
 have r2:(zT "bar_names" (.ref l2) (zT "row" (.ref l1) fs)).lookup ("row" : Str) = some (.ref l1):=by rw [zj,if_neg (by decide +kernel)]; exact r1
 show xY _ _ _ _ (upd (upd H1 l2 (.lst (bars.map V.str))) f (.ins CF dx (zT "bar_names" (.ref l2) (zT "row" (.ref l1) fs))))
 generalize hfs2:zT "bar_names" (.ref l2) (zT "row" (.ref l1) fs) = fs2 at f2 e2 g2 p2 r2 x2 |-
 generalize upd (upd H1 l2 (.lst (bars.map V.str))) f (.ins CF dx fs2) = H2 at x2 f2 e2 g2 |-
 have hp2:=uj hf nw x2 hp
 refine ⟨_,rfl,f,CF,dx,_,_,rfl,f2,FK.cl,FK.n1,r2,l1,rfl,⟨_,SqL.of e2⟩,fun D hD=>?_⟩
 refine uu (K:=K) (xs:=ps.map V.ref) (fun i ys H'=>zm H2 H'/\H' D = some (.lst ys)/\ys.length = plN (rows.take i)) ⟨zc hD _,za,rfl⟩ (fun i ys H' h=>SqL.of (h.1 _ _ e2)) ?_ ?_
 ·rintro i x ys H' hlt hx ⟨sH,hDy,ey⟩
  obtain ⟨pa,hpa,rfl⟩:=xn hx
  obtain ⟨r,hr',dx',hdx⟩:=yv hp2 hpa
  have rok:=hok r (List.mem_of_getElem? hr')
  have C:=PP r.k rok.1
  have nl:ys.length<=i:=by
   rw [ey]
   unfold plN
   refine Nat.le_trans (List.length_filter_le _ _) ?_
   rw [List.length_take]
   omega
  have hd2:=sH _ _ hdx
  refine ⟨_,rfl,pa,_,dx',_,rfl,⟨r.k,rok.1,rfl⟩,hd2,qX (by decide +kernel) (by decide +kernel) (by decide +kernel),pa,dx',_,_,_,_,rfl,C,hd2,_,rfl,?_⟩
  rw [zhA r.k rok.1]
  have tk:=zgG hr'
  refine ⟨fun e=>?_,fun e=>?_⟩
  ·rw [e,if_pos rfl] at tk
   refine ⟨_,rfl,lcN.mk hlt (z8 (by rw [List.length_map,hp.length]; omega)) hDy nl ⟨fun b u e=>?_,za,?_⟩⟩
   ·rw [zi (zf e hD)]
    exact sH b u e
   ·rw [List.length_append,ey,tk]
    rfl
  ·rw [e,if_neg Bool.false_ne_true] at tk
   exact lcS.mk hlt ⟨sH,hDy,by rw [ey,tk]; rfl⟩
 rintro ys H3 ⟨s3,hDy,ey⟩
 rw [List.length_map,hp.length,List.take_length] at ey
 refine ⟨D,_,rfl,.inl (SqL.of hDy),?_⟩
 rw [ey]
 have x3:=x2.same s3
 refine ⟨_,rfl,f,CF,dx,_,rfl,s3 _ _ f2,FK.cl,FK.n3,(by omega),?_⟩
 have f3:upd H3 f (.ins CF dx (zT "place_count" (.int (plN rows:Nat)) fs2)) f = some (.ins CF dx (zT "place_count" (.int (plN rows:Nat)) fs2)):=za
 have x4:SX f H (upd H3 f (.ins CF dx (zT "place_count" (.int (plN rows:Nat)) fs2))):=x3.upd
 have e4:upd H3 f (.ins CF dx (zT "place_count" (.int (plN rows:Nat)) fs2)) l1 = some (.lst (ps.map V.ref)):=by rw [zi (xK e2 f2 (by intro z; cases z))]; exact s3 _ _ e2
 have g4:upd H3 f (.ins CF dx (zT "place_count" (.int (plN rows:Nat)) fs2)) l2 = some (.lst (bars.map V.str)):=by rw [zi (xK g2 f2 (by intro z; cases z))]; exact s3 _ _ g2
 have p3:=wF "place_count" (.int (plN rows:Nat)) fs2
 have r3:(zT "place_count" (.int (plN rows:Nat)) fs2).lookup ("row" : Str) = some (.ref l1):=by rw [zj,if_neg (by decide +kernel)]; exact r2
 show xY _ _ _ _ (upd H3 f (.ins CF dx (zT "place_count" (.int (plN rows:Nat)) fs2)))
 generalize hfs3:zT "place_count" (.int (plN rows:Nat)) fs2 = fs3 at f3 x4 e4 g4 p3 r3 |-
 generalize upd H3 f (.ins CF dx fs3) = H4 at x4 f3 e4 g4 |-
 refine ⟨_,rfl,f,CF,dx,_,_,rfl,f3,FK.cl,FK.n1,r3,l1,ps,rows,2,rfl,by decide,e4,uj hf nw x4 hp,hok,fun H5 s5=>?_⟩
 refine ⟨_,rfl,f,CF,dx,_,rfl,s5 _ _ f3,FK.cl,FK.n4,(by omega),?_⟩
 have f5:upd H5 f (.ins CF dx (zT "tail_number" (xZ (zy 2 0 rows)) fs3)) f = some (.ins CF dx (zT "tail_number" (xZ (zy 2 0 rows)) fs3)):=za
 have x5:SX f H (upd H5 f (.ins CF dx (zT "tail_number" (xZ (zy 2 0 rows)) fs3))):=(x4.same s5).upd
 have e5:upd H5 f (.ins CF dx (zT "tail_number" (xZ (zy 2 0 rows)) fs3)) l1 = some (.lst (ps.map V.ref)):=by rw [zi (xK e4 f3 (by intro z; cases z))]; exact s5 _ _ e4
 have g5:upd H5 f (.ins CF dx (zT "tail_number" (xZ (zy 2 0 rows)) fs3)) l2 = some (.lst (bars.map V.str)):=by rw [zi (xK g4 f3 (by intro z; cases z))]; exact s5 _ _ g4
 have p4:=wF "tail_number" (xZ (zy 2 0 rows)) fs3
 have r4:(zT "tail_number" (xZ (zy 2 0 rows)) fs3).lookup ("row" : Str) = some (.ref l1):=by rw [zj,if_neg (by decide +kernel)]; exact r3
 show xY _ _ _ _ (upd H5 f (.ins CF dx (zT "tail_number" (xZ (zy 2 0 rows)) fs3)))
 generalize hfs4:zT "tail_number" (xZ (zy 2 0 rows)) fs3 = fs4 at f5 x5 e5 g5 p4 r4 |-
 generalize upd H5 f (.ins CF dx fs4) = H6 at x5 f5 e5 g5 |-
 refine ⟨_,rfl,f,CF,dx,_,_,rfl,f5,FK.cl,FK.n1,r4,l1,ps,rows,4,rfl,by decide,e5,uj hf nw x5 hp,hok,fun H7 s7=>?_⟩
 refine ⟨_,rfl,f,CF,dx,_,rfl,s7 _ _ f5,FK.cl,FK.n5,(by omega),?_⟩
 have f7:upd H7 f (.ins CF dx (zT "bag_number" (xZ (zy 4 0 rows)) fs4)) f = some (.ins CF dx (zT "bag_number" (xZ (zy 4 0 rows)) fs4)):=za
 have x7:SX f H (upd H7 f (.ins CF dx (zT "bag_number" (xZ (zy 4 0 rows)) fs4))):=(x5.same s7).upd
 have e7:upd H7 f (.ins CF dx (zT "bag_number" (xZ (zy 4 0 rows)) fs4)) l1 = some (.lst (ps.map V.ref)):=by rw [zi (xK e5 f5 (by intro z; cases z))]; exact s7 _ _ e5
 have g7:upd H7 f (.ins CF dx (zT "bag_number" (xZ (zy 4 0 rows)) fs4)) l2 = some (.lst (bars.map V.str)):=by rw [zi (xK g5 f5 (by intro z; cases z))]; exact s7 _ _ g5
 have p5:=wF "bag_number" (xZ (zy 4 0 rows)) fs4
 have r5:(zT "bag_number" (xZ (zy 4 0 rows)) fs4).lookup ("row" : Str) = some (.ref l1):=by rw [zj,if_neg (by decide +kernel)]; exact r4
 generalize hfs5:zT "bag_number" (xZ (zy 4 0 rows)) fs4 = fs5 at f7 x7 e7 g7 p5 r5 |-
 generalize upd H7 f (.ins CF dx fs5) = H8 at x7 f7 e7 g7 |-
 have hp8:=uj hf nw x7 hp
 refine ⟨_,rfl,f,CF,dx,_,_,rfl,f7,FK.cl,FK.n1,r5,l1,rfl,⟨_,SqL.of e7⟩,fun D2 hD2=>?_⟩
 refine zhh (K:=K) (xs:=ps.map V.ref) (fun i ys H'=>zm H8 H'/\H' D2 = some (.dK ys)/\ys = yl 0 [] (rows.take i)) ⟨zc hD2 _,za,rfl⟩ (fun i ys H' h=>SqL.of (h.1 _ _ e7)) ?_ ?_
 ·rintro i x p ys H' hlt hx ⟨sH,hDy,ey⟩ hpn
  obtain ⟨pa,hpa,rfl⟩:=xn hx
  obtain ⟨r,hr',dx',hdx⟩:=yv hp8 hpa
  have rok:=hok r (List.mem_of_getElem? hr')
  have C:=PP r.k rok.1
  have sp:=zc hpn (.tup [.int (i:Nat),.ref pa])
  have hd2:=sp _ _ (sH _ _ hdx)
  have hDp:upd H' p (.tup [.int (i:Nat),.ref pa]) D2 = some (.dK ys):=by rw [zi (zf hDy hpn)]; exact hDy
  have nl:ys.length<=i:=by
   rw [ey]
   refine Nat.le_trans (zaf _ _ _) ?_
   rw [List.length_take]
   show 0 + _<=i
   omega
  refine ⟨p,_,rfl,SqT.of za,rfl,_,_,rfl,_,_,rfl,rfl,?_⟩
  refine ⟨_,rfl,pa,_,dx',_,rfl,⟨r.k,rok.1,rfl⟩,hd2,qX (by decide +kernel) (by decide +kernel) (by decide +kernel),pa,dx',_,_,_,_,rfl,C,hd2,_,rfl,?_⟩
  rw [qc r.k rok.1]
  have tk:=jo rows 0 i [] hr'
  refine ⟨fun e=>?_,fun e=>?_⟩
  ·rw [e,if_pos rfl] at tk
   refine ⟨_,rfl,pa,_,dx',_,_,rfl,hd2,C.cl,C.nN,jx,_,rfl,dcN.mk (.inr r.z) hlt rfl (z8 (by rw [List.length_map,hp.length]; omega)) hDp nl ⟨fun b u e=>?_,za,?_⟩⟩
   ·rw [zi (zf e hD2)]
    exact sp _ _ (sH b u e)
   ·rw [tk,<- ey,Nat.zero_add]
  ·rw [e,if_neg Bool.false_ne_true] at tk
   exact dcS.mk hlt ⟨sH.trans sp,hDp,by rw [ey,tk]⟩
 rintro ys H9 ⟨s9,hDy,ey⟩
 rw [List.length_map,hp.length,List.take_length] at ey
 refine ⟨_,rfl,f,CF,dx,_,rfl,s9 _ _ f7,FK.cl,FK.n6,(by omega),?_⟩
 have nf:∀ {x:Addr} {o:HO},H9 x = some o->(∀ C d g,o ≠ .ins C d g)->upd H9 f (.ins CF dx (zT "doors" (.ref D2) fs5)) x = some o:=fun {x o} e n=>by
  rw [zi (xK e (s9 _ _ f7) (by intro z; exact n _ _ _ z))]
  exact e
 refine q _ (x7.same s9).upd ⟨dx,_,l1,l2,D2,ps,za,?_,nf (s9 _ _ e7) (by intro _ _ _ z; cases z),uj hf nw (x7.same s9).upd hp,nf (s9 _ _ g7) (by intro _ _ _ z; cases z),nf (by rw [hDy,ey]) (by intro _ _ _ z; cases z),hl1,hlb⟩ ⟨dx,_,za,Nat.le_trans (wF _ _ _) (by omega)⟩
 rw [<- hfs5,<- hfs4,<- hfs3,<- hfs2]
 refine ⟨?_,?_,?_,?_,?_,?_,fun mm hm=>?_⟩
 ·rw [zj,if_neg (by decide +kernel),zj,if_neg (by decide +kernel),zj,if_neg (by decide +kernel),zj,if_neg (by decide +kernel),zj,if_neg (by decide +kernel),zj,if_pos rfl]
 ·rw [zj,if_neg (by decide +kernel),zj,if_neg (by decide +kernel),zj,if_neg (by decide +kernel),zj,if_neg (by decide +kernel),zj,if_pos rfl]
 ·rw [zj,if_neg (by decide +kernel),zj,if_neg (by decide +kernel),zj,if_neg (by decide +kernel),zj,if_pos rfl]
 ·rw [zj,if_neg (by decide +kernel),zj,if_neg (by decide +kernel),zj,if_pos rfl]
 ·rw [zj,if_neg (by decide +kernel),zj,if_pos rfl]
 ·rw [zj,if_pos rfl]
 ·have h':∀ a ∈ zgg,¬ mm = a:=fun a ha e=>hm (e ▸ ha)
  rw [zj,if_neg (h' _ (by decide +kernel)),zj,if_neg (h' _ (by decide +kernel)),zj,if_neg (h' _ (by decide +kernel)),zj,if_neg (h' _ (by decide +kernel)),zj,if_neg (h' _ (by decide +kernel)),zj,if_neg (h' _ (by decide +kernel))]
  exact pn mm hm
end
def zeL (c:C5) (CF:Addr):Sp:=fun vs H Q _=>∃ (f a dx:Addr) (bv:V) (ps:List Addr) (rows:List Rw) (bars:List Str),vs = [.ref f,.ref a,bv]/\H f = some (.ins CF dx [])/\H a = some (.lst (ps.map V.ref))/\Paired (PAt c H) ps rows/\((bv = .non/\bars = [])\/∃ b,bv = .ref b/\H b = some (.lst (bars.map V.str)))/\yP rows bars/\
 ∀ H',SX f H H'->qo c CF H H' f rows bars->(∃ dx' fs',H' f = some (.ins CF dx' fs')/\fs'.length<=6)->Q .non H'
def jL (c:C5) (CF:Addr):Sp:=fun vs H Q _=>∃ (f:Addr) (rows:List Rw) (bars:List Str),vs = [.ref f]/\xg c CF H f rows bars/\∀ (l:Addr) (ps:List Addr) (H':Hp),zm H H'->H l = none->H' l = some (.lst (ps.map V.ref))->Paired (PAt c H') ps rows->Q (.ref l) H'
def zcf (c:C5) (CF:Addr):Sp:=fun vs H Q _=>∃ (f:Addr) (rows:List Rw) (bars:List Str),vs = [.ref f]/\xg c CF H f rows bars/\∀ (l:Addr) (H':Hp),zm H H'->H l = none->H' l = some (.lst (bars.map V.str))->Q (.ref l) H'
def wV (c:C5) (CF:Addr):Sp:=fun vs H Q _=>∃ (f:Addr) (rows:List Rw) (bars:List Str),vs = [.ref f]/\xg c CF H f rows bars/\Q (.int (plN rows:Nat)) H
def wU (c:C5) (CF:Addr) (kk:Nat):Sp:=fun vs H Q _=>∃ (f:Addr) (rows:List Rw) (bars:List Str),vs = [.ref f]/\xg c CF H f rows bars/\Q (xZ (zy kk 0 rows)) H
def zc2 (c:C5) (CF:Addr):Sp:=fun vs H Q _=>∃ (f:Addr) (z:Str) (rows:List Rw) (bars:List Str),vs = [.ref f,.str z]/\xg c CF H f rows bars/\Q ((zL (yl 0 [] rows) (.inr z)).getD .non) H
def TAt (H:Hp) (u:Addr) (r:Rw):Prop:=H u = some (.tup (rv r))
theorem z7 {H H':Hp} {us:List Addr} {rows:List Rw} (s:zm H H') (h:Paired (TAt H) us rows):Paired (TAt H') us rows:=Paired.imp' (fun _ _ z=>s _ _ z) h
section
variable {P:Program} {w:World} {K:Frag} {mg:Str->Option Value} {base:Heap} {f G sg CF:Addr} {fd:FuncData} {c:C5} {m:MA}
theorem zc7:zu ["self","parameters","bars","names"] ["self","parameters","bars"] (ze uY):=⟨rfl,rfl,rfl,by decide +kernel,rfl,by decide +kernel,by decide +kernel⟩
theorem zfB {ds:List Value} {g1 g2 g3 g4 g5:Addr} {e1 e2 e3 e4 e5:FuncData} (F:qm K "__init__" "Form.__init__" uY f fd ds) (FK:FC K CF) (mK:y6 K CF "keep" g5)
  (cM:zl P w K mg base 1 "refuse_too_many" g1 e1 ["parameters","bars"] (zb9 K)) (cO:zl P w K mg base 1 "refuse_bad_order" g2 e2 ["parameters"] (zeK c)) (cB':zl P w K mg base 2 "refuse_bars_without_name" g3 e3 ["bars"] zhQ) (cT:zl P w K mg base 2 "refuse_twice" g4 e4 ["parameters","bars"] (zhP c))
  (GK:zC P w K mg base CX0 2 g5 e5 ["self","parameters","bars"] (zcb c CF)) (bK:zS K e5 ["self","parameters","bars"] []):zC P w K mg base CX0 3 f fd ["self","parameters","bars"] (zeL c CF):=by
 refine F.ok zc7 (fun vs H Q E h=>?_) (fun cdv A outer s H vs Q E hr h=>?_)
 ·obtain ⟨f,a,dx,bv,ps,rows,bars,rfl,_⟩:=h
  rfl
 obtain ⟨f,a,dx,bv,ps,rows,bars,rfl,hf,ha,hp,hb,V',q⟩:=h
 have hr1:ya 1 _:=hr.mono (by decide)
 refine ⟨_,zd (zv (i:=3) zc7.nd rfl (Or.inl rfl) (ze8 (vR (zaO (pv 2))) (zM zb) (pv 2)))
  (zd (zE (cF cM hr1 (ac (pv 1) (ac (pv 3) zb))))
  (zd (zE (cF cO hr1 (ac (pv 1) zb)))
  (zd (zE (cF cB' hr (ac (pv 3) zb)))
  (zd (zE (cF cT hr (ac (pv 1) (ac (pv 3) zb))))
  (zh (zE (zaN (pv 0) FK.cl mK GK hr bK .nil y7 (ac (pv 1) (ac (pv 3) zb))))))))),?_⟩
 try dsimp only
 refine yC (fun σ' H'=>∃ b,σ' = [some (.ref f),some (.ref a),some bv,some (.ref b)]/\zm H H'/\H' b = some (.lst (bars.map V.str))) ?_ (fun key=>?_)
 rotate_left
 ·rcases hb with ⟨rfl,rfl⟩ | ⟨b,rfl,hb⟩
  ·refine ⟨_,rfl,_,rfl,?_⟩
   refine dT rfl ?_
   refine ⟨zz0,fun l hl=>?_⟩
   exact key _ _ ⟨l,rfl,zc hl _,za⟩
  ·refine ⟨_,rfl,_,rfl,?_⟩
   refine dF (by intro z; cases z) ?_
   exact ⟨_,rfl,key _ _ ⟨b,rfl,zm.refl _,hb⟩⟩
 rintro σ1 H1 ⟨b,rfl,s1,hb1⟩
 have ha1:=s1 _ _ ha
 refine ⟨_,rfl,_,rfl,a,b,_,_,rfl,SqL.of ha1,SqL.of hb1,(by rw [List.length_map,hp.length]; exact V'.l24),(by rw [List.length_map]; exact V'.l60),?_⟩
 refine ⟨_,rfl,a,ps,rows,rfl,ha1,xx s1 hp,V'.ok,V'.ord,fun H2 s2=>?_⟩
 refine ⟨_,rfl,b,bars,rfl,s2 _ _ hb1,V'.bn,fun H3 s3=>?_⟩
 have s13:=s1.trans (s2.trans s3)
 refine ⟨_,rfl,_,rfl,a,b,ps,rows,bars,rfl,s13 _ _ ha,xx s13 hp,V'.ok,Nat.le_trans V'.l24 (by decide),s3 _ _ (s2 _ _ hb1),Nat.le_trans V'.l60 (by decide),V'.nd,fun H4 s4=>?_⟩
 have s14:=s13.trans s4
 refine ⟨_,rfl,f,dx,_,rfl,s14 _ _ hf,rfl,_,rfl,_,rfl,f,a,b,dx,[],ps,rows,bars,rfl,s14 _ _ hf,⟨by decide,fun _ _=>rfl⟩,s14 _ _ ha,xx s14 hp,V'.ok,Nat.le_trans V'.l24 (by decide),s4 _ _ (s3 _ _ (s2 _ _ hb1)),fun H5 x5 F5 L5=>?_⟩
 exact q _ (fun b' u e n=>x5 b' u (s14 _ _ e) n) (F5.of s14) L5
theorem zgz:zu ["self"] ["self"] (ze uX):=⟨rfl,rfl,rfl,by decide +kernel,rfl,by decide +kernel,by decide +kernel⟩
theorem zfA (F:Fun K "parameters" "Form.parameters" uX f fd) (T:zb2 w K mg G sg) (FK:FC K CF):zC P w K mg base CX0 1 f fd ["self"] (jL c CF):=by
 refine F.ok zgz (fun vs H Q E h=>?_) (fun cdv A outer s H vs Q E hr h=>?_)
 ·obtain ⟨f,rows,bars,rfl,_⟩:=h
  rfl
 obtain ⟨f,rows,bars,rfl,⟨dx,fs,lr,lb,ld,ps,h1,h2,h3,h4,h5,h6⟩,q⟩:=h
 refine ⟨_,zh (zw (cTy y3 T.lst PyProof.Rows.boot_list (ac (yO (pv 0) rfl) zb))),?_⟩
 refine ⟨_,rfl,f,CF,dx,_,_,rfl,h1,FK.cl,FK.n1,h2.row,lr,_,rfl,.inl (SqL.of h3),fun l hl=>?_⟩
 have s1:=zc hl (.lst (ps.map V.ref))
 exact q l ps _ s1 hl za (xx s1 h4)
theorem zgA:zu ["self"] ["self"] (ze uZ):=⟨rfl,rfl,rfl,by decide +kernel,rfl,by decide +kernel,by decide +kernel⟩
theorem zfC (F:Fun K "bars" "Form.bars" uZ f fd) (T:zb2 w K mg G sg) (FK:FC K CF):zC P w K mg base CX0 1 f fd ["self"] (zcf c CF):=by
 refine F.ok zgA (fun vs H Q E h=>?_) (fun cdv A outer s H vs Q E hr h=>?_)
 ·obtain ⟨f,rows,bars,rfl,_⟩:=h
  rfl
 obtain ⟨f,rows,bars,rfl,⟨dx,fs,lr,lb,ld,ps,h1,h2,h3,h4,h5,h6⟩,q⟩:=h
 refine ⟨_,zh (zw (cTy y3 T.lst PyProof.Rows.boot_list (ac (yO (pv 0) rfl) zb))),?_⟩
 refine ⟨_,rfl,f,CF,dx,_,_,rfl,h1,FK.cl,FK.n2,h2.bn,lb,_,rfl,.inl (SqL.of h5),fun l hl=>?_⟩
 exact q l _ (zc hl _) hl za
theorem zdO:zu ["self"] ["self"] (ze wt):=⟨rfl,rfl,rfl,by decide +kernel,rfl,by decide +kernel,by decide +kernel⟩
theorem zcn (F:Fun K "places" "Form.places" wt f fd) (FK:FC K CF):zC P w K mg base CX0 1 f fd ["self"] (wV c CF):=by
 refine F.ok zdO (fun vs H Q E h=>?_) (fun cdv A outer s H vs Q E hr h=>?_)
 ·obtain ⟨f,rows,bars,rfl,_⟩:=h
  rfl
 obtain ⟨f,rows,bars,rfl,⟨dx,fs,lr,lb,ld,ps,h1,h2,h3,h4,h5,h6⟩,q⟩:=h
 exact ⟨_,zh (zw (yO (pv 0) rfl)),_,rfl,f,CF,dx,_,_,rfl,h1,FK.cl,FK.n3,h2.pc,q⟩
theorem zgy:zu ["self"] ["self"] (ze uW):=⟨rfl,rfl,rfl,by decide +kernel,rfl,by decide +kernel,by decide +kernel⟩
theorem zfy (F:Fun K "tail" "Form.tail" uW f fd) (FK:FC K CF):zC P w K mg base CX0 1 f fd ["self"] (wU c CF 2):=by
 refine F.ok zgy (fun vs H Q E h=>?_) (fun cdv A outer s H vs Q E hr h=>?_)
 ·obtain ⟨f,rows,bars,rfl,_⟩:=h
  rfl
 obtain ⟨f,rows,bars,rfl,⟨dx,fs,lr,lb,ld,ps,h1,h2,h3,h4,h5,h6⟩,q⟩:=h
 exact ⟨_,zh (zw (yO (pv 0) rfl)),_,rfl,f,CF,dx,_,_,rfl,h1,FK.cl,FK.n4,h2.tn,q⟩
theorem zh1:zu ["self"] ["self"] (ze qR):=⟨rfl,rfl,rfl,by decide +kernel,rfl,by decide +kernel,by decide +kernel⟩
theorem zg3 (F:Fun K "bag" "Form.bag" qR f fd) (FK:FC K CF):zC P w K mg base CX0 1 f fd ["self"] (wU c CF 4):=by
 refine F.ok zh1 (fun vs H Q E h=>?_) (fun cdv A outer s H vs Q E hr h=>?_)
 ·obtain ⟨f,rows,bars,rfl,_⟩:=h
  rfl
 obtain ⟨f,rows,bars,rfl,⟨dx,fs,lr,lb,ld,ps,h1,h2,h3,h4,h5,h6⟩,q⟩:=h
 exact ⟨_,zh (zw (yO (pv 0) rfl)),_,rfl,f,CF,dx,_,_,rfl,h1,FK.cl,FK.n5,h2.bg,q⟩
theorem zh0:zu ["self","name"] ["self","name"] (ze qQ):=⟨rfl,rfl,rfl,by decide +kernel,rfl,by decide +kernel,by decide +kernel⟩
theorem zg1 (F:Fun K "number_of" "Form.number_of" qQ f fd) (FK:FC K CF):zC P w K mg base CX0 1 f fd ["self","name"] (zc2 c CF):=by
 refine F.ok zh0 (fun vs H Q E h=>?_) (fun cdv A outer s H vs Q E hr h=>?_)
 ·obtain ⟨f,z,rows,bars,rfl,_⟩:=h
  rfl
 obtain ⟨f,z,rows,bars,rfl,⟨dx,fs,lr,lb,ld,ps,h1,h2,h3,h4,h5,h6⟩,q⟩:=h
 refine ⟨_,zh (zw (zfa (zbO hr) (yO (pv 0) rfl) (pv 1) ⟨rfl,rfl,rfl,rfl⟩)),?_⟩
 refine ⟨_,rfl,f,CF,dx,_,_,rfl,h1,FK.cl,FK.n6,h2.dr,ld,rfl,?_,_,rfl,_,.inl ⟨_,.inr z,.inl h6,rfl,rfl⟩,q⟩
 exact .inl ⟨_,.inl h6⟩
end
end K25
namespace L2
open PySem PySem.Spec PyProof.Rows
section
variable {X:Cx} {pins:List (Addr × Obj)} {σ : St} {H:Hp} {s:Shared}
theorem Inv.freeze (I:Inv X pins σ H s) {l:Addr} {kvs:List (Key × V)} (hl:H l = some (.dK kvs)):∃ o,s.heap.get? l = some o/\Inv X pins σ (upd H l (.frz o (.dK kvs))) s:=by
 obtain ⟨hz,hy,vs,r,o,es,ep,ho,c⟩:=id (I.hok l _ hl)
 refine ⟨o,ho,⟨I.ok,I.os,I.bare,⟨I.base.keep,I.base.slot,fun b u e n x=>?_,I.base.there,fun b xs e=>?_,fun b u v e=>?_,fun b ps e=>?_⟩,I.loc,I.cell,?_,fun x c e=>?_,fun p hp'=>?_,fun b u e=>?_,I.len⟩⟩
 ·have e1:=I.base.free b u e n x
  rw [zi (zf hl e1).symm]; exact e1
 ·have e1:=I.base.tups b xs e
  rw [zi (xK e1 hl (by intro z; cases z))]; exact e1
 ·have e1:=I.base.frzs b u v e
  rw [zi (xK e1 hl (by intro z; cases z))]; exact e1
 ·obtain ⟨more,e1⟩:=I.base.tbls b ps e
  exact ⟨more,by rw [zi (xK e1 hl (by intro z; cases z))]; exact e1⟩
 ·rw [zi (zf hl I.free).symm]; exact I.free
 ·rw [zi (zf hl (I.freeC x c e)).symm]; exact I.freeC x c e
 ·obtain ⟨q1,q2,q3⟩:=I.pin p hp'
  exact ⟨q1,by rw [zi (zf hl q2).symm]; exact q2,q3⟩
 ·have ho':∀ c,∀ b,H b = some (.own c)->upd H l (.frz o (.dK kvs)) b = some (.own c):=fun c b q=>by rw [zi (xK q hl (by intro z; cases z))]; exact q
  have ht':∀ b xs,H b = some (.tup xs)->upd H l (.frz o (.dK kvs)) b = some (.tup xs):=fun b xs q=>by rw [zi (xK q hl (by intro z; cases z))]; exact q
  by_cases hb:b = l
  ·subst hb; rw [za] at e; cases e
   exact ⟨ho,(I.hok b _ hl).stay (fun _ _ _ q=>q) (ho' b) ht'⟩
  ·rw [zi hb] at e
   exact (I.hok b u e).stay (fun _ _ _ q=>q) (ho' b) ht'
def zjV (te:TE):TE:=fun σ H Q=>te σ H fun x H1=>∃ l kvs,x = .ref l/\H1 l = some (.dK kvs)/\∀ o,Q x (upd H1 l (.frz o (.dK kvs)))
theorem zic {e:Expr} {te:TE} (h:PE X e te):PE X e (zjV te):=by
 refine ⟨?_⟩
 intro pins s σ H Q I hw
 refine thn (h pins s σ H _ I hw) fun v s1 ⟨x,H1,I1,r1,l,kvs,ex,hl,q⟩=>?_
 obtain ⟨o,_,I2⟩:=I1.freeze hl
 exact ⟨x,_,I2,r1,q o⟩
end
theorem zgC {k:Key} {u:Value} (h:j7 k u = true):zO (kV k) u:=by
 rcases yn h with ⟨i,t,rfl,rfl⟩ | ⟨x,t,rfl,rfl⟩
 ·exact ⟨t,rfl⟩
 ·exact ⟨t,rfl⟩
def Itd (d:Addr) (o:Obj) (kvs:List (Key × V)):It:=
 ⟨fun i H=>H d = some (.frz o (.dK kvs))/\i < kvs.length,fun i H x H'=>∃ (p:Addr) (k:Key) (v:V),x = .ref p/\H p = none/\kvs[i]? = some (k,v)/\H' = upd H p (.tup [kV k,v]),fun i H=>H d = some (.frz o (.dK kvs))/\kvs.length<=i⟩
theorem zf4 {X:Cx} {pins:List (Addr × Obj)} {σ : St} {H:Hp} {s:Shared} {d:Addr} {o:Obj} {kvs:List (Key × V)} {es:Array DictEntry} {ep:Nat} (I:Inv X pins σ H s) (hd:H d = some (.frz o (.dK kvs))) (ho:o.data = .dict es ep) :
  (d == sysModules) = false/\∃ vs,KV kvs vs/\s.heap.DictAt (zZ X.prog X.w) d vs ep:=by
 obtain ⟨e,hz,hy,vs,r,o',es',ep',ho',c1,c2,c3⟩:=id (I.hok d _ hd)
 rw [e] at ho'
 cases ho'
 rw [ho] at c2
 cases c2
 exact ⟨hy,vs,r,o,es,e,c1,ho,c3⟩
theorem vK:entryFor table "dict_itemiterator.__iter__" = some Builtin.«dict_keyiterator.__iter__»:=entryFor_alias (id':="dict_keyiterator.__iter__") (by kernel_rfl) (by first | rfl | decide +kernel | (unfold String.splitOn; simp +decide [String.splitOnAux])) (by decide +kernel) (by kernel_rfl)
theorem wP {P:Program} {w:World} {A:Around} {E:Value->Shared->Prop} {s:Shared} {it d:Addr} {i n ep:Nat} {ok ov:Value} {Q:Value->Shared->Prop} (he:IsItemIter s.heap it d i n ep ok ov) (h:Q (.ref it) s):wpAny (model P w) A (pyIter (.ref it)) Q E s:=by
 have hT:s.TypeIs (.ref it) "dict_itemiterator":=⟨_,he,rfl⟩
 refine wpAny_pyIter_slot hT F.slot_dict_itemiterator_iter (wpAny_call_entry F.slot_dict_itemiterator_iter hT vK ?_ (F.args_dict_itemiterator_iter_1 _))
 show wpAny _ _ (ret (.ref it)) _ _ s
 exact wpAny_pure ⟨_,rfl,"dict_itemiterator",_,hT,F.slot_dict_itemiterator_next.lookup,h⟩
theorem zb6 {P:Program} {w:World} {K:Frag} {elts:List Expr} {x1:Nat} {tpos:Pos} (d it:Addr) (o:Obj) (kvs:List (Key × V)) (es:Array DictEntry) (ep:Nat) (ho:o.data = .dict es ep) :
  za3 P w K (.Tuple elts x1 tpos) (Itd d o kvs) [it] it (fun i h=>∃ ok ov,IsItemIter h it d i kvs.length ep ok ov) where
 mem:=by simp
 obj:=fun i h st b hb=>by
  have e':b = it:=by simpa using hb
  subst e'
  obtain ⟨ok,ov,hi⟩:=st
  exact ⟨_,hi,fun v q=>by cases q⟩
 keep:=fun i h h' st k=>by
  obtain ⟨ok,ov,hi⟩:=st
  exact ⟨ok,ov,k it (by simp) _ hi⟩
 item:=by
  intro X hP hw hK hc i pins s σ H E I hf st hg
  subst hP hw hK
  obtain ⟨f0,f1,f2,f3,f4,f5⟩:=hf it (by simp)
  obtain ⟨ok,ov,hit⟩:=st
  obtain ⟨hd,hlt⟩:=hg
  obtain ⟨hy,vs,r,hm⟩:=zf4 I hd ho
  have hl:kvs.length = vs.length:=r.length
  obtain ⟨⟨k2,u⟩,hu,ek,ru⟩:=Paired.get r (List.getElem?_eq_getElem hlt)
  rw [hl] at hit
  obtain ⟨k,v,hkv⟩:∃ k v,kvs[i] = (k,v):=⟨_,_,rfl⟩
  have ek:k = k2:=by rw [hkv] at ek; exact ek
  have ru2:zO v u:=by rw [hkv] at ru; exact ru
  subst ek
  refine wpAny_pyNext_items_item hit hm hu fun key h' hk2 he' htup hsz hkp=>?_
  have rk:zO (kV k) key:=zgC hk2
  have I0:Inv X pins σ H { s with heap:=h' }:=I.turned (t':=s.toks) (it:=it) hkp f0 f1 f3 f4 f5
  have hfr:H s.heap.objs.size = none:=I.hok.fresh (Nat.le_refl _)
  have I1:Inv X pins σ (upd H s.heap.objs.size (.tup [kV k,v])) { s with heap:=h' }:=by
   have hok:HOk X.prog X.w (upd H s.heap.objs.size (.tup [kV k,v])) h':=fun b o q=>by
    by_cases hb:b = s.heap.objs.size
    ·subst hb
     rw [za] at q; cases q
     exact ⟨by show 2<=sizeLine; decide,[key,u],.cons rk (.cons ru2 .nil),⟨_,htup,rfl,_,rfl⟩⟩
    ·rw [zi hb] at q
     exact (I0.hok b o q).stay (fun _ _ _ z=>z) (fun c z=>by rw [zi (zf z hfr)]; exact z) fun c xs' z=>by rw [zi (zf z hfr)]; exact z
   refine I0.step (s:={ s with heap:=h' }) (g':=s.gens) (d':=s.drawn) (h':=h') (t':=s.toks) (ch:=[s.heap.objs.size]) (fun b hb=>?_) (fun b o _ _ _ e1 _=>e1) (fun b o _ _ _ e1 _=>⟨o.slots,e1⟩) (fun b o hb e1 n=>by rw [zi (fun z=>hb (by simp [z]))]; exact n)
    (fun b o _ e1=>⟨o,e1⟩) (fun b xs' e1=>by rw [zi (zf e1 hfr)]; exact e1) (fun b o' u' e1=>by rw [zi (zf e1 hfr)]; exact e1) (fun b ps e1=>⟨#[],by rw [zi (zf e1 hfr),e1]; simp⟩) (fun m hm=>hm) hok I0.bare
   have e':b = s.heap.objs.size:=by simpa using hb
   subst e'
   refine ⟨.inr I.sz,fun z=>?_,fun y c h z=>?_,fun p hp' z=>?_⟩
   ·have:=I.lt; rw [<- z] at this; exact absurd this (Nat.lt_irrefl _)
   ·obtain ⟨v',hv⟩:=I.cell y c h
    have:=hv.lt; rw [z] at this; exact absurd this (Nat.lt_irrefl _)
   ·have:=I.pin_lt hp'; rw [z] at this; exact absurd this (Nat.lt_irrefl _)
  refine ⟨_,rfl,wpAny_letOwnedTupleGo_items he' fun h2 he2 hs2=>?_⟩
  have nis:s.heap.objs.size ≠ it:=fun z=>by
   have:=Heap.lt_size (show s.heap.get? it = some _ from hit)
   rw [<- z] at this; exact absurd this (Nat.lt_irrefl _)
  have I2:Inv X pins σ (upd H s.heap.objs.size (.tup [kV k,v])) { s with heap:=h2 }:=
   I1.turned (s:={ s with heap:=h' }) (t':=s.toks) (it:=it) (fun b o hb q=>(hs2.2 b hb).trans q) (by rw [zi nis.symm]; exact f0) f1 f3 f4 f5
  refine ⟨.ref s.heap.objs.size,_,I2,rfl,⟨_,k,v,rfl,hfr,by rw [List.getElem?_eq_getElem hlt,hkv],rfl⟩,⟨_,_,by rw [hl]; exact he2⟩,fun b hb=>?_⟩
  have e':b = it:=by simpa using hb
  subst e'
  rw [zi nis.symm]; exact f0
 done:=by
  intro X hP hw hK hc i pins s σ H E I hf st hg
  subst hP hw hK
  obtain ⟨ok,ov,hit⟩:=st
  obtain ⟨f0,f1,f2,f3,f4,f5⟩:=hf it (by simp)
  obtain ⟨hd,hle⟩:=hg
  obtain ⟨hy,vs,r,hm⟩:=zf4 I hd ho
  have hl:kvs.length = vs.length:=r.length
  rw [hl] at hit
  exact wpAny_pyNext_items_end (I.ok.hd hc) hit hm (List.getElem?_eq_none (by omega)) fun h' eb=>⟨rfl,I.turned (t':=s.toks) (fun b o hb e1=>eb b o hb e1) f0 f1 f3 f4 f5⟩
 self:=fun A i s Q E st h=>by
  obtain ⟨ok,ov,hit⟩:=st
  exact wP hit h
section
variable {X:Cx} {elts:List Expr} {x1:Nat} {tpos:Pos}
def ziB (te:TE):TI:=fun σ H R=>te σ H fun x H1=>∃ d o kvs,x = .ref d/\H1 d = some (.frz o (.dK kvs))/\R (Itd d o kvs) H1
theorem zbp {l:Expr} {te:TE} {apos cpos:Pos} (hl:PE X l te) (hbase:attributeBase l "items" X.env (eval l X.env) = eval l X.env:=by rfl) (hline:(apos.endLine == cpos.line) = true:=by rfl) :
  PI X (.Tuple elts x1 tpos) (.Call (.Attribute l "items" apos) [] [] cpos) (ziB te):=by
 refine ⟨?_⟩
 intro pins s σ H R I h
 refine wpAny_Call_method0_late hbase hline (thn (hl pins s σ H _ I h) fun v s1 ⟨x,H1,I1,r1,d,o,kvs,ex,hd,q⟩=>?_)
 subst ex
 cases r1
 obtain ⟨e,hz,hy,vs,r,o',es,ep,ho',c1,c2,c3⟩:=id (I1.hok d _ hd)
 rw [e] at ho'
 cases ho'
 have hm:s1.heap.DictAt (zZ X.prog X.w) d vs ep:=⟨o,es,e,c1,c2,c3⟩
 refine ⟨"dict","dict.items",F.plainAttrs_dict,F.slot_dict_items,F.type_dict_items,⟨o,e,c1.1⟩,fun a ea=>by cases ea; exact ⟨o,e,c1.2.1⟩,Calls.callWith_builtin rfl (PySem.evalArgs_none ?_)⟩
 refine call_meetsIn F.slot_dict_items ⟨o,e,c1.1⟩ F.entry_dict_items (F.args_dict_items_1 _) (meets_dict_items (zZ X.prog X.w) d hy) ⟨⟨vs,hm.dictOf⟩,?_⟩
 show wpAny _ _ (pyIter (.ref s1.heap.objs.size)) _ _ _
 have hl:kvs.length = vs.length:=r.length
 refine wpAny_pyIter_items (knd:=zZ X.prog X.w) (d:=d) (kvs:=vs) (ep:=ep) ⟨_,Heap.get?_push_size _ rfl,rfl,rfl⟩ (hm.push _) ?_
 have hk:∀ b ob,s1.heap.get? b = some ob->((s1.heap.push { cls:=.type "dict_items",data:=.fields #[.ref d] }).push { cls:=.type "dict_itemiterator",data:=.fields #[.none,.bool false,.ref d,.int 0 0,.int vs.length 0,.int ep 0,.none,.none] }).get? b = some ob:=fun b ob q=>Heap.get?_push_of_some _ (Heap.get?_push_of_some _ q)
 have I2:=I1.kept (t':=s1.toks) hk
 have hsz:(s1.heap.push { cls:=.type "dict_items",data:=.fields #[.ref d] }).objs.size = s1.heap.objs.size + 1:=Heap.size_push ..
 refine ⟨(s1.heap.push { cls:=.type "dict_items",data:=.fields #[.ref d] }).objs.size,[(s1.heap.push { cls:=.type "dict_items",data:=.fields #[.ref d] }).objs.size],_,Itd d o kvs,H1,rfl,I2,zb6 d _ o kvs es ep c2,⟨.none,.none,?_⟩,fun b hb=>?_,q⟩
 ·rw [hl]
  exact Heap.get?_push_size (s1.heap.push { cls:=.type "dict_items",data:=.fields #[.ref d] }) (o:={ cls:=.type "dict_itemiterator",data:=.fields #[.none,.bool false,.ref d,.int 0 0,.int vs.length 0,.int ep 0,.none,.none] }) rfl
 ·have e':b = (s1.heap.push { cls:=.type "dict_items",data:=.fields #[.ref d] }).objs.size:=by simpa using hb
  subst e'
  rw [hsz]
  exact I1.fpOk (Nat.le_succ _) (I1.hok.fresh (Nat.le_succ _))
theorem zev {d:Addr} {o:Obj} {kvs:List (Key × V)} {g:TG} {tb:TS} {D:jh} {σ : St} {H:Hp} (Pv:Nat->St->Hp->Prop) (h0:Pv 0 σ H) (hl:∀ i σ H,i<=kvs.length->Pv i σ H->H d = some (.frz o (.dK kvs)))
  (hs:∀ i k v p σ H,kvs[i]? = some (k,v)->Pv i σ H->H p = none->g (.ref p) σ (upd H p (.tup [kV k,v])) fun σ2 H2=>tb { D with nx:=Pv (i + 1),ct:=Pv (i + 1),bk:=D.nx } σ2 H2) (hd:∀ σ H,Pv kvs.length σ H->D.nx σ H) :
  ∃ W:Nat->Nat->St->Hp->Prop,(∃ m,W 0 m σ H)/\∀ i m σ H,W i m σ H->
   ((Itd d o kvs).stop i H/\D.nx σ H)\/((Itd d o kvs).go i H/\∃ N:St->Hp->Prop,(∀ σ' H',N σ' H'->∃ m',m' < m/\W (i + 1) m' σ' H')/\∀ x H',(Itd d o kvs).yld i H x H'->g x σ H' fun σ2 H2=>tb { D with nx:=N,ct:=N,bk:=D.nx } σ2 H2):=by
 refine ⟨fun i m σ H=>m = kvs.length - i/\i<=kvs.length/\Pv i σ H,⟨kvs.length,by simp,Nat.zero_le _,h0⟩,?_⟩
 rintro i m σ H ⟨rfl,hi,p⟩
 have q:=hl i σ H hi p
 by_cases hlt:i < kvs.length
 ·refine .inr ⟨⟨q,hlt⟩,Pv (i + 1),fun σ' H' p'=>⟨kvs.length - (i + 1),by omega,rfl,hlt,p'⟩,fun x H' y=>?_⟩
  obtain ⟨pp,k,v,rfl,hp,y2,rfl⟩:=y
  exact hs i k v pp σ H y2 p hp
 ·have e:i = kvs.length:=by omega
  subst e
  exact .inl ⟨⟨q,Nat.le_refl _⟩,hd σ H p⟩
end
theorem zj1 {X:Cx} {pins:List (Addr × Obj)} {σ : St} {H:Hp} {s:Shared} {A:Around} {a b:Addr} {xs ys:List V} (I:Inv X pins σ H s) (ha:SqT X.K H a xs) (hb:SqT X.K H b ys) (fx:xs.all xu = true) (fy:ys.all xu = true) (hu:A.units + 8 < cLine) :
  SeqAt.RcAt A s (.ref a) (.ref b) (eqT xs ys):=by
 obtain ⟨ia,va,pa,_⟩:=I.tuple ha
 obtain ⟨ib,vb,pb,_⟩:=I.tuple hb
 have la:ia.toArray.size = xs.length:=by rw [List.size_toArray]; exact va.length.symm
 have lb:ib.toArray.size = ys.length:=by rw [List.size_toArray]; exact vb.length.symm
 have:=SeqAt.RcAt.tuples (A:=A) (s:=s) (e:=fun j=>eqV (xs[j]?.getD .non) (ys[j]?.getD .non)) (show s.heap.IsTuple a ia.toArray from pa) (show s.heap.IsTuple b ib.toArray from pb) (by omega) (fun j h1 h2=>by
  have j1:j < ia.length:=by simpa using h1
  have j2:j < ib.length:=by simpa using h2
  have hxl:j < xs.length:=by rw [va.length]; exact j1
  have hyl:j < ys.length:=by rw [vb.length]; exact j2
  obtain ⟨u',e1,e2⟩:=va.get (i:=j) (List.getElem?_eq_getElem hxl)
  obtain ⟨v',e3,e4⟩:=vb.get (i:=j) (List.getElem?_eq_getElem hyl)
  rw [List.getElem?_eq_getElem j1] at e1
  rw [List.getElem?_eq_getElem j2] at e3
  cases e1; cases e3
  have q:=zf8 (A:=A.in1) (s:=s) e2 e4 (List.all_eq_true.mp fx _ (List.getElem_mem hxl)) (List.all_eq_true.mp fy _ (List.getElem_mem hyl))
  simpa [hxl,hyl] using q)
 rw [la,lb] at this
 exact this
def zh7 (K:Frag):R2:=fun x y H Q=>∃ (a c:Addr) (xs ys:List V),x = .ref a/\y = .ref c/\SqT K H a xs/\SqT K H c ys/\xs.all xu = true/\ys.all xu = true/\Q (.bl (eqT xs ys)) H
theorem zfj {X:Cx} (hu:X.A.units + 64 < cLine):OpR X (compareOp .Eq) (zh7 X.K):=by
 intro pins s σ H x y v u Q I rx ry h
 obtain ⟨a,c,xs,ys,rfl,rfl,ha,hc,fx,fy,q⟩:=h
 cases rx; cases ry
 exact zj1 (A:=X.A) I ha hc fx fy (by omega) X.prog X.w X.xe _ ⟨.bl _,H,I,rfl,q⟩
end L2
namespace K25
open PySem L2 PyProof.Rows
inductive yt where
 | one (t:Int) | row (ts:List Int) | named (n:Str) (t:Int) | book (ps:List (Str × Int))
def ye (p:Str × Int):Dt:=.tup [.str p.1,.int p.2]
def xD:yt->Dt
 | .one t=>.tup [.str "one",.int t]
 | .row ts=>.tup [.str "row",.lst (ts.map .int)]
 | .named n t=>.tup [.str "named",.str n,.int t]
 | .book ps=>.tup [.str "book",.lst (ps.map ye)]
def itT:yt->List Int
 | .one t=>[t]
 | .row ts=>ts
 | _=>[]
def itP:yt->List (Str × Int)
 | .named n t=>[(n,t)]
 | .book ps=>ps
 | _=>[]
def yb (c:List yt):List Int:=(c.map itT).flatten
def yq (c:List yt):List (Str × Int):=(c.map itP).flatten
abbrev T':Addr->Prop:=fun _=>True
def Two (K:Frag) (H H':Hp) (p:Addr) (ts:List Int) (ps:List (Str × Int)):Prop:=
 ∃ l1 l2 xs,H l1 = none/\H l2 = none/\l1 ≠ l2/\H p = none/\H' p = some (.tup [.ref l1,.ref l2])/\H' l1 = some (.lst (ts.map V.int))/\H' l2 = some (.lst xs)/\Paired (zF K T' H' 1) xs (ps.map ye)
def zav (K:Frag):Sp:=fun vs H Q _=>∃ (a:Addr) (c:List yt) (xs:List V),vs = [.ref a]/\SqL K H a xs/\Paired (zF K T' H 3) xs (c.map xD)/\(yb c).length<=900/\(yq c).length<=900/\
 ∀ (p:Addr) (H':Hp),zm H H'->Two K H H' p (yb c) (yq c)->Q (.ref p) H'
section
variable {P:Program} {w:World} {K:Frag} {mg:Str->Option Value} {base:Heap} {f:Addr} {fd:FuncData}
theorem zgd (ns:List Int) (lo hi:Option Int):∃ ms:List Int,xN (ns.map V.int) lo hi = ms.map V.int/\ms.length<=ns.length/\∀ m ∈ ms,m ∈ ns:=by
 refine ⟨(ns.drop (HT.sIx ns.length 0 lo)).take (HT.sIx ns.length ns.length hi - HT.sIx ns.length 0 lo),?_,?_,fun m hm=>List.mem_of_mem_drop (List.mem_of_mem_take hm)⟩
 ·unfold xN
  rw [List.length_map,List.map_take,List.map_drop]
 ·rw [List.length_take,List.length_drop]
  omega
end
section
variable {K:Frag} {ok:Addr->Prop} {H H':Hp} {n:Nat} {x:V}
theorem wW {i:Int} (h:zF K ok H n x (.int i)):x = .int i:=by
 have fl:jp x (.int i)->x = .int i:=fun h=>by
  cases x <;> first | exact h.elim | (have e:=(show _ = _ from h); rw [e])
 cases n with
 | zero=>exact fl h
 | succ n=>
  rcases h with h | ⟨_,_,_,_,e,_⟩ | ⟨_,_,_,_,e,_⟩
  ·exact fl h
  ·cases e
  ·cases e
theorem xm {z:Str} (h:zF K ok H n x (.str z)):x = .str z:=by
 have fl:jp x (.str z)->x = .str z:=fun h=>by
  cases x <;> first | exact h.elim | (have e:=(show _ = _ from h); rw [e])
 cases n with
 | zero=>exact fl h
 | succ n=>
  rcases h with h | ⟨_,_,_,_,e,_⟩ | ⟨_,_,_,_,e,_⟩
  ·exact fl h
  ·cases e
  ·cases e
theorem xl {ds:List Dt} (h:zF K ok H (n + 1) x (.tup ds)):∃ a xs,x = .ref a/\SqT K H a xs/\Paired (zF K ok H n) xs ds:=by
 rcases h with h | ⟨a,xs,ds',e1,e2,e3,r⟩ | ⟨_,_,_,_,e,_⟩
 ·cases x <;> exact h.elim
 ·cases e2; exact ⟨a,xs,e1,e3,r⟩
 ·cases e
theorem zbk {ds:List Dt} (h:zF K ok H (n + 1) x (.lst ds)):∃ a xs,x = .ref a/\ok a/\H a = some (.lst xs)/\Paired (zF K ok H n) xs ds:=by
 rcases h with h | ⟨_,_,_,_,e,_⟩ | ⟨a,xs,ds',e1,e2,o,e3,r⟩
 ·cases x <;> exact h.elim
 ·cases e
 ·cases e2; exact ⟨a,xs,e1,o,e3,r⟩
theorem uK:∀ {ts:List Int} {xs:List V},Paired (zF K ok H n) xs (ts.map .int)->xs = ts.map V.int
 | [],_,r=>by cases r; rfl
 | t :: ts,_,r=>by
  cases r with
  | cons h r=>rw [wW h,uK r]; rfl
theorem yM:∀ (ts:List Int),Paired (zF K ok H n) (ts.map V.int) (ts.map .int)
 | []=>.nil
 | t :: ts=>.cons .int (yM ts)
theorem yV {α β : Type} {F : α->β->Prop}:∀ {a c:List α} {b d:List β},Paired F a b->Paired F c d->Paired F (a ++ c) (b ++ d)
 | _,_,_,_,.nil,s=>s
 | _,_,_,_,.cons r t,s=>.cons r (yV t s)
theorem zfZ {t:Int} (h:zF K ok H 3 x (xD (.one t))):∃ a,x = .ref a/\SqT K H a [.str "one",.int t]:=by
 obtain ⟨a,xs,rfl,hS,r⟩:=xl h
 cases r with
 | cons h1 r=>cases r with
  | cons h2 r=>cases r; rw [xm h1,wW h2] at hS; exact ⟨a,rfl,hS⟩
theorem zfY {ts:List Int} (h:zF K ok H 3 x (xD (.row ts))):∃ a b,x = .ref a/\SqT K H a [.str "row",.ref b]/\ok b/\H b = some (.lst (ts.map V.int)):=by
 obtain ⟨a,xs,rfl,hS,r⟩:=xl h
 cases r with
 | cons h1 r=>cases r with
  | cons h2 r=>
   cases r
   obtain ⟨b,ys,rfl,o,hb,q⟩:=zbk h2
   rw [xm h1] at hS
   rw [uK q] at hb
   exact ⟨a,b,rfl,hS,o,hb⟩
theorem zcE {z:Str} {t:Int} (h:zF K ok H 3 x (xD (.named z t))):∃ a,x = .ref a/\SqT K H a [.str "named",.str z,.int t]:=by
 obtain ⟨a,xs,rfl,hS,r⟩:=xl h
 cases r with
 | cons h1 r=>cases r with
  | cons h2 r=>cases r with
   | cons h3 r=>cases r; rw [xm h1,xm h2,wW h3] at hS; exact ⟨a,rfl,hS⟩
theorem zeq {ps:List (Str × Int)} (h:zF K ok H 3 x (xD (.book ps))):∃ a b ys,x = .ref a/\SqT K H a [.str "book",.ref b]/\ok b/\H b = some (.lst ys)/\Paired (zF K ok H 1) ys (ps.map ye):=by
 obtain ⟨a,xs,rfl,hS,r⟩:=xl h
 cases r with
 | cons h1 r=>cases r with
  | cons h2 r=>
   cases r
   obtain ⟨b,ys,rfl,o,hb,q⟩:=zbk h2
   rw [xm h1] at hS
   exact ⟨a,b,ys,rfl,hS,o,hb,q⟩
end
theorem zcy (c:List yt) (i:Nat) (it:yt) (h:c[i]? = some it):yb (c.take (i + 1)) = yb (c.take i) ++ itT it:=by
 unfold yb
 rw [List.take_add_one,h,List.map_append,List.flatten_append]
 simp
theorem zcz (c:List yt) (i:Nat) (it:yt) (h:c[i]? = some it):yq (c.take (i + 1)) = yq (c.take i) ++ itP it:=by
 unfold yq
 rw [List.take_add_one,h,List.map_append,List.flatten_append]
 simp
theorem zbF (c:List yt) (i:Nat):(yb (c.take i)).length<=(yb c).length:=by
 unfold yb
 conv=>rhs; rw [<- List.take_append_drop i c]
 rw [List.map_append,List.flatten_append,List.length_append]
 omega
theorem zbG (c:List yt) (i:Nat):(yq (c.take i)).length<=(yq c).length:=by
 unfold yq
 conv=>rhs; rw [<- List.take_append_drop i c]
 rw [List.map_append,List.flatten_append,List.length_append]
 omega
theorem ne1:¬ (V.str "row" = V.str "one"):=by decide +kernel
theorem ne2:¬ (V.str "named" = V.str "one"):=by decide +kernel
theorem ne3:¬ (V.str "book" = V.str "one"):=by decide +kernel
theorem ne4:¬ (V.str "named" = V.str "row"):=by decide +kernel
theorem ne5:¬ (V.str "book" = V.str "row"):=by decide +kernel
theorem ne6:¬ (V.str "book" = V.str "named"):=by decide +kernel
section
variable {P:Program} {w:World} {K:Frag} {mg:Str->Option Value} {base:Heap} {f:Addr} {fd:FuncData}
theorem jO:zu ["call","things","pairs","item","word"] ["call"] (ze qJ):=⟨rfl,rfl,rfl,by decide +kernel,rfl,by decide +kernel,by decide +kernel⟩
theorem wo {H H2:Hp} {l:Addr} (s:zm H H2) (h:H l = none) (o:HO):zm H (upd H2 l o):=fun b u q=>by rw [zi (zf q h)]; exact s b u q
theorem zgX (F:Fun K "laid" "laid" qJ f fd):zC P w K mg base CX0 1 f fd ["call"] (zav K):=by
 refine F.ok jO (fun vs H Q E h=>?_) (fun cdv A outer s H vs Q E hr h=>?_)
 ·obtain ⟨a,c,xs,rfl,_⟩:=h
  rfl
 obtain ⟨a,c,xs,rfl,hS,hc,hT,hP,q⟩:=h
 refine ⟨_,zd (zv (i:=1) jO.nd rfl (Or.inl rfl) (zM zb)) (zd (zv (i:=2) jO.nd rfl (Or.inl rfl) (zM zb))
  (zd (yE PassesOwn.never rfl (yH (pv 0)) (zk (i:=3) jO.nd rfl (Or.inl rfl))
   (zd (zv (i:=4) jO.nd rfl (Or.inl rfl) (zI zQ (pv 3) zg (fun _ _=>rfl)))
   (zh (zJ (zo ym (pv 4) zq (zx _)) (zh (zE (yz PySem.F.plainAttrs_list PySem.F.slot_list_append PySem.F.type_list_append zG (pv 1) (ac (zI zQ (pv 3) zg (fun _ _=>rfl)) zb))))
    (zh (zJ (zo ym (pv 4) zq (zx _)) (zh (zE (yz PySem.F.plainAttrs_list PySem.F.slot_list_extend PySem.F.type_list_extend qY (pv 1) (ac (zI zQ (pv 3) zg (fun _ _=>rfl)) zb))))
     (zh (zJ (zo ym (pv 4) zq (zx _)) (zh (zE (yz PySem.F.plainAttrs_list PySem.F.slot_list_append PySem.F.type_list_append zG (pv 2) (ac (zH (ac (zI zQ (pv 3) zg (fun _ _=>rfl)) (ac (zI zQ (pv 3) zg (fun _ _=>rfl)) zb))) zb))))
      (zh (zE (yz PySem.F.plainAttrs_list PySem.F.slot_list_extend PySem.F.type_list_extend qY (pv 2) (ac (zI zQ (pv 3) zg (fun _ _=>rfl)) zb))))))))))))
  (zh (zw (zH (ac (pv 1) (ac (pv 2) zb))))))),?_⟩
 refine ⟨zz0,fun l1 h1=>?_⟩
 refine ⟨zz0,fun l2 h2=>?_⟩
 have n12:l1 ≠ l2:=zf za h2
 have f2:H l2 = none:=(zc h1 _).free h2
 have s0:zm H (upd (upd H l1 (.lst [])) l2 (.lst [])):=(zc h1 _).trans (zc h2 _)
 refine ⟨_,rfl,a,rfl,⟨_,s0.seq hS⟩,vi (K:=K) (a:=a) (xs:=xs) (fun i σ H2=>∃ v3 v4 ys,σ = [some (.ref a),some (.ref l1),some (.ref l2),v3,v4]/\zm H H2/\H2 l1 = some (.lst ((yb (c.take i)).map V.int))/\H2 l2 = some (.lst ys)/\Paired (zF K T' H2 1) ys ((yq (c.take i)).map ye))
  ⟨_,_,[],rfl,s0,by rw [zi n12,za]; rfl,za,.nil⟩ (fun i σ H2 _ ⟨_,_,_,_,s2,_⟩=>s2.seq hS) ?_ ?_⟩
 ·rintro i y σ H2 hi ⟨v3,v4,ys,rfl,s2,g1,g2,gp⟩
  obtain ⟨d,hd,hy⟩:=Paired.get hc hi
  obtain ⟨it,hit,rfl⟩:∃ it,c[i]? = some it/\xD it = d:=by
   rw [List.getElem?_map] at hd
   cases e:c[i]? with
   | none=>rw [e] at hd; cases hd
   | some it=>rw [e] at hd; exact ⟨it,rfl,Option.some.inj hd⟩
  have hy2:=hy.same s2
  have eT:=zcy c i it hit
  have eP:=zcz c i it hit
  have lT:=zbF c i
  have lP:=zbG c i
  have lT1:=zbF c (i + 1)
  have lP1:=zbG c (i + 1)
  have lys:ys.length = (yq (c.take i)).length:=by rw [gp.length,List.length_map]
  have sT:∀ {H3:Hp} {o:HO} {l:Addr},H3 l = none\/(∃ zs,H3 l = some (.lst zs))->∀ {b zs},SqT K H3 b zs->SqT K (upd H3 l o) b zs:=fun {H3 o l} hl {b zs} hz=>by
   rcases hz with (z | ⟨u,z⟩) | z
   ·refine .inl (.inl ?_)
    have:b ≠ l:=fun e=>by
     subst e
     rcases hl with e | ⟨_,e⟩
     ·rw [e] at z; cases z
     ·rw [e] at z; cases z
    rw [zi this]; exact z
   ·refine .inl (.inr ⟨u,?_⟩)
    have:b ≠ l:=fun e=>by
     subst e
     rcases hl with e | ⟨_,e⟩
     ·rw [e] at z; cases z
     ·rw [e] at z; cases z
    rw [zi this]; exact z
   ·exact .inr z
  have keepP:∀ {H3:Hp} {o:HO} {l:Addr} {zs:List V} {ps:List (Str × Int)},H3 l = none\/(∃ zs,H3 l = some (.lst zs))->Paired (zF K T' H3 1) zs (ps.map ye)->Paired (zF K T' (upd H3 l o) 1) zs (ps.map ye):=by
   intro H3 o l zs ps hl r
   induction ps generalizing zs with
   | nil=>cases r; exact .nil
   | cons p ps ih=>
    cases r with
    | cons h r=>
     refine .cons ?_ (ih r)
     obtain ⟨b,ws,rfl,hS',r'⟩:=xl h
     exact .tup (sT hl hS') (Paired.imp' (fun _ _ z=>z) r')
  cases it with
  | one t=>
   obtain ⟨b,rfl,hb⟩:=zfZ hy2
   refine ⟨_,rfl,b,_,_,.str "one",rfl,rfl,hb,rfl,?_⟩
   refine ⟨_,rfl,rfl,_,rfl,?_⟩
   refine dT rfl ?_
   refine ⟨_,rfl,.inl ⟨rfl,_,SqL.of g1⟩,_,rfl,b,_,_,.int t,rfl,rfl,hb,rfl,l1,_,_,rfl,rfl,g1,?_,?_⟩
   ·rw [List.length_map]; exact zz (by omega)
   ·refine ⟨_,_,ys,rfl,wo s2 h1 _,?_,?_,?_⟩
    ·rw [za,eT,List.map_append]; rfl
    ·rw [zi n12.symm]; exact g2
    ·rw [eP]; show Paired _ _ ((yq (c.take i) ++ []).map ye); rw [List.append_nil]; exact keepP (.inr ⟨_,g1⟩) gp
  | row ts=>
   obtain ⟨b,bl,rfl,hb,_,hbl⟩:=zfY hy2
   refine ⟨_,rfl,b,_,_,.str "row",rfl,rfl,hb,rfl,?_⟩
   refine ⟨_,rfl,rfl,_,rfl,?_⟩
   refine dF ne1 ?_
   refine ⟨_,rfl,rfl,_,rfl,?_⟩
   refine dT rfl ?_
   refine ⟨_,rfl,.inl ⟨rfl,_,SqL.of g1⟩,_,rfl,b,_,_,.ref bl,rfl,rfl,hb,rfl,l1,bl,_,_,rfl,rfl,g1,hbl,?_,?_⟩
   ·have e1:(yb (c.take (i + 1))).length = (yb (c.take i)).length + ts.length:=by rw [eT,List.length_append]; rfl
    rw [List.length_map,List.length_map]; exact z8 (by omega)
   ·refine ⟨_,_,ys,rfl,wo s2 h1 _,?_,?_,?_⟩
    ·rw [za,eT,List.map_append]; rfl
    ·rw [zi n12.symm]; exact g2
    ·rw [eP]; show Paired _ _ ((yq (c.take i) ++ []).map ye); rw [List.append_nil]; exact keepP (.inr ⟨_,g1⟩) gp
  | named z t=>
   obtain ⟨b,rfl,hb⟩:=zcE hy2
   refine ⟨_,rfl,b,_,_,.str "named",rfl,rfl,hb,rfl,?_⟩
   refine ⟨_,rfl,rfl,_,rfl,?_⟩
   refine dF ne2 ?_
   refine ⟨_,rfl,rfl,_,rfl,?_⟩
   refine dF ne4 ?_
   refine ⟨_,rfl,rfl,_,rfl,?_⟩
   refine dT rfl ?_
   refine ⟨_,rfl,.inl ⟨rfl,_,SqL.of g2⟩,_,rfl,b,_,_,.str z,rfl,rfl,hb,rfl,_,rfl,b,_,_,.int t,rfl,rfl,hb,rfl,zz2,fun p hp=>?_⟩
   have np2:l2 ≠ p:=zf g2 hp
   have np1:l1 ≠ p:=zf g1 hp
   have fp:H p = none:=s2.free hp
   refine ⟨l2,_,_,rfl,rfl,(by rw [zi np2]; exact g2),?_,?_⟩
   ·rw [lys]; exact zz (by omega)
   ·refine ⟨_,_,ys ++ [.ref p],rfl,wo (wo s2 fp _) f2 _,?_,za,?_⟩
    ·rw [zi n12,zi np1,g1,eT]; show _ = some (HO.lst ((yb (c.take i) ++ []).map V.int)); rw [List.append_nil]
    ·rw [eP,List.map_append]
     refine yV (keepP (.inr ⟨_,by rw [zi np2]; exact g2⟩) (keepP (.inl hp) gp)) (.cons (.tup (xs:=[.str z,.int t]) (SqT.of ?_) (.cons .str (.cons .int .nil))) .nil)
     rw [zi np2.symm,za]
  | book ps=>
   obtain ⟨b,bl,zs,rfl,hb,_,hbl,hz⟩:=zeq hy2
   refine ⟨_,rfl,b,_,_,.str "book",rfl,rfl,hb,rfl,?_⟩
   refine ⟨_,rfl,rfl,_,rfl,?_⟩
   refine dF ne3 ?_
   refine ⟨_,rfl,rfl,_,rfl,?_⟩
   refine dF ne5 ?_
   refine ⟨_,rfl,rfl,_,rfl,?_⟩
   refine dF ne6 ?_
   have lz:zs.length = ps.length:=by rw [hz.length,List.length_map]
   refine ⟨_,rfl,.inl ⟨rfl,_,SqL.of g2⟩,_,rfl,b,_,_,.ref bl,rfl,rfl,hb,rfl,l2,bl,_,_,rfl,rfl,g2,hbl,?_,?_⟩
   ·have e1:(yq (c.take (i + 1))).length = (yq (c.take i)).length + ps.length:=by rw [eP,List.length_append]; rfl
    rw [lys,lz]; exact z8 (by omega)
   ·refine ⟨_,_,ys ++ zs,rfl,wo s2 f2 _,?_,za,?_⟩
    ·rw [zi n12,g1,eT]; show _ = some (HO.lst ((yb (c.take i) ++ []).map V.int)); rw [List.append_nil]
    ·rw [eP,List.map_append]
     exact yV (keepP (.inr ⟨_,g2⟩) gp) (keepP (.inr ⟨_,g2⟩) hz)
 ·rintro σ H2 ⟨v3,v4,ys,rfl,s2,g1,g2,gp⟩
  refine ⟨_,rfl,_,rfl,zz2,fun p hp=>?_⟩
  have hl:xs.length = c.length:=by rw [hc.length,List.length_map]
  rw [hl,List.take_length] at g1 gp
  refine q p _ (s2.trans (zc hp _)) ⟨l1,l2,ys,h1,f2,n12,s2.free hp,za,?_,?_,Paired.imp' (fun _ _ z=>z.same (zc hp _)) gp⟩
  ·rw [zi (zf g1 hp)]; exact g1
  ·rw [zi (zf g2 hp)]; exact g2
end
theorem yi {K:Frag} {ok:Addr->Prop} {H H':Hp} {zs:List V} {ps:List (Str × Int)} (s:zm H H') (r:Paired (zF K ok H 1) zs (ps.map ye)):Paired (zF K ok H' 1) zs (ps.map ye):=Paired.imp' (fun _ _ z=>z.same s) r
def plain (ts:List Int) (ps:List (Str × Int)):List yt:=ts.map .one ++ ps.map fun p=>.named p.1 p.2
theorem zfe {ps:List (Str × Int)} {i:Nat} {d:Dt} (h:(ps.map ye)[i]? = some d):∃ p,ps[i]? = some p/\ye p = d:=by
 rw [List.getElem?_map] at h
 cases e:ps[i]? with
 | none=>rw [e] at h; cases h
 | some it=>rw [e] at h; exact ⟨it,rfl,Option.some.inj h⟩
theorem vB {K:Frag} {ok:Addr->Prop} {H:Hp} {n:Nat} {x:V} {p:Str × Int} (h:zF K ok H (n + 1) x (ye p)):∃ b,x = .ref b/\SqT K H b [.str p.1,.int p.2]:=by
 obtain ⟨a,xs,rfl,hS,r⟩:=xl h
 cases r with
 | cons h1 r=>cases r with
  | cons h2 r=>cases r; rw [xm h1,wW h2] at hS; exact ⟨a,rfl,hS⟩
theorem zcD {K:Frag} {ok:Addr->Prop} {n:Nat} {H H':Hp} {zs:List V} {c:List yt} (s:zm H H') (r:Paired (zF K ok H n) zs (c.map xD)):Paired (zF K ok H' n) zs (c.map xD):=Paired.imp' (fun _ _ z=>z.same s) r
section
variable {P:Program} {w:World} {K:Frag} {mg:Str->Option Value} {base:Heap} {f:Addr} {fd:FuncData}
end
theorem zel (c:List yt) (it:yt):yb (c ++ [it]) = yb c ++ itT it:=by unfold yb; simp
theorem zem (c:List yt) (it:yt):yq (c ++ [it]) = yq c ++ itP it:=by unfold yq; simp
theorem vp {K:Frag} {ok ok':Addr->Prop} {H:Hp} (hk:∀ b,ok b->H b ≠ none->ok' b) {n:Nat} {x:V} {d:Dt} (h:zF K ok H n x d):zF K ok' H n x d:=
 h.frame (fun a xs z=>z) fun a xs oa z=>⟨hk a oa (by rw [z]; intro q; cases q),z⟩
theorem qv {A B:Prop} {b:Bool} (h:b = true) (a:A):if b = true then A else B:=by rw [h]; exact vI a
theorem j9 {A B:Prop} {b:Bool} (h:b = false) (a:B):if b = true then A else B:=by rw [h]; exact y9 a
section
variable {P:Program} {w:World} {K:Frag} {mg:Str->Option Value} {base:Heap} {f:Addr} {fd:FuncData}
section
variable {H H':Hp} {p l1 l2 l:Addr} {ys:List V} {ts:List Int} {ps:List (Str × Int)} {o:HO}
end
end
def zP (c:List yt):List Str:=(yq c).map (·.1)
def jt (K:Frag):Sp:=fun vs H Q _=>∃ (a:Addr) (c:List yt) (xs:List V),vs = [.ref a]/\SqL K H a xs/\Paired (zF K T' H 3) xs (c.map xD)/\(yb c).length<=900/\(yq c).length<=900/\
 ∀ (p l:Addr) (H':Hp),zm H H'->H l = none->H' p = some (.tup [.int ((yb c).length:Nat),.ref l])->H' l = some (.lst ((zP c).map V.str))->Q (.ref p) H'
def vJ:Nat->List (Key × V)->List Str->List (Key × V)
 | _,acc,[]=>acc
 | i,acc,z :: zs=>vJ (i + 1) (if (zL acc (.inr z)).isSome = true then acc else yr acc (.inr z) (.int i)) zs
theorem zab {z:Str}:∀ (zs:List Str) (j i:Nat) (acc:List (Key × V)),zs[i]? = some z->vJ j acc (zs.take (i + 1)) = (if (zL (vJ j acc (zs.take i)) (.inr z)).isSome = true then vJ j acc (zs.take i) else yr (vJ j acc (zs.take i)) (.inr z) (.int (j + i:Nat)))
 | [],_,_,_,h=>by simp at h
 | y :: ys,j,0,acc,h=>by
  have e:y = z:=by simpa using h
  subst e
  rfl
 | y :: ys,j,i + 1,acc,h=>by
  have:=zab ys (j + 1) i (if (zL acc (.inr y)).isSome = true then acc else yr acc (.inr y) (.int j)) (by simpa using h)
  show vJ (j + 1) _ (ys.take (i + 1)) = _
  rw [this,show j + 1 + i = j + (i + 1) by omega]
  rfl
theorem zbP:∀ (zs:List Str) (i:Nat) (acc:List (Key × V)),(vJ i acc zs).length<=acc.length + zs.length
 | [],_,_=>Nat.le_refl _
 | z :: zs,i,acc=>by
  have h:=zbP zs (i + 1) (if (zL acc (.inr z)).isSome = true then acc else yr acc (.inr z) (.int i))
  have h2:(if (zL acc (.inr z)).isSome = true then acc else yr acc (.inr z) (.int i)).length<=acc.length + 1:=by
   split
   ·omega
   ·exact xi acc _ _
  show (vJ (i + 1) _ zs).length<=acc.length + (zs.length + 1)
  omega
def uc:Sp:=fun vs H Q _=>∃ (a:Addr) (zs:List Str),vs = [.ref a]/\H a = some (.lst (zs.map V.str))/\zs.length<=900/\∀ (l:Addr) (o:Obj) (H':Hp),zm H H'->H l = none->H' l = some (.frz o (.dK (vJ 0 [] zs)))->Q (.ref l) H'
section
variable {P:Program} {w:World} {K:Frag} {mg:Str->Option Value} {base:Heap} {f CF:Addr} {fd:FuncData} {c:C5} {m:MA}
theorem zjp:([Str.ofString "name",Str.ofString "thing"]:List Str).Nodup:=by decide +kernel
theorem zaH:zu ["call","things","pairs"] ["call"] (ze uM):=⟨rfl,rfl,rfl,by decide +kernel,rfl,by decide +kernel,by decide +kernel⟩
theorem zfp {g:Addr} {gd:FuncData} (F:Fun K "shape" "shape" uM f fd) (hlen:mg "len" = none) (cL:zl P w K mg base 1 "laid" g gd ["call"] (zav K)):zC P w K mg base CX0 2 f fd ["call"] (jt K):=by
 refine F.ok zaH (fun vs H Q E h=>?_) (fun cdv A outer s H vs Q E hr h=>?_)
 ·obtain ⟨a,c,xs,rfl,_⟩:=h
  rfl
 obtain ⟨a,c,xs,rfl,hS,hc,lT,lP,q⟩:=h
 refine ⟨_,zd (wg (cF cL hr (ac (pv 0) zb)) (yc rfl (zt (zk (i:=1) zaH.nd rfl (Or.inl rfl)) (zt (zk (i:=2) zaH.nd rfl (Or.inl rfl)) zV))))
  (zh (zw (zH (ac (cB zB hlen PySem.boot_len (ac (pv 1) zb)) (ac (xI [] ["name","thing"] [none,none] rfl ⟨rfl,rfl,rfl,rfl⟩ (yH (pv 2)) (yw (K:=K) (n:=2) 0 1) rfl rfl rfl
   (fun pins fp s H C=>⟨yc rfl (zt (zk (i:=0) zjp rfl (Or.inl rfl) (.inr rfl)) (zt (zk (i:=1) zjp rfl (Or.inl rfl) (.inr rfl)) zV)),xp,pv 0⟩)) zb))))),?_⟩
 refine ⟨_,rfl,a,c,xs,rfl,hS,hc,lT,lP,fun p H1 s1 two=>?_⟩
 obtain ⟨l1,l2,ys,n1,n2,n12,np,ep,e1,e2,gp⟩:=two
 refine ⟨p,_,rfl,SqT.of ep,rfl,_,_,rfl,_,_,rfl,rfl,?_⟩
 refine ⟨_,rfl,l1,_,rfl,.inl (SqL.of e1),_,rfl,l2,rfl,⟨_,SqL.of e2⟩,fun D hD=>?_⟩
 have lys:ys.length = (yq c).length:=by rw [gp.length,List.length_map]
 refine uu (K:=K) (xs:=ys) (fun i zs H'=>zm H1 H'/\H' D = some (.lst zs)/\zs = ((zP c).take i).map V.str) ⟨zc hD _,za,rfl⟩ (fun i zs H' h=>SqL.of (h.1 _ _ e2)) ?_ ?_
 ·rintro i x zs H' hlt hx ⟨sH,hDy,ez⟩
  obtain ⟨d,hd,hy⟩:=Paired.get gp hx
  obtain ⟨pr',hpr,rfl⟩:=zfe hd
  obtain ⟨b,rfl,hb⟩:=vB (hy.same sH)
  refine ⟨b,_,rfl,hb,rfl,_,_,rfl,_,_,rfl,rfl,fun _=>⟨_,rfl,?_⟩,fun e=>Bool.noConfusion e⟩
  have hi:i < (zP c).length:=by unfold zP; rw [List.length_map]; omega
  have en:(zP c)[i] = pr'.1:=by
   have:(zP c)[i]? = some pr'.1:=by unfold zP; rw [List.getElem?_map,hpr]; rfl
   rw [List.getElem?_eq_getElem hi] at this
   exact Option.some.inj this
  refine lcN.mk hlt (z8 (by omega)) hDy (by rw [ez,List.length_map,List.length_take]; omega) ⟨fun b' u e=>?_,za,?_⟩
  ·rw [zi (zf e hD)]
   exact sH b' u e
  ·rw [ez,List.take_succ_eq_append_getElem hi,en,List.map_append]
   rfl
 rintro zs H2 ⟨s2,hDy,ez⟩
 have hz:zs = (zP c).map V.str:=by
  rw [ez,List.take_of_length_le (by unfold zP; rw [List.length_map]; omega)]
 subst hz
 refine ⟨zz2,fun t ht=>?_⟩
 have s3:=zc ht (.tup [.int ((yb c).map V.int).length,.ref D])
 refine q t D _ (s1.trans (s2.trans s3)) (s1.free hD) (by rw [za,List.length_map]) (s3 _ _ hDy)
theorem ue:zu ["names","firsts","number","name"] ["names"] (ze vy):=⟨rfl,rfl,rfl,by decide +kernel,rfl,by decide +kernel,by decide +kernel⟩
theorem zd9 (F:Fun K "first_numbers" "first_numbers" vy f fd) (hen:mg "enumerate" = none):zC P w K mg base CX0 1 f fd ["names"] uc:=by
 refine F.ok ue (fun vs H Q E h=>?_) (fun cdv A outer s H vs Q E hr h=>?_)
 ·obtain ⟨a,zs,rfl,_⟩:=h
  rfl
 obtain ⟨a,zs,rfl,ha,lz,q⟩:=h
 have hu1:=zbO hr
 refine ⟨_,zd (zv (i:=1) ue.nd rfl (Or.inl rfl) ze9)
  (zd (yE PassesOwn.never rfl (xa rfl hen (ac (pv 0) zb)) (yc rfl (zt (zk (i:=2) ue.nd rfl (Or.inl rfl)) (zt (zk (i:=3) ue.nd rfl (Or.inl rfl)) zV)))
   (zh (zJ (vR (zd3 hu1 (pv 3) (pv 1))) (zh (zde hu1 (pv 1) (pv 3) (pv 2) rfl)) zA)))
  (zh (zw (zic (pv 1))))),?_⟩
 intro sd hsd
 have s1:=zc hsd (.dK [])
 have e1:upd H sd (.dK []) sd = some (.dK []):=za
 show xY _ _ _ _ (upd H sd (.dK []))
 generalize upd H sd (.dK []) = H1 at s1 e1 |-
 refine ⟨_,rfl,a,rfl,⟨_,SqL.of (s1 _ _ ha)⟩,vj (K:=K) (a:=a) (xs:=zs.map V.str) (fun i σ H'=>∃ (v2 v3:Option V),σ = [some (.ref a),some (.ref sd),v2,v3]/\zm H H'/\H' sd = some (.dK (vJ 0 [] (zs.take i))))
  ⟨_,_,rfl,s1,e1⟩ (fun i σ H' _ ⟨_,_,_,sH,_⟩=>SqL.of (sH _ _ ha)) ?_ ?_⟩
 ·rintro i x p σ H' hx ⟨v2,v3,rfl,sH,hd⟩ hpn
  obtain ⟨z,hz,rfl⟩:=strs_at hx
  have sp:=zc hpn (.tup [.int (i:Nat),.str z])
  have hd2:=sp _ _ hd
  have tk:=zab zs 0 i [] hz
  rw [Nat.zero_add] at tk
  have hi:i < zs.length:=(List.getElem?_eq_some_iff.mp hz).1
  refine ⟨p,_,rfl,SqT.of za,rfl,_,_,rfl,_,_,rfl,rfl,?_⟩
  refine ⟨_,rfl,_,rfl,sd,_,rfl,.inl ⟨_,.inr z,.inl hd2,rfl,rfl⟩,_,rfl,?_⟩
  refine qa (fun ne=>?_) (fun ne=>?_)
  ·have ns:¬ (zL (vJ 0 [] (zs.take i)) (.inr z)).isSome = true:=by
    intro e
    rw [e] at ne
    cases ne
   rw [if_neg ns] at tk
   have ln:=zbP (zs.take i) 0 []
   refine ⟨_,rfl,_,rfl,_,rfl,sd,_,rfl,.inl ⟨_,.inr z,hd2,rfl,zz (by rw [List.length_take] at ln; simp at ln; omega),rfl⟩,?_⟩
   refine ⟨_,_,rfl,fun b' u e=>?_,by rw [za,tk]⟩
   rw [zi (zf e hsd)]
   exact sp _ _ (sH _ _ e)
  ·have ns:(zL (vJ 0 [] (zs.take i)) (.inr z)).isSome = true:=by
    cases e:(zL (vJ 0 [] (zs.take i)) (.inr z)).isSome with
    | true=>rfl
    | false=>exact absurd (by rw [e]; rfl) ne
   rw [if_pos ns] at tk
   exact ⟨_,_,rfl,sH.trans sp,by rw [tk]; exact hd2⟩
 ·rintro σ H' ⟨v2,v3,rfl,sH,hd⟩
  rw [List.length_map,List.take_length] at hd
  refine ⟨_,rfl,sd,_,rfl,hd,fun o=>?_⟩
  refine q sd o _ (fun b' u e=>?_) hsd za
  rw [zi (zf e hsd)]
  exact sH _ _ e
end
def MA1 (H:Hp) (u:Addr) (m:Str × Nat):Prop:=H u = some (.tup [.str m.1,.int (m.2:Nat)])
def xG (H:Hp) (us:List Addr) (ms:List (Str × Nat)):Prop:=Paired (MA1 H) us ms
theorem xG.same {H H':Hp} {us:List Addr} {ms:List (Str × Nat)} (h:xG H us ms) (s:zm H H'):xG H' us ms:=Paired.imp' (fun _ _ z=>s _ _ z) h
theorem xG.upd {H:Hp} {us:List Addr} {ms:List (Str × Nat)} {D:Addr} {ys:List V} {o:HO} (h:xG H us ms) (hD:H D = some (.lst ys)):xG (upd H D o) us ms:=Paired.imp' (fun u m z=>by
 show L2.upd H D o u = _
 rw [zi (fun e=>by rw [e] at z; rw [MA1,hD] at z; cases z)]
 exact z) h
theorem xG.snoc {H:Hp} {us:List Addr} {ms:List (Str × Nat)} {u:Addr} {m:Str × Nat} (h:xG H us ms) (hu:MA1 H u m):xG H (us ++ [u]) (ms ++ [m]):=Paired.snoc h hu
def zb3 (H H':Hp) (l:Addr) (ms:List (Str × Nat)):Prop:=∃ us:List Addr,H l = none/\H' l = some (.lst (us.map V.ref))/\xG H' us ms
def wa (rows:List Rw) (many:Nat):List (Str × Nat):=if (zy 2 0 rows).isSome = true then [] else (List.range (many - plN rows)).map fun i=>((("over" : Str),plN rows + i):Str × Nat)
def zas (c:C5) (CF:Addr):Sp:=fun vs H Q _=>∃ (f:Addr) (many:Nat) (rows:List Rw) (bars:List Str),vs = [.ref f,.int (many:Nat)]/\many<=900/\rows.length<=500/\xg c CF H f rows bars/\∀ (l:Addr) (H':Hp),zm H H'->zb3 H H' l (wa rows many)->Q (.ref l) H'
def vT (r:Rw) (i many:Nat) (fk:List (Key × V)):List V:=
 if xc r.k = true/\i < many then [.str "place",.int (i:Nat)] else if z0 r.k = true/\(zL fk (.inr r.z)).isSome = true then [.str "name",(zL fk (.inr r.z)).getD .non] else [.str "free"]
def zcT (fk:List (Key × V)):Prop:=∀ k v,zL fk k = some v->xu v = true
def zat (c:C5):Sp:=fun vs H Q _=>∃ (p d:Addr) (i many:Nat) (r:Rw) (fk:List (Key × V)),vs = [.ref p,.int (i:Nat),.int (many:Nat),.ref d]/\PAt c H p r/\r.ok/\Rd H d (.dK fk)/\∀ (u:Addr) (H':Hp),zm H H'->H' u = some (.tup (vT r i many fk))->Q (.ref u) H'
def zU (r:Rw) (i many:Nat) (fk:List (Key × V)):Bool:=!fr r.k r.b && L2.eqT (vT r i many fk) [.str "free"]
def yA (many:Nat) (fk:List (Key × V)):Nat->List Rw->List (Str × Nat)
 | _,[]=>[]
 | i,r :: rs=>(if zU r i many fk = true then [(("lacking" : Str),i)] else []) ++ yA many fk (i + 1) rs
theorem j5 {many:Nat} {fk:List (Key × V)} {r:Rw}:∀ (rows:List Rw) (j i:Nat),rows[i]? = some r->yA many fk j (rows.take (i + 1)) = yA many fk j (rows.take i) ++ (if zU r (j + i) many fk = true then [(("lacking" : Str),j + i)] else [])
 | [],_,_,h=>by simp at h
 | y :: ys,j,0,h=>by
  have e:y = r:=by simpa using h
  subst e
  show (_ ++ []) = [] ++ _
  rw [List.append_nil,List.nil_append]
  rfl
 | y :: ys,j,i + 1,h=>by
  have:=j5 (many:=many) (fk:=fk) ys (j + 1) i (by simpa using h)
  show _ ++ yA many fk (j + 1) (ys.take (i + 1)) = _
  rw [this,show j + 1 + i = j + (i + 1) by omega,<- List.append_assoc]
  rfl
theorem vF (many:Nat) (fk:List (Key × V)):∀ (rows:List Rw) (i:Nat),(yA many fk i rows).length<=rows.length
 | [],_=>Nat.le_refl _
 | r :: rs,i=>by
  have:=vF many fk rs (i + 1)
  show (_ ++ yA many fk (i + 1) rs).length<=rs.length + 1
  rw [List.length_append]
  split
  ·rw [List.length_singleton]; omega
  ·rw [List.length_nil]; omega
theorem zd6 {r:Rw} {i many:Nat} {fk:List (Key × V)} (h:zcT fk):(vT r i many fk).all xu = true:=by
 unfold vT
 split
 ·rfl
 ·split
  next h2=>
   obtain ⟨v,hv⟩:=Option.isSome_iff_exists.mp h2.2
   rw [hv]
   show (true && (xu v && true)) = true
   rw [h _ _ hv]
   rfl
  ·rfl
def zaw (c:C5) (CF:Addr):Sp:=fun vs H Q _=>∃ (f d:Addr) (many:Nat) (rows:List Rw) (bars:List Str) (fk:List (Key × V)),vs = [.ref f,.int (many:Nat),.ref d]/\rows.length<=500/\(∀ r ∈ rows,r.ok)/\xg c CF H f rows bars/\Rd H d (.dK fk)/\zcT fk/\∀ (l:Addr) (H':Hp),zm H H'->zb3 H H' l (yA many fk 0 rows)->Q (.ref l) H'
theorem zm.rd {H H':Hp} {a:Addr} {u:HO} (s:zm H H') (h:Rd H a u):Rd H' a u:=h.elim (fun e=>.inl (s _ _ e)) fun ⟨o,e⟩=>.inr ⟨o,s _ _ e⟩
section
variable {P:Program} {w:World} {K:Frag} {mg:Str->Option Value} {base:Heap} {f CF:Addr} {fd:FuncData} {c:C5} {m:MA}
theorem zjo:([Str.ofString "number"]:List Str).Nodup:=by decide +kernel
theorem zgw:zu ["form","many"] ["form","many"] (ze uS):=⟨rfl,rfl,rfl,by decide +kernel,rfl,by decide +kernel,by decide +kernel⟩
theorem zft {gT gP:Addr} {eT eP:FuncData} (F:Fun K "overs" "overs" uS f fd) (hran:mg "range" = none) (FK:FC K CF) (mT:y6 K CF "tail" gT) (GT:zC P w K mg base CX0 1 gT eT ["self"] (wU c CF 2)) (bT:zS K eT ["self"] []) (mP:y6 K CF "places" gP) (GP:zC P w K mg base CX0 1 gP eP ["self"] (wV c CF)) (bP:zS K eP ["self"] []) :
  zC P w K mg base CX0 2 f fd ["form","many"] (zas c CF):=by
 refine F.ok zgw (fun vs H Q E h=>?_) (fun cdv A outer s H vs Q E hr h=>?_)
 ·obtain ⟨f,many,rows,bars,rfl,_⟩:=h
  rfl
 obtain ⟨f,many,rows,bars,rfl,lm,l5,hF,q⟩:=h
 refine ⟨_,zd (zJ (vR (zgN (yF (pv 0) FK.cl mT GT hr bT .nil y7))) (zh (zw (zM zb))) zA)
  (zh (zw (xI [] ["number"] [none] rfl ⟨rfl,rfl,rfl,rfl⟩ (zd1 rfl hran (ac (yF (pv 0) FK.cl mP GP hr bP .nil y7) (ac (pv 1) zb))) (yx 0) rfl rfl rfl
   (fun pins fp s H C=>⟨zk (i:=0) zjo rfl (Or.inl rfl) (.inr rfl),xp,zH (ac zq (ac (pv 0) zb))⟩)))),?_⟩
 obtain ⟨dx,fs,lr,lb,ld,ps,h1,h2,h3,h4,h5,h6⟩:=id hF
 have nmT:fs.lookup ("tail" : Str) = none:=h2.no _ (by decide +kernel)
 have nmP:fs.lookup ("places" : Str) = none:=h2.no _ (by decide +kernel)
 refine ⟨_,rfl,f,dx,fs,rfl,h1,nmT,f,rows,bars,rfl,hF,?_⟩
 refine ⟨_,rfl,?_⟩
 cases e:zy 2 0 rows with
 | some i=>
  have ef:wa rows many = []:=by unfold wa; rw [e]; rfl
  have ne:(!decide (xZ (some i) = V.non)) = true:=rfl
  rw [if_pos ne]
  refine ⟨zz0,fun l hl=>?_⟩
  exact q l _ (zc hl _) ⟨[],hl,za,by rw [ef]; exact .nil⟩
 | none=>
  have ef:wa rows many = (List.range (many - plN rows)).map fun i=>((("over" : Str),plN rows + i):Str × Nat):=by unfold wa; rw [e]; rfl
  refine y9 ?_
  have lp:plN rows<=500:=Nat.le_trans (List.length_filter_le _ _) l5
  refine ⟨_,rfl,f,dx,fs,rfl,h1,nmP,f,rows,bars,rfl,hF,_,rfl,(plN rows:Nat),(many:Nat),rfl,⟨by omega,by omega,by omega,by omega⟩,fun D hD=>?_⟩
  have en:((many:Int) - (plN rows:Int)).toNat = many - plN rows:=by omega
  refine vh (n:=((many:Int) - (plN rows:Int)).toNat) (fun i ys H'=>∃ us,ys = us.map V.ref/\zm H H'/\H' D = some (.lst ys)/\xG H' us ((List.range i).map fun i=>((("over" : Str),plN rows + i):Str × Nat))) ⟨[],rfl,zc hD _,za,.nil⟩ ?_ ?_
  ·rintro i ys H' hi ⟨us,rfl,sH,hDy,hm⟩
   have lu:us.length = i:=by rw [hm.length,List.length_map,List.length_range]
   refine ⟨fun _=>?_,fun e=>Bool.noConfusion e⟩
   refine ⟨_,rfl,zz2,fun t ht=>?_⟩
   have s2:=zc ht (.tup [.str "over",.int ((plN rows:Int) + (i:Int))])
   have hDy2:=s2 _ _ hDy
   refine lcN.mk hi (z8 (by omega)) hDy2 (by rw [List.length_map,lu]; exact Nat.le_refl _) ⟨us ++ [t],by rw [List.map_append]; rfl,fun b' u' e'=>?_,za,?_⟩
   ·rw [zi (zf e' hD)]
    exact s2 _ _ (sH _ _ e')
   ·rw [List.range_succ,List.map_append]
    have hu:MA1 (upd H' t (.tup [.str "over",.int ((plN rows:Int) + (i:Int))])) t ("over",plN rows + i):=by
     show upd H' t _ t = _
     rw [za]
     rfl
    exact ((hm.same s2).snoc hu).upd hDy2
  ·rintro ys H' ⟨us,rfl,sH,hDy,hm⟩
   rw [en,<- ef] at hm
   exact q D H' sH ⟨us,hD,hDy,hm⟩
theorem zhW:zu ["parameter","number","many","firsts"] ["parameter","number","many","firsts"] (ze qG):=⟨rfl,rfl,rfl,by decide +kernel,rfl,by decide +kernel,by decide +kernel⟩
theorem zgT {gp gb:FuncData} (F:Fun K "one_entry" "one_entry" qG f fd) (PP:Pcs K m c) (GP:zC P w K mg base CX0 1 m.fP gp ["self"] (zaz K m bpL)) (bP:zS K gp ["self"] []) (GB:zC P w K mg base CX0 1 m.fB gb ["self"] (zaz K m bnL)) (bB:zS K gb ["self"] []) :
  zC P w K mg base CX0 2 f fd ["parameter","number","many","firsts"] (zat c):=by
 refine F.ok zhW (fun vs H Q E h=>?_) (fun cdv A outer s H vs Q E hr h=>?_)
 ·obtain ⟨p,d,i,many,r,fk,rfl,_⟩:=h
  rfl
 obtain ⟨p,d,i,many,r,fk,rfl,⟨dx,hp⟩,rok,hd,q⟩:=h
 have hu1:=zbO hr
 have C:=PP r.k rok.1
 refine ⟨_,zd (zJ (PW.pt (xw (xF (yF (pv 0) C.cl C.mP GP hr bP .nil y7)) (yZ (zo jk (pv 1) (pv 2) (zx _))))) (zh (zw (zH (ac zq (ac (pv 1) zb))))) zA)
  (zd (zJ (PW.pt (xw (xF (yF (pv 0) C.cl C.mB GB hr bB .nil y7)) (yZ (vR (zid hu1 (yO (pv 0) rfl) (pv 3)))))) (zh (zw (zH (ac zq (ac (jy hu1 (pv 3) (yO (pv 0) rfl) (fun _ _=>rfl)) zb))))) zA)
  (zh (zw (zH (ac zq zb))))),?_⟩
 have nP:(pr r).lookup ("by_place" : Str) = none:=qX (by decide +kernel) (by decide +kernel) (by decide +kernel)
 have nB:(pr r).lookup ("by_name" : Str) = none:=qX (by decide +kernel) (by decide +kernel) (by decide +kernel)
 try dsimp only
 refine yC (fun σ' H'=>σ' = [some (.ref p),some (.int (i:Nat)),some (.int (many:Nat)),some (.ref d)]/\H' = H/\¬ (xc r.k = true/\i < many)) ?_ (fun key=>?_)
 rotate_left
 ·refine ⟨_,rfl,p,dx,_,rfl,hp,nP,p,dx,_,_,_,_,rfl,C,hp,_,rfl,?_⟩
  rw [zhA r.k rok.1]
  cases eb:xc r.k with
  | false=>
   refine y9 ?_
   refine y9 ?_
   exact key _ _ ⟨rfl,rfl,by rw [eb]; exact fun z=>Bool.noConfusion z.1⟩
  | true=>
   refine vI ?_
   refine ⟨_,rfl,_,rfl,_,_,rfl,rfl,_,rfl,?_⟩
   refine qa (fun c1=>?_) (fun c1=>?_)
   ·have hlt:i < many:=by
     have:=of_decide_eq_true c1
     omega
    refine ⟨_,rfl,zz2,fun t ht=>?_⟩
    exact q t _ (zc ht _) (by rw [za]; unfold vT; rw [if_pos ⟨eb,hlt⟩])
   ·have hlt:¬ i < many:=fun h=>c1 (decide_eq_true (by show (i:Int) < (many:Int); omega))
    exact key _ _ ⟨rfl,rfl,fun z=>hlt z.2⟩
 rintro σ1 H1 ⟨rfl,rfl,nn⟩
 have e1:vT r i many fk = (if z0 r.k = true/\(zL fk (.inr r.z)).isSome = true then [.str "name",(zL fk (.inr r.z)).getD .non] else [.str "free"]):=by unfold vT; rw [if_neg nn]
 try dsimp only
 refine yC (fun σ' H'=>σ' = [some (.ref p),some (.int (i:Nat)),some (.int (many:Nat)),some (.ref d)]/\H' = H1/\¬ (z0 r.k = true/\(zL fk (.inr r.z)).isSome = true)) ?_ (fun key=>?_)
 rotate_left
 ·refine ⟨_,rfl,p,dx,_,rfl,hp,nB,p,dx,_,_,_,_,rfl,C,hp,_,rfl,?_⟩
  rw [qc r.k rok.1]
  cases eb:z0 r.k with
  | false=>
   refine y9 ?_
   refine y9 ?_
   exact key _ _ ⟨rfl,rfl,by rw [eb]; exact fun z=>Bool.noConfusion z.1⟩
  | true=>
   refine vI ?_
   refine ⟨_,rfl,p,_,dx,_,_,rfl,hp,C.cl,C.nN,jx,_,rfl,d,_,rfl,.inl ⟨fk,.inr r.z,hd,rfl,rfl⟩,_,rfl,?_⟩
   refine qa (fun c1=>?_) (fun c1=>?_)
   ·obtain ⟨v,hv⟩:=Option.isSome_iff_exists.mp c1
    refine ⟨_,rfl,_,rfl,p,_,dx,_,_,rfl,hp,C.cl,C.nN,jx,d,v,rfl,.inl ⟨fk,.inr r.z,hd,rfl,hv.symm⟩,zz2,fun t ht=>?_⟩
    exact q t _ (zc ht _) (by rw [za,e1,if_pos ⟨eb,c1⟩,hv]; rfl)
   ·exact key _ _ ⟨rfl,rfl,fun z=>c1 z.2⟩
 rintro σ2 H2 ⟨rfl,rfl,nn2⟩
 refine ⟨zz1,fun t ht=>?_⟩
 exact q t _ (zc ht _) (by rw [za,e1,if_neg nn2])
theorem ju:zu ["form","many","firsts","found","number","parameter"] ["form","many","firsts"] (ze qK):=⟨rfl,rfl,rfl,by decide +kernel,rfl,by decide +kernel,by decide +kernel⟩
theorem zfw {g gP:Addr} {gd gf eP:FuncData} (F:Fun K "lackings" "lackings" qK f fd) (hen:mg "enumerate" = none) (PP:Pcs K m c) (FK:FC K CF) (mP:y6 K CF "parameters" gP) (GP:zC P w K mg base CX0 1 gP eP ["self"] (jL c CF)) (bP:zS K eP ["self"] [])
  (GF:zC P w K mg base CX0 1 m.fF gf ["self"] (zcc K m)) (bF:zS K gf ["self"] []) (cE1:zl P w K mg base 2 "one_entry" g gd ["parameter","number","many","firsts"] (zat c)):zC P w K mg base CX0 3 f fd ["form","many","firsts"] (zaw c CF):=by
 refine F.ok ju (fun vs H Q E h=>?_) (fun cdv A outer s H vs Q E hr h=>?_)
 ·obtain ⟨f,d,many,rows,bars,fk,rfl,_⟩:=h
  rfl
 obtain ⟨f,d,many,rows,bars,fk,rfl,l5,hok,hF,hd,hfl,q⟩:=h
 have hr1:ya 1 _:=hr.mono (by decide)
 have hU:=hr.units
 have hO:∀ C,Cs5 c C->Cls K C/\y6 K C "free" m.fF:=fun C ⟨k,hk,e⟩=>by rw [e]; exact ⟨(PP k hk).cl,(PP k hk).mF⟩
 refine ⟨_,zd (zv (i:=3) ju.nd rfl (Or.inl rfl) (zM zb))
  (zd (yE PassesOwn.never rfl (xa rfl hen (ac (yF (pv 0) FK.cl mP GP hr1 bP .nil y7) zb)) (yc rfl (zt (zk (i:=4) ju.nd rfl (Or.inl rfl)) (zt (zk (i:=5) ju.nd rfl (Or.inl rfl)) zV)))
   (zh (zJ (PW.pt (xw (wY (xF (ui (pv 5) hO GF hr1 bF y7))) (yZ (zo (zfj hU) (cF cE1 hr (ac (pv 5) (ac (pv 4) (ac (pv 1) (ac (pv 2) zb))))) (zH (ac zq zb)) (zx _)))))
    (zh (zE (yz PySem.F.plainAttrs_list PySem.F.slot_list_append PySem.F.type_list_append zG (pv 3) (ac (zH (ac zq (ac (pv 4) zb))) zb)))) zA)))
  (zh (zw (pv 3)))),?_⟩
 refine ⟨zz0,fun l hl=>?_⟩
 have s1:=zc hl (.lst [])
 have e1:upd H l (.lst []) l = some (.lst []):=za
 show xY _ _ _ _ (upd H l (.lst []))
 generalize upd H l (.lst []) = H1 at s1 e1 |-
 obtain ⟨dx,fs,lr,lb,ld,ps0,h1,h2,h3,h4,h5,h6⟩:=id hF
 have nmP:fs.lookup ("parameters" : Str) = none:=h2.no _ (by decide +kernel)
 refine ⟨_,rfl,f,dx,fs,rfl,s1 _ _ h1,nmP,f,rows,bars,rfl,hF.same s1,fun lp ps H2 s2 np ep hps=>?_⟩
 have e2:=s2 _ _ e1
 have nlp:lp ≠ l:=Ne.symm (zf e1 np)
 have nd:∀ {b:Addr} {u:HO},H b = some u->b ≠ l:=fun e=>zf e hl
 have s12:=s1.trans s2
 have sHl:∀ {H':Hp},(∀ b u,H2 b = some u->b ≠ l->H' b = some u)->zm H H':=fun k b u e=>k b u (s12 _ _ e) (nd e)
 refine ⟨lp,rfl,⟨_,SqL.of ep⟩,vj (K:=K) (a:=lp) (xs:=ps.map V.ref) (fun i σ H'=>∃ (us:List Addr) (v4 v5:Option V),σ = [some (.ref f),some (.int (many:Nat)),some (.ref d),some (.ref l),v4,v5]/\(∀ b u,H2 b = some u->b ≠ l->H' b = some u)/\H' l = some (.lst (us.map V.ref))/\xG H' us (yA many fk 0 (rows.take i)))
  ⟨[],_,_,rfl,fun _ _ e _=>e,e2,.nil⟩ (fun i σ H' _ ⟨_,_,_,_,sH,_⟩=>SqL.of (sH _ _ ep nlp)) ?_ ?_⟩
 ·rintro i x p σ H' hx ⟨us,v4,v5,rfl,sH,hl',hm⟩ hpn
  obtain ⟨pa,hpa,rfl⟩:=xn hx
  obtain ⟨r,hr',dx',hdx⟩:=yv hps hpa
  have rok:=hok r (List.mem_of_getElem? hr')
  have C:=PP r.k rok.1
  have hi:i < rows.length:=(List.getElem?_eq_some_iff.mp hr').1
  have npa:pa ≠ l:=xK hdx e2 (by intro z; cases z)
  have tk:=j5 (many:=many) (fk:=fk) rows 0 i hr'
  rw [Nat.zero_add] at tk
  have sp:=zc hpn (.tup [.int (i:Nat),.ref pa])
  have lu:us.length<=i:=by
   rw [hm.length]
   refine Nat.le_trans (vF _ _ _ _) ?_
   rw [List.length_take]
   omega
  have sH1:∀ b u,H2 b = some u->b ≠ l->upd H' p (.tup [.int (i:Nat),.ref pa]) b = some u:=fun b u e n=>sp _ _ (sH b u e n)
  have hl1:=sp _ _ hl'
  have hm1:=hm.same sp
  refine ⟨p,_,rfl,SqT.of za,rfl,_,_,rfl,_,_,rfl,rfl,?_⟩
  generalize upd H' p (.tup [.int (i:Nat),.ref pa]) = H3 at sH1 hl1 hm1 |-
  have hd3:=sH1 _ _ hdx npa
  refine ⟨_,rfl,pa,_,dx',_,rfl,⟨r.k,rok.1,rfl⟩,hd3,qX (by decide +kernel) (by decide +kernel) (by decide +kernel),pa,dx',_,_,_,_,rfl,C,hd3,_,rfl,?_⟩
  cases ef:fr r.k r.b with
  | true=>
   have il:zU r i many fk = false:=by unfold zU; rw [ef]; rfl
   rw [il,if_neg Bool.false_ne_true,List.append_nil] at tk
   refine y9 ?_
   refine y9 ?_
   exact ⟨us,_,_,rfl,sH1,hl1,by rw [tk]; exact hm1⟩
  | false=>
   refine vI ?_
   refine ⟨_,rfl,_,rfl,_,rfl,_,rfl,pa,d,i,many,r,fk,rfl,⟨dx',hd3⟩,rok,zm.rd (sHl sH1) hd,fun u H4 s4 e4=>?_⟩
   refine ⟨zz1,fun t ht=>?_⟩
   have s5:=zc ht (.tup [.str "free"])
   refine ⟨u,t,_,_,rfl,rfl,SqT.of (s5 _ _ e4),SqT.of za,zd6 hfl,rfl,_,rfl,?_⟩
   have s45:=s4.trans s5
   have il:zU r i many fk = L2.eqT (vT r i many fk) [.str "free"]:=by unfold zU; rw [ef]; rfl
   rw [<- il]
   generalize upd H4 t (.tup [.str "free"]) = H5 at s5 s45 |-
   have hl5:=s45 _ _ hl1
   have sH5:∀ b u,H2 b = some u->b ≠ l->H5 b = some u:=fun b u e n=>s45 _ _ (sH1 b u e n)
   refine qa (fun c1=>?_) (fun c1=>?_)
   ·rw [c1,if_pos rfl] at tk
    refine ⟨_,rfl,.inl ⟨rfl,_,SqL.of hl5⟩,_,rfl,zz2,fun t2 ht2=>?_⟩
    have s6:=zc ht2 (.tup [.str "lacking",.int (i:Nat)])
    have hl6:=s6 _ _ hl5
    have hu2:MA1 (upd H5 t2 (.tup [.str "lacking",.int (i:Nat)])) t2 ("lacking",i):=by
     show upd H5 t2 _ t2 = _
     rw [za]
    refine ⟨l,_,.ref t2,rfl,rfl,hl6,zz (by rw [List.length_map]; omega),?_⟩
    refine ⟨us ++ [t2],_,_,rfl,fun b u e n=>?_,by rw [za,List.map_append]; rfl,?_⟩
    ·rw [zi n]
     exact s6 _ _ (sH5 b u e n)
    ·rw [tk]
     exact (((hm1.same s45).same s6).snoc hu2).upd hl6
   ·have c2:zU r i many fk = false:=by
     cases e:zU r i many fk with
     | false=>rfl
     | true=>exact absurd e c1
    rw [c2,if_neg Bool.false_ne_true,List.append_nil] at tk
    exact ⟨us,_,_,rfl,sH5,hl5,by rw [tk]; exact hm1.same s45⟩
 ·rintro σ H' ⟨us,v4,v5,rfl,sH,hl',hm⟩
  rw [List.length_map,hps.length,List.take_length] at hm
  exact ⟨_,rfl,q l H' (sHl sH) ⟨us,hl,hl',hm⟩⟩
end
def fpF:Nat->List (Str × Nat)->List Str->List (Str × Nat)
 | _,acc,[]=>acc
 | i,acc,z :: zs=>fpF (i + 1) (if (acc.any fun p=>decide (p.1 = z)) = true then acc else acc ++ [(z,i)]) zs
def kvP (fp:List (Str × Nat)):List (Key × V):=fp.map fun p=>(.inr p.1,.int (p.2:Nat))
theorem wb (fp:List (Str × Nat)) (z:Str):(zL (kvP fp) (.inr z)).isSome = fp.any fun p=>decide (p.1 = z):=by
 rw [<- wm]
 unfold kvP
 rw [List.any_map]
 congr 1
 funext p
 show decide ((Sum.inr p.1:Key) = Sum.inr z) = decide (p.1 = z)
 exact zfW _ _
theorem zcH:∀ (zs:List Str) (i:Nat) (acc:List (Str × Nat)),vJ i (kvP acc) zs = kvP (fpF i acc zs)
 | [],_,_=>rfl
 | z :: zs,i,acc=>by
  show vJ (i + 1) (if (zL (kvP acc) (.inr z)).isSome = true then kvP acc else yr (kvP acc) (.inr z) (.int i)) zs = kvP (fpF (i + 1) (if (acc.any fun p=>decide (p.1 = z)) = true then acc else acc ++ [(z,i)]) zs)
  rw [wb]
  cases e:acc.any fun p=>decide (p.1 = z) with
  | true=>exact zcH zs (i + 1) acc
  | false=>
   have e2:yr (kvP acc) (.inr z) (.int (i:Nat)) = kvP (acc ++ [(z,i)]):=by
    unfold yr
    rw [wm,wb,e,if_neg Bool.false_ne_true]
    unfold kvP
    rw [List.map_append]
    rfl
   rw [if_neg Bool.false_ne_true,if_neg Bool.false_ne_true,e2]
   exact zcH zs (i + 1) _
theorem jC {fp:List (Str × Nat)} {k:Key} {v:V} (h:zL (kvP fp) k = some v):∃ (z:Str) (j:Nat),k = .inr z/\v = .int (j:Nat)/\(z,j) ∈ fp:=by
 unfold zL at h
 cases e:(kvP fp).find? fun kv=>decide (kv.1 = k) with
 | none=>rw [e] at h; cases h
 | some kv=>
  rw [e] at h
  have hm:=List.mem_of_find?_eq_some e
  have hk:=List.find?_some e
  unfold kvP at hm
  obtain ⟨p,hp,rfl⟩:=List.mem_map.mp hm
  exact ⟨p.1,p.2,(of_decide_eq_true hk).symm,(Option.some.inj h).symm,hp⟩
theorem zhc (fp:List (Str × Nat)):zcT (kvP fp):=fun k v h=>by
 obtain ⟨z,j,_,rfl,_⟩:=jC h
 rfl
theorem zdu {z:Str}:∀ (zs:List Str) (i:Nat) (acc:List (Str × Nat)),(acc.any fun p=>decide (p.1 = z)) = true->((fpF i acc zs).any fun p=>decide (p.1 = z)) = true
 | [],_,_,h=>h
 | y :: ys,i,acc,h=>by
  show ((fpF (i + 1) _ ys).any _) = true
  refine zdu ys (i + 1) _ ?_
  split
  ·exact h
  ·rw [List.any_append,h]; rfl
theorem zcL {z:Str}:∀ (zs:List Str) (i:Nat) (acc:List (Str × Nat)),z ∈ zs->((fpF i acc zs).any fun p=>decide (p.1 = z)) = true
 | [],_,_,h=>by cases h
 | y :: ys,i,acc,h=>by
  show ((fpF (i + 1) _ ys).any _) = true
  rcases List.mem_cons.mp h with rfl | h
  ·refine zdu ys (i + 1) _ ?_
   split
   next e=>exact e
   ·rw [List.any_append]
    simp
  ·exact zcL ys (i + 1) _ h
def fpZ (zs:List Str):List (Str × Nat):=fpF 0 [] zs
theorem zhB (zs:List Str):vJ 0 [] zs = kvP (fpZ zs):=zcH zs 0 []
def xX (fk:List (Key × V)):Nat->List Str->List (Str × Nat)
 | _,[]=>[]
 | i,z :: zs=>(if zL fk (.inr z) = some (.int (i:Nat)) then [] else [(("doubled" : Str),i)]) ++ xX fk (i + 1) zs
theorem zag {fk:List (Key × V)} {z:Str}:∀ (zs:List Str) (j i:Nat),zs[i]? = some z->xX fk j (zs.take (i + 1)) = xX fk j (zs.take i) ++ (if zL fk (.inr z) = some (.int (j + i:Nat)) then [] else [(("doubled" : Str),j + i)])
 | [],_,_,h=>by simp at h
 | y :: ys,j,0,h=>by
  have e:y = z:=by simpa using h
  subst e
  show (_ ++ []) = [] ++ _
  rw [List.append_nil,List.nil_append]
  rfl
 | y :: ys,j,i + 1,h=>by
  have:=zag (fk:=fk) ys (j + 1) i (by simpa using h)
  show _ ++ xX fk (j + 1) (ys.take (i + 1)) = _
  rw [this,show j + 1 + i = j + (i + 1) by omega,<- List.append_assoc]
  rfl
theorem uC (fk:List (Key × V)):∀ (zs:List Str) (i:Nat),(xX fk i zs).length<=zs.length
 | [],_=>Nat.le_refl _
 | r :: rs,i=>by
  have:=uC fk rs (i + 1)
  show (_ ++ xX fk (i + 1) rs).length<=rs.length + 1
  rw [List.length_append]
  split
  ·rw [List.length_nil]; omega
  ·rw [List.length_singleton]; omega
def yd (rows:List Rw) (bars:List Str) (many:Nat) (z:Str):Option Str:=
 if z ∈ bars then some "barred" else match lastD' z rows with
  | none=>if (zy 4 0 rows).isSome = true then none else some "strange"
  | some l=>if l < plN rows/\l < many then some "again" else none
where lastD' (z:Str) (rows:List Rw):Option Nat:=match zL (yl 0 [] rows) (.inr z) with
 | some (.int i)=>some i.toNat
 | _=>none
def uH (rows:List Rw) (bars:List Str) (many:Nat) (fp:List (Str × Nat)):List (Str × Nat):=fp.filterMap fun p=>(yd rows bars many p.1).map fun wd=>(wd,p.2)
def zR (rows:List Rw) (bars:List Str) (many:Nat) (zs:List Str):List (Str × Nat):=xX (kvP (fpZ zs)) 0 zs ++ wa rows many ++ uH rows bars many (fpZ zs) ++ yA many (kvP (fpZ zs)) 0 rows
def zeI (c:C5) (CF:Addr):Sp:=fun vs H Q _=>∃ (f d:Addr) (o:Obj) (many:Nat) (rows:List Rw) (bars:List Str) (fp:List (Str × Nat)),vs = [.ref f,.int (many:Nat),.ref d]/\rows.length<=500/\bars.length<=500/\fp.length<=900/\xg c CF H f rows bars/\H d = some (.frz o (.dK (kvP fp)))/\∀ (l:Addr) (H':Hp),zm H H'->zb3 H H' l (uH rows bars many fp)->Q (.ref l) H'
def zc3 (c:C5) (CF:Addr):Sp:=fun vs H Q _=>∃ (f a:Addr) (many:Nat) (rows:List Rw) (bars zs:List Str),vs = [.ref f,.int (many:Nat),.ref a]/\rows.length<=500/\bars.length<=500/\many<=900/\zs.length<=900/\(∀ r ∈ rows,r.ok)/\xg c CF H f rows bars/\H a = some (.lst (zs.map V.str))/\∀ (l:Addr) (H':Hp),zm H H'->zb3 H H' l (zR rows bars many zs)->Q (.ref l) H'
theorem jH:∀ (zs:List Str) (i:Nat) (acc:List (Str × Nat)),(fpF i acc zs).length<=acc.length + zs.length
 | [],_,_=>Nat.le_refl _
 | z :: zs,i,acc=>by
  have h:=jH zs (i + 1) (if (acc.any fun p=>decide (p.1 = z)) = true then acc else acc ++ [(z,i)])
  have h2:(if (acc.any fun p=>decide (p.1 = z)) = true then acc else acc ++ [(z,i)]).length<=acc.length + 1:=by
   split
   ·omega
   ·rw [List.length_append]; exact Nat.le_refl _
  show (fpF (i + 1) _ zs).length<=acc.length + (zs.length + 1)
  omega
theorem xG.app {H:Hp} {us vs:List Addr} {ms ns:List (Str × Nat)} (h:xG H us ms) (h':xG H vs ns):xG H (us ++ vs) (ms ++ ns):=yV h h'
section
variable {P:Program} {w:World} {K:Frag} {mg:Str->Option Value} {base:Heap} {f CF:Addr} {fd:FuncData} {c:C5} {m:MA}
theorem zjt:([Str.ofString "number",Str.ofString "name",Str.ofString "firsts"]:List Str).Nodup:=by decide +kernel
theorem zeR:zu ["form","many","names","firsts","doubled"] ["form","many","names"] (ze zdU):=⟨rfl,rfl,rfl,by decide +kernel,rfl,by decide +kernel,by decide +kernel⟩
theorem zik {g1 g2 g3 g4:Addr} {d1 d2 d3 d4:FuncData} (F:Fun K "misfits_of" "misfits_of" zdU f fd) (hen:mg "enumerate" = none) (c1:zl P w K mg base 1 "first_numbers" g1 d1 ["names"] uc) (c2:zl P w K mg base 2 "overs" g2 d2 ["form","many"] (zas c CF)) (c3:zl P w K mg base 2 "unwelcomes" g3 d3 ["form","many","firsts"] (zeI c CF)) (c4:zl P w K mg base 3 "lackings" g4 d4 ["form","many","firsts"] (zaw c CF)) :
  zC P w K mg base CX0 4 f fd ["form","many","names"] (zc3 c CF):=by
 refine F.ok zeR (fun vs H Q E h=>?_) (fun cdv A outer s H vs Q E hr h=>?_)
 ·obtain ⟨f,a,many,rows,bars,zs,rfl,_⟩:=h
  rfl
 obtain ⟨f,a,many,rows,bars,zs,rfl,l5,lb5,lm,lz,hok,hF,ha,q⟩:=h
 have hr1:ya 1 _:=hr.mono (by decide)
 have hr2:ya 2 _:=hr.mono (by decide)
 have hu1:=zbO hr
 refine ⟨_,zd (zv (i:=3) zeR.nd rfl (Or.inr rfl) (cF c1 hr1 (ac (pv 2) zb)))
  (zd (jQ (i:=4) ["firsts"] ["number","name","firsts"] [none,none,some 3] zeR.nd rfl (Or.inl rfl) rfl ⟨rfl,rfl,rfl,rfl⟩ (xa rfl hen (ac (pv 2) zb)) (yw (K:=K) (n:=2) 0 1) rfl rfl rfl
   (fun pins fp s H C=>⟨yc rfl (zt (zk (i:=0) zjt rfl (Or.inl rfl) (.inr rfl)) (zt (zk (i:=1) zjt rfl (Or.inl rfl) (.inr rfl)) zV)),y0 (zo zhv (jy hu1 (pv 2) (pv 1) (fun _ _=>rfl)) (pv 0) (zx _)),zH (ac zq (ac (pv 0) zb))⟩))
  (zh (zw (zr y8 (zr y8 (zr y8 (pv 4) (cF c2 hr2 (ac (pv 0) (ac (pv 1) zb)))) (cF c3 hr2 (ac (pv 0) (ac (pv 1) (ac (pv 3) zb))))) (cF c4 hr (ac (pv 0) (ac (pv 1) (ac (pv 3) zb)))))))),?_⟩
 refine ⟨_,rfl,a,zs,rfl,ha,lz,fun d o H1 s1 hd0 hd1=>?_⟩
 rw [zhB] at hd1
 have lfp:(fpZ zs).length<=900:=by
  have:=jH zs 0 []
  show (fpF 0 [] zs).length<=900
  simp at this
  omega
 generalize hfp:fpZ zs = fp at hd1 lfp
 refine ⟨_,rfl,a,rfl,⟨_,SqL.of (s1 _ _ ha)⟩,fun D hD=>?_⟩
 refine zaP (K:=K) (xs:=zs.map V.str) (fun i ys H'=>∃ us,ys = us.map V.ref/\zm H1 H'/\H' D = some (.lst ys)/\xG H' us (xX (kvP fp) 0 (zs.take i))) ⟨[],rfl,zc hD _,za,.nil⟩ (fun i ys H' ⟨_,_,h,_⟩=>SqL.of (h _ _ (s1 _ _ ha))) ?_ ?_
 ·rintro i x p ys H' hlt hx ⟨us,rfl,sH,hDy,hm⟩ hpn
  obtain ⟨z,hz,rfl⟩:=strs_at hx
  have hi:i < zs.length:=(List.getElem?_eq_some_iff.mp hz).1
  have tk:=zag (fk:=kvP fp) zs 0 i hz
  rw [Nat.zero_add] at tk
  have sp:=zc hpn (.tup [.int (i:Nat),.str z])
  have lu:us.length<=i:=by
   rw [hm.length]
   refine Nat.le_trans (uC _ _ _) ?_
   rw [List.length_take]
   omega
  have hsome:(zL (kvP fp) (.inr z)).isSome = true:=by
   rw [wb,<- hfp]
   exact zcL zs 0 [] (List.mem_of_getElem? hz)
  obtain ⟨v,hv⟩:=Option.isSome_iff_exists.mp hsome
  obtain ⟨_,j,_,rfl,_⟩:=jC hv
  have hd2:=sp _ _ (sH _ _ hd1)
  have hDy2:=sp _ _ hDy
  have hm2:=hm.same sp
  refine ⟨p,_,rfl,SqT.of za,rfl,_,_,rfl,_,_,rfl,rfl,?_⟩
  have sA:=sH.trans sp
  generalize upd H' p (.tup [.int (i:Nat),.str z]) = H3 at sp hd2 hDy2 hm2 sA |-
  refine ⟨_,rfl,_,rfl,d,_,rfl,.inl ⟨_,.inr z,.inr ⟨o,hd2⟩,rfl,hv.symm⟩,_,rfl,rfl,_,rfl,?_⟩
  by_cases ej:j = i
  ·subst ej
   rw [if_pos hv,List.append_nil] at tk
   have ed:(!decide (V.int (j:Nat) = V.int (j:Nat))) = false:=by rw [decide_eq_true rfl]; rfl
   rw [ed]
   exact ⟨fun e=>Bool.noConfusion e,fun _=>lcS.mk hlt ⟨us,rfl,sA,hDy2,by rw [tk]; exact hm2⟩⟩
  ·have nv:¬ zL (kvP fp) (.inr z) = some (.int (i:Nat)):=fun e=>by
    rw [hv] at e
    have:=V.int.inj (Option.some.inj e)
    omega
   rw [if_neg nv] at tk
   have ed:(!decide (V.int (j:Nat) = V.int (i:Nat))) = true:=by
    rw [decide_eq_false (fun e=>by have:=V.int.inj e; omega)]
    rfl
   rw [ed]
   refine ⟨fun _=>?_,fun e=>Bool.noConfusion e⟩
   refine ⟨_,rfl,zz2,fun t ht=>?_⟩
   have s4:=zc ht (.tup [.str "doubled",.int (i:Nat)])
   have hDy4:=s4 _ _ hDy2
   have hu:MA1 (upd H3 t (.tup [.str "doubled",.int (i:Nat)])) t ("doubled",i):=by
    show upd H3 t _ t = _
    rw [za]
   refine lcN.mk hlt (z8 (by rw [List.length_map]; omega)) hDy4 (by rw [List.length_map]; exact lu) ⟨us ++ [t],by rw [List.map_append]; rfl,fun b' u' e'=>?_,za,?_⟩
   ·rw [zi (zf e' hD)]
    exact s4 _ _ (sA _ _ e')
   ·rw [tk]
    exact ((hm2.same s4).snoc hu).upd hDy4
 rintro ys H2 ⟨us,rfl,s2,hDy,hm⟩
 rw [List.length_map,List.take_length] at hm
 have s12:=s1.trans s2
 have lov:(wa rows many).length<=900:=by
  unfold wa
  split
  ·exact Nat.zero_le _
  ·rw [List.length_map,List.length_range]; omega
 have lun:(uH rows bars many fp).length<=900:=by
  unfold uH
  exact Nat.le_trans (List.length_filterMap_le _ _) lfp
 have lla:=vF many (kvP fp) rows 0
 have ldb:=uC (kvP fp) zs 0
 have big : 4000<=sizeLine:=by decide
 refine ⟨_,rfl,_,rfl,_,rfl,f,many,rows,bars,rfl,lm,l5,hF.same s12,fun l3 H3 s3 ⟨us3,n3,e3,m3⟩=>?_⟩
 have lu0:=hm.length
 have lu3:=m3.length
 refine ⟨D,l3,_,_,rfl,rfl,s3 _ _ hDy,e3,(by simp only [List.length_map]; omega),fun p4 hp4=>?_⟩
 rw [<- List.map_append]
 have u4:=zc hp4 (.lst ((us ++ us3).map V.ref))
 have e4:upd H3 p4 (.lst ((us ++ us3).map V.ref)) p4 = some (.lst ((us ++ us3).map V.ref)):=za
 have m4:xG (upd H3 p4 (.lst ((us ++ us3).map V.ref))) (us ++ us3) _:=((hm.same s3).app m3).same u4
 generalize upd H3 p4 (.lst ((us ++ us3).map V.ref)) = H4 at u4 e4 m4 |-
 have s24:=s2.trans (s3.trans u4)
 have s14:=s1.trans s24
 refine ⟨_,rfl,_,rfl,_,rfl,f,d,o,many,rows,bars,fp,rfl,l5,lb5,lfp,hF.same s14,s24 _ _ hd1,fun l5' H5 s5 ⟨us5,n5,e5,m5⟩=>?_⟩
 have lu5:=m5.length
 refine ⟨p4,l5',_,_,rfl,rfl,s5 _ _ e4,e5,(by simp only [List.length_map,List.length_append]; omega),fun p6 hp6=>?_⟩
 rw [<- List.map_append]
 have u6:=zc hp6 (.lst ((us ++ us3 ++ us5).map V.ref))
 have e6:upd H5 p6 (.lst ((us ++ us3 ++ us5).map V.ref)) p6 = some (.lst ((us ++ us3 ++ us5).map V.ref)):=za
 have m6:xG (upd H5 p6 (.lst ((us ++ us3 ++ us5).map V.ref))) (us ++ us3 ++ us5) _:=((m4.same s5).app m5).same u6
 generalize upd H5 p6 (.lst ((us ++ us3 ++ us5).map V.ref)) = H6 at u6 e6 m6 |-
 have s26:=s24.trans (s5.trans u6)
 have s16:=s1.trans s26
 refine ⟨_,rfl,_,rfl,_,rfl,f,d,many,rows,bars,kvP fp,rfl,l5,hok,hF.same s16,.inr ⟨o,s26 _ _ hd1⟩,zhc fp,fun l7 H7 s7 ⟨us7,n7,e7,m7⟩=>?_⟩
 have lu7:=m7.length
 refine ⟨p6,l7,_,_,rfl,rfl,s7 _ _ e6,e7,(by simp only [List.length_map,List.length_append]; omega),fun p8 hp8=>?_⟩
 rw [<- List.map_append]
 have u8:=zc hp8 (.lst ((us ++ us3 ++ us5 ++ us7).map V.ref))
 refine q p8 _ (s16.trans (s7.trans u8)) ⟨us ++ us3 ++ us5 ++ us7,(s16.trans s7).free hp8,za,?_⟩
 unfold zR
 rw [hfp]
 exact ((m6.same s7).app m7).same u8
end
end K25
namespace L2
open PySem PySem.Spec PyProof.Rows
def seen (val:Nat->Str) (T:Str->Bool):Nat->Nat->Str->Bool
 | _,0,z=>T z
 | i,k + 1,z=>seen val (fun y=>T y || decide (y = val i)) (i + 1) k z
section
variable {P:Program} {w:World} {A:Around} {R:Result->Shared->Prop} {I:Addr} {fp wr:List Addr} {G:Array GenState->Array GenState->Prop} {n:Nat} {Pr:Nat->Value->Prop} {Sg:Nat->Shared->Prop}
theorem jJ (W:WalksS P w A.in1 I fp wr G n Pr Sg) (a:Addr) (ha:a ∉ fp) (val:Nat->Str) (hv:∀ i v,Pr i v->∃ t,v = .str (val i) t) (hb:n + 1 < scanBound) :
  ∀ (k i:Nat) (s:Shared) (T:Str->Bool) (c:Nat),n - i = k->i<=n->Sg i s->c<=i->s.heap.SetOf (strKind P w) a T c->
   (∀ s' c',Moved (a :: wr) G s s'->c'<=n->s'.heap.SetOf (strKind P w) a (seen val T i k) c'->R (.ok (.ret .none)) s')->
   codeAny (model P w) A (.builtin "set.update.loop" ⟨[.ref a,.ref I],[]⟩) R s
 | 0,i,s,T,c,hk,hi,hg,hc,hT,hR=>by
  have hw:a ∉ wr:=fun z=>ha (W.sub _ z)
  have ei:i = n:=by omega
  subst ei
  refine codeAny_builtin PyProof.Rows.F.entry_set_update_loop ?_; rw [Around.under_plainId PyProof.Rows.F.plain_set_update_loop _]
  show wpAny _ A.in1 (pyNext (.ref I) >>= _) _ _ _; refine wpAny_bind (W.done s _ _ hg fun s' hm=>?_)
  show wpAny _ A.in1 (ret Value.none) _ _ _; refine wpAny_pure (hR s' c (hm.mono fun b z=>List.mem_cons_of_mem _ z) hc ?_)
  obtain ⟨ob,es,ep,t,h1,h2⟩:=hT
  exact ⟨ob,es,ep,t,hm.heap a _ hw h1,h2⟩
 | k + 1,i,s,T,c,hk,hi,hg,hc,hT,hR=>by
  have hw:a ∉ wr:=fun z=>ha (W.sub _ z)
  have hlt:i < n:=by omega
  refine codeAny_builtin PyProof.Rows.F.entry_set_update_loop ?_; rw [Around.under_plainId PyProof.Rows.F.plain_set_update_loop _]
  show wpAny _ A.in1 (pyNext (.ref I) >>= _) _ _ _; refine wpAny_bind (W.item i s _ _ hlt hg fun v s' hP hg' hm=>?_)
  obtain ⟨t,rfl⟩:=hv i v hP
  have hT':s'.heap.SetOf (strKind P w) a T c:=by
   obtain ⟨ob,es,ep,tb,h1,h2⟩:=hT
   exact ⟨ob,es,ep,tb,hm.heap a _ hw h1,h2⟩
  show wpAny _ A.in1 (holding [Value.str (val i) t] (setAdd a (.str (val i) t)) >>= _) _ _ s'
  refine wpAny_bind (wpAny_holding ?_); unfold setAdd; refine wpAny_holding ?_
  refine wpAny_bind ((strKind P w).pyHash (k:=val i) (strKind_is _ _ _ _) ?_)
  refine wpAny_setAddHashed_of (knd:=strKind P w) (s:={ s' with toks:=s'.toks + 1 }) (strKind_is _ _ _ _) rfl hT' (by omega) fun h' hsb h3=>?_
  refine wpAny_pure ⟨plainId_quiet PyProof.Rows.F.plain_set_update_loop _,jJ W a ha val hv hb k (i + 1) _ _ _ (by omega) hlt (W.frame _ s' _ _ hg' (Nat.le_succ _) fun b hb' o e=>?_) (by split <;> omega) h3 fun s2 c2 hm2 hc2 h4=>?_⟩
  ·have:b ≠ a:=fun z=>ha (z ▸ hb')
   rw [hsb.2 b this]; exact e
  ·refine hR s2 c2 (Moved.trans W.gtrans ((hm.mono fun b z=>List.mem_cons_of_mem _ z).then_heap (Nat.le_succ _) fun b o hb' e=>?_) hm2) hc2 h4
   have:b ≠ a:=fun z=>hb' (z ▸ List.mem_cons_self)
   rw [hsb.2 b this]; exact e
end
abbrev jM (led:Bool):Obj:={ cls:=.type "set",dict:=none,data:=.set #[] 0 (.fresh 0 0 led) }
set_option maxHeartbeats 8000000 in
theorem zcQ {P:Program} {w:World} {A:Around} {E:Value->Shared->Prop} {s:Shared} {l:Addr} {items:Array Value} {zs:List Str} {Q:Value->Shared->Prop}
  (hh:A.handled = none) (hl:s.heap.IsList l items) (hv:∀ (i:Nat) (v:Value),items[i]? = some v->∃ t,v = .str (zs.getD i "") t) (hb:items.size + 1 < scanBound)
  (h:∀ (h':Heap) (tk c:Nat),h'.SetOf (strKind P w) s.heap.objs.size (seen (fun i=>zs.getD i "") (fun _=>false) 0 items.size) c->(∀ b o,b < s.heap.objs.size->s.heap.get? b = some o->h'.get? b = some o)->Q (.ref s.heap.objs.size) { s with heap:=h',toks:=tk }) :
  wpAny (model P w) A (call (.type "set") [.ref l]) Q E s:=by
 obtain ⟨mc,mt,mro⟩:=PySem.F.called_set.mro
 have q1:=PySem.F.called_set.made; have q2:=PySem.F.called_set.sub; have q3:=PySem.F.called_set.notType; have q4:=PySem.F.called_set.canCreate; have q5:=PySem.F.typeCall_set_1 (.ref l)
 refine wpAny_call (codeAny_of_tree ?_); show wpAny _ _ (callAny (.type "set") _) _ _ _
 refine wpAny_pure ⟨Code.quiet_builtin _ (by decide +kernel),codeAny_builtin PySem.F.entry_type_call ?_⟩; rw [Around.under_plain (weight_type_call_type "set" [.ref l] []) rfl]
 repeat (any_goals first | assumption | wp_step)
 refine codeAny_mono (code_set_new_1 (.ref l) (E:=E) (Q₁:=fun obj s₁=>∃ led:Bool,obj = .ref s.heap.objs.size/\s₁ = { s with heap:=s.heap.push (jM led) }) fun led=>⟨led,rfl,rfl⟩) fun r s₁ hr=>?_
 rcases r with e | (_ | _ | _ | obj)
 ·exact hr
 ·exact hr.elim
 ·exact hr.elim
 ·exact hr.elim
 ·obtain ⟨led,rfl,rfl⟩:=hr
  have hS:(s.heap.push (jM led)).get? s.heap.objs.size = some (jM led):=Heap.get?_push_size _ rfl
  have hT:Shared.TypeIs { s with heap:=s.heap.push (jM led) } (.ref s.heap.objs.size) "set":=⟨_,hS,rfl⟩
  have q6:=PySem.F.called_set.init.lookup; have q7:=PySem.F.called_set.init.bind (.ref s.heap.objs.size)
  repeat (any_goals first | assumption | wp_step)
  refine codeAny_mono (codeAny_call_builtin (R:=wants (fun r s₂=>r = .none/\∃ h' tk c,s₂ = { s with heap:=h',toks:=tk }/\h'.SetOf (strKind P w) s.heap.objs.size (seen (fun i=>zs.getD i "") (fun _=>false) 0 items.size) c/\∀ b o,b < s.heap.objs.size->s.heap.get? b = some o->h'.get? b = some o) E) PySem.F.called_set.init.plain PySem.F.entry_set_init (check_set_init_1 hT ?_)) fun r₂ s₂ hr₂=>?_
  ·obtain ⟨ol,hol,hcl,nl,hdl⟩:=id hl
   obtain ⟨ocls,odict,odata,oslots⟩:=ol
   simp only at hcl hdl
   subst hcl hdl
   have hol':(s.heap.push (jM led)).get? l = _:=Heap.get?_push_of_some (jM led) hol
   have t1:=PySem.F.sub_list_set; have t2:=PySem.F.sub_list_frozenset
   have t3:(Value.type "list" == Value.type "dict") = false:=by decide
   have hl1:(s.heap.push (jM led)).IsList l items:=⟨_,hol',rfl,nl,rfl⟩
   have hlS:l < s.heap.objs.size:=Heap.lt_size hol
   unfold Builtin.«set.__init__» noKeywords Builtin.Frozenset.updateFrom
   generalize hq:pyIter = pit
   wp_walk
   subst hq
   refine wpAny_pyIter_list hl1 (wpAny_bind (wpAny_runValue ?_))
   have hz:(s.heap.push (jM led)).objs.size = s.heap.objs.size + 1:=Heap.size_push ..
   have n1:l ≠ (s.heap.push (jM led)).objs.size:=by rw [hz]; exact Nat.ne_of_lt (Nat.lt_succ_of_lt hlS)
   have n2:∀ b:Addr,b < s.heap.objs.size->b ∉ [s.heap.objs.size,(s.heap.push (jM led)).objs.size]:=fun b hb' z=>by
    rw [hz] at z
    rcases List.mem_cons.mp z with e | e
    ·exact Nat.ne_of_lt hb' e
    ·exact Nat.ne_of_lt (Nat.lt_succ_of_lt hb') (List.mem_singleton.mp e)
   have n3:s.heap.objs.size ∉ [(s.heap.push (jM led)).objs.size,l]:=fun z=>by
    rw [hz] at z
    rcases List.mem_cons.mp z with e | e
    ·exact Nat.ne_of_lt (Nat.lt_succ_self _) e
    ·exact Nat.ne_of_gt hlS (List.mem_singleton.mp e)
   refine jJ ((Walks.list (by simp [hh]) _ l n1 items).toS) s.heap.objs.size n3 (fun i=>zs.getD i "") hv hb items.size 0 _ (fun _=>false) 0 (by omega) (Nat.zero_le _) ⟨⟨_,Heap.get?_push_size _ rfl,rfl,rfl⟩,hl1.push _⟩ (Nat.le_refl _) ?_ ?_
   ·exact (PyProof.Rows.setObjOf_fresh (knd:=strKind P w) led).setOf (Heap.get?_push_of_some _ hS) (by unfold scanBound; omega)
   ·rintro ⟨h',g',d',tk',os'⟩ c' hm hc' hS'
    have e1:g' = s.gens:=hm.gens
    have e2:d' = s.drawn:=hm.drawn
    have e3:os' = s.os:=hm.os
    subst e1 e2 e3
    show wpAny _ _ _ _ _ _
    refine wpAny_pure ?_; show wpAny _ _ (ret Value.none) _ _ _
    refine wpAny_pure ⟨rfl,h',tk',c',rfl,hS',fun b o hb' e=>hm.heap b o (n2 b hb') (Heap.get?_push_of_some _ (Heap.get?_push_of_some _ e))⟩
  ·rcases r₂ with e | (_ | _ | _ | ob2)
   ·exact hr₂
   ·exact hr₂.elim
   ·exact hr₂.elim
   ·exact hr₂.elim
   ·obtain ⟨rfl,h',tk,c',rfl,hS',hk'⟩:=hr₂
    repeat (any_goals first | assumption | wp_step)
    exact h _ _ _ hS' hk'
theorem zbi (val:Nat->Str) (z:Str):∀ (k i:Nat) (T:Str->Bool),seen val T i k z = true ↔ (T z = true\/∃ j,j < k/\z = val (i + j))
 | 0,i,T=>⟨fun h=>.inl h,fun h=>h.elim id fun ⟨j,hj,_⟩=>absurd hj (Nat.not_lt_zero _)⟩
 | k + 1,i,T=>by
  show seen val (fun y=>T y || decide (y = val i)) (i + 1) k z = true ↔ _
  rw [zbi val z k (i + 1)]
  simp only [Bool.or_eq_true,decide_eq_true_eq]
  constructor
  ·rintro ((h | h) | ⟨j,hj,e⟩)
   ·exact .inl h
   ·exact .inr ⟨0,by omega,h⟩
   ·exact .inr ⟨j + 1,by omega,by rw [show i + (j + 1) = i + 1 + j by omega]; exact e⟩
  ·rintro (h | ⟨j,hj,e⟩)
   ·exact .inl (.inl h)
   ·cases j with
    | zero=>exact .inl (.inr e)
    | succ j=>exact .inr ⟨j,by omega,by rw [show i + 1 + j = i + (j + 1) by omega]; exact e⟩
theorem zeO (zs:List Str) (z:Str):seen (fun i=>zs.getD i "") (fun _=>false) 0 zs.length z = decide (z ∈ zs):=by
 rw [Bool.eq_iff_iff,zbi,decide_eq_true_eq]
 constructor
 ·rintro (h | ⟨j,hj,e⟩)
  ·cases h
  ·rw [e,Nat.zero_add]
   show zs.getD j "" ∈ zs
   rw [List.getD_eq_getElem?_getD,List.getElem?_eq_getElem hj]
   exact List.getElem_mem hj
 ·intro h
  obtain ⟨j,hj,e⟩:=List.mem_iff_getElem.mp h
  refine .inr ⟨j,hj,?_⟩
  rw [Nat.zero_add]
  show z = zs.getD j ""
  rw [List.getD_eq_getElem?_getD,List.getElem?_eq_getElem hj]
  exact e.symm
theorem zK.strs_at:∀ {zs:List Str} {us:List Value},zK (zs.map V.str) us->∀ (i:Nat) (v:Value),us[i]? = some v->∃ t,v = .str (zs.getD i "") t
 | [],_,.nil,i,v,h=>by simp at h
 | z :: zs,_,.cons r t,0,v,h=>by
  obtain ⟨tk,e⟩:=r
  have:v = .str z tk:=by rw [<- e]; simpa using h.symm
  exact ⟨tk,this⟩
 | z :: zs,_,.cons r t,i + 1,v,h=>zK.strs_at t i v (by simpa using h)
theorem zez {X:Cx} (hc:X.calm = true):xk X (.type "set") (fun xs H Q=>∃ (p:Addr) (zs:List Str),xs = [.ref p]/\SqL X.K H p (zs.map V.str)/\zs.length<=900/\∀ (l:Addr) (n:Nat),H l = none->Q (.ref l) (upd H l (wQ X.prog X.w l (fun z=>decide (z ∈ zs)) n))):=by
 intro pins s σ H xs us Q I r h
 obtain ⟨p,zs,rfl,hS,lz,q⟩:=h
 obtain ⟨u,rfl,ru⟩:=wO r
 cases ru
 obtain ⟨its,rv,hp,hz⟩:=I.list hS
 have hl:its.length = zs.length:=by rw [<- rv.length,List.length_map]
 have hb:its.toArray.size + 1 < scanBound:=by
  rw [List.size_toArray,hl]
  have : 1000 < scanBound:=by unfold scanBound; decide
  omega
 refine zcQ (I.ok.hd hc) hp.isList (fun i v e=>rv.strs_at i v (by simpa using e)) hb fun h' tk c hS' hk=>?_
 have hsz:its.toArray.size = zs.length:=by rw [List.size_toArray,hl]
 rw [hsz] at hS'
 have eS:seen (fun i=>zs.getD i "") (fun _=>false) 0 zs.length = fun z=>decide (z ∈ zs):=funext (zeO zs)
 rw [eS] at hS'
 refine ⟨.ref s.heap.objs.size,_,I.laid (t':=tk) (fun b ob e=>hk b ob (Heap.lt_size e) e) (Nat.le_refl _) (zaG hS'),rfl,q _ c (I.hok.fresh (Nat.le_refl _))⟩
end L2
namespace K25
open PySem L2 PyProof.Rows
theorem zcN:∀ (rows:List Rw) (i:Nat) (acc:List (Key × V)) (k:Key) (v:V),(∀ k v,zL acc k = some v->∃ j:Nat,v = .int (j:Nat))->zL (yl i acc rows) k = some v->∃ j:Nat,v = .int (j:Nat)
 | [],_,acc,k,v,h,e=>h k v e
 | r :: rs,i,acc,k,v,h,e=>by
  refine zcN rs (i + 1) _ k v (fun k v e=>?_) e
  split at e
  ·rw [za8] at e
   split at e
   ·exact ⟨i,(Option.some.inj e).symm⟩
   ·exact h k v e
  ·exact h k v e
theorem zdI {rows:List Rw} {bars:List Str} {many:Nat} {fp:List (Str × Nat)} {i:Nat} {p:Str × Nat} (h:fp[i]? = some p):uH rows bars many (fp.take (i + 1)) = uH rows bars many (fp.take i) ++ (match yd rows bars many p.1 with | some wd=>[(wd,p.2)] | none=>[]):=by
 unfold uH
 rw [List.take_add_one,h,List.filterMap_append]
 congr 1
 show List.filterMap _ [p] = _
 rw [List.filterMap_cons,List.filterMap_nil]
 cases yd rows bars many p.1 <;> rfl
theorem zba (rows:List Rw) (bars:List Str) (many:Nat) (fp:List (Str × Nat)):(uH rows bars many fp).length<=fp.length:=List.length_filterMap_le _ _
section
variable {P:Program} {w:World} {K:Frag} {mg:Str->Option Value} {base:Heap} {f CF:Addr} {fd:FuncData} {c:C5} {m:MA}
theorem qC:zu ["form","many","firsts","barred","found","name","number","leads_to"] ["form","many","firsts"] (ze zdQ):=⟨rfl,rfl,rfl,by decide +kernel,rfl,by decide +kernel,by decide +kernel⟩
theorem zii {gB gN gG gP:Addr} {eB eN eG eP:FuncData} (F:Fun K "unwelcomes" "unwelcomes" zdQ f fd) (hset:mg "set" = none) (FK:FC K CF) (mB:y6 K CF "bars" gB) (GB:zC P w K mg base CX0 1 gB eB ["self"] (zcf c CF)) (bB:zS K eB ["self"] []) (mN:y6 K CF "number_of" gN) (GN:zC P w K mg base CX0 1 gN eN ["self","name"] (zc2 c CF)) (bN:zS K eN ["self","name"] [])
  (mG:y6 K CF "bag" gG) (GG:zC P w K mg base CX0 1 gG eG ["self"] (wU c CF 4)) (bG:zS K eG ["self"] []) (mP:y6 K CF "places" gP) (GP:zC P w K mg base CX0 1 gP eP ["self"] (wV c CF)) (bP:zS K eP ["self"] []) :
  zC P w K mg base CX0 2 f fd ["form","many","firsts"] (zeI c CF):=by
 refine F.ok qC (fun vs H Q E h=>?_) (fun cdv A outer s H vs Q E hr h=>?_)
 ·obtain ⟨f,d,o,many,rows,bars,fp,rfl,_⟩:=h
  rfl
 obtain ⟨f,d,o,many,rows,bars,fp,rfl,l5,lb5,lfp,hF,hd,q⟩:=h
 refine ⟨_,zd (zv (i:=3) qC.nd rfl (Or.inl rfl) (cTy (zez rfl) hset PyProof.Rows.boot_set (ac (yF (pv 0) FK.cl mB GB hr bB .nil y7) zb)))
  (zd (zv (i:=4) qC.nd rfl (Or.inl rfl) (zM zb))
  (zd (yE PassesOwn.never rfl (zbp (pv 2)) (yc rfl (zt (zk (i:=5) qC.nd rfl (Or.inl rfl)) (zt (zk (i:=6) qC.nd rfl (Or.inl rfl)) zV)))
   (zd (zv (i:=7) qC.nd rfl (Or.inl rfl) (zaN (pv 0) FK.cl mN GN hr bN .nil y7 (ac (pv 5) zb)))
   (zh (zJ (zo jT (pv 5) (pv 3) (by with_unfolding_all rfl)) (zh (zE (yz PySem.F.plainAttrs_list PySem.F.slot_list_append PySem.F.type_list_append zG (pv 4) (ac (zH (ac zq (ac (pv 6) zb))) zb))))
    (zh (zJ (vR (zaO (pv 7))) (zh (zJ (vR (zaO (yF (pv 0) FK.cl mG GG hr bG .nil y7))) (zh (zE (yz PySem.F.plainAttrs_list PySem.F.slot_list_append PySem.F.type_list_append zG (pv 4) (ac (zH (ac zq (ac (pv 6) zb))) zb)))) zA))
     (zh (zJ (PW.pt (xw (zo jk (pv 7) (yF (pv 0) FK.cl mP GP hr bP .nil y7) (zx _)) (yZ (zo jk (pv 7) (pv 1) (zx _))))) (zh (zE (yz PySem.F.plainAttrs_list PySem.F.slot_list_append PySem.F.type_list_append zG (pv 4) (ac (zH (ac zq (ac (pv 6) zb))) zb)))) zA))))))))
  (zh (zw (pv 4))))),?_⟩
 obtain ⟨dx,fs,lr,lb,ld,ps0,h1,h2,h3,h4,h5,h6⟩:=id hF
 have nmB:fs.lookup ("bars" : Str) = none:=h2.no _ (by decide +kernel)
 have nmN:fs.lookup ("number_of" : Str) = none:=h2.no _ (by decide +kernel)
 have nmG:fs.lookup ("bag" : Str) = none:=h2.no _ (by decide +kernel)
 have nmP:fs.lookup ("places" : Str) = none:=h2.no _ (by decide +kernel)
 refine ⟨_,rfl,f,dx,fs,rfl,h1,nmB,f,rows,bars,rfl,hF,fun lb1 H1 s1 nb eb=>?_⟩
 refine ⟨lb1,bars,rfl,SqL.of eb,by omega,fun sS nS hS=>?_⟩
 have u2:=zc hS (wQ P w sS (fun z=>decide (z ∈ bars)) nS)
 have e2:upd H1 sS (wQ P w sS (fun z=>decide (z ∈ bars)) nS) sS = some (wQ P w sS (fun z=>decide (z ∈ bars)) nS):=za
 show xY _ _ _ _ (upd H1 sS (wQ P w sS (fun z=>decide (z ∈ bars)) nS))
 generalize upd H1 sS (wQ P w sS (fun z=>decide (z ∈ bars)) nS) = H2 at u2 e2 |-
 refine ⟨zz0,fun l hl=>?_⟩
 have u3:=zc hl (.lst [])
 have e3:upd H2 l (.lst []) l = some (.lst []):=za
 show xY _ _ _ _ (upd H2 l (.lst []))
 generalize upd H2 l (.lst []) = H3 at u3 e3 |-
 have s2:=s1.trans u2
 have s3:=s2.trans u3
 have hlH:H l = none:=s2.free hl
 have nl:∀ {b:Addr} {u:HO},H2 b = some u->b ≠ l:=fun e=>zf e hl
 have sHl:∀ {H':Hp},(∀ b u,H2 b = some u->H' b = some u)->zm H H':=fun k b u e=>k b u (s2 _ _ e)
 refine ⟨_,rfl,d,o,kvP fp,rfl,s3 _ _ hd,zev (d:=d) (o:=o) (kvs:=kvP fp) (fun i σ H'=>∃ (us:List Addr) (v5 v6 v7:Option V),σ = [some (.ref f),some (.int (many:Nat)),some (.ref d),some (.ref sS),some (.ref l),v5,v6,v7]/\(∀ b u,H2 b = some u->H' b = some u)/\H' l = some (.lst (us.map V.ref))/\xG H' us (uH rows bars many (fp.take i)))
  ⟨[],_,_,_,rfl,fun _ _ e=>u3 _ _ e,e3,.nil⟩ (fun i σ H' _ ⟨_,_,_,_,_,sH,_⟩=>sH _ _ (s2 _ _ hd)) ?_ ?_⟩
 ·rintro i k v p σ H' hk ⟨us,v5,v6,v7,rfl,sH,hl',hm⟩ hpn
  obtain ⟨z,n,hz,rfl,rfl⟩:∃ (z:Str) (n:Nat),fp[i]? = some (z,n)/\k = .inr z/\v = .int (n:Nat):=by
   unfold kvP at hk
   rw [List.getElem?_map] at hk
   cases e:fp[i]? with
   | none=>rw [e] at hk; cases hk
   | some q=>rw [e] at hk; cases hk; exact ⟨q.1,q.2,rfl,rfl,rfl⟩
  have tk:=zdI (rows:=rows) (bars:=bars) (many:=many) hz
  dsimp only at tk
  have sp:=zc hpn (.tup [kV (.inr z),.int (n:Nat)])
  have lu:us.length<=i:=by
   rw [hm.length]
   refine Nat.le_trans (zba _ _ _ _) ?_
   rw [List.length_take]
   omega
  have hi:i < fp.length:=(List.getElem?_eq_some_iff.mp hz).1
  have sH1:∀ b u,H2 b = some u->upd H' p (.tup [kV (.inr z),.int (n:Nat)]) b = some u:=fun b u e=>sp _ _ (sH b u e)
  have hl1:=sp _ _ hl'
  have hm1:=hm.same sp
  refine ⟨p,_,rfl,SqT.of za,rfl,_,_,rfl,_,_,rfl,rfl,?_⟩
  generalize upd H' p (.tup [kV (.inr z),.int (n:Nat)]) = H4 at sH1 hl1 hm1 |-
  have s4:=sHl sH1
  refine ⟨_,rfl,f,dx,fs,rfl,s4 _ _ h1,nmN,_,rfl,f,z,rows,bars,rfl,hF.same s4,?_⟩
  refine ⟨_,rfl,_,rfl,sS,_,_,z,rfl,rfl,sH1 _ _ e2,_,rfl,?_⟩
  by_cases hz1:z ∈ bars
  ·refine dT hz1 ?_
   rw [show yd rows bars many z = some "barred" from if_pos hz1] at tk
   refine ⟨_,rfl,.inl ⟨rfl,_,SqL.of hl1⟩,_,rfl,zz2,fun t ht=>?_⟩
   have s6:=zc ht (.tup [.str "barred",.int (n:Nat)])
   have hl6:=s6 _ _ hl1
   have hu2:MA1 (upd H4 t (.tup [.str "barred",.int (n:Nat)])) t ("barred",n):=by
    show upd H4 t _ t = _
    rw [za]
   refine ⟨l,_,.ref t,rfl,rfl,hl6,zz (by rw [List.length_map]; omega),?_⟩
   refine ⟨us ++ [t],_,_,_,rfl,fun b u e=>?_,by rw [za,List.map_append]; rfl,?_⟩
   ·rw [zi (nl e)]
    exact s6 _ _ (sH1 b u e)
   ·rw [tk]
    exact ((hm1.same s6).snoc hu2).upd hl6
  ·refine dF hz1 ?_
   have e0:yd rows bars many z = (match yd.lastD' z rows with | none=>if (zy 4 0 rows).isSome = true then none else some "strange" | some l=>if l < plN rows/\l < many then some "again" else none):=if_neg hz1
   cases ev:zL (yl 0 [] rows) (.inr z) with
   | none=>
    have e1:yd.lastD' z rows = none:=by unfold yd.lastD'; rw [ev]
    rw [e1] at e0
    refine ⟨_,rfl,_,rfl,?_⟩
    refine dT rfl ?_
    refine ⟨_,rfl,f,dx,fs,rfl,s4 _ _ h1,nmG,f,rows,bars,rfl,hF.same s4,_,rfl,?_⟩
    cases eg:zy 4 0 rows with
    | none=>
     have e2':yd rows bars many z = some "strange":=by rw [e0,eg]; rfl
     refine dT rfl ?_
     rw [show yd rows bars many z = some "strange" from e2'] at tk
     refine ⟨_,rfl,.inl ⟨rfl,_,SqL.of hl1⟩,_,rfl,zz2,fun t ht=>?_⟩
     have s6:=zc ht (.tup [.str "strange",.int (n:Nat)])
     have hl6:=s6 _ _ hl1
     have hu2:MA1 (upd H4 t (.tup [.str "strange",.int (n:Nat)])) t ("strange",n):=by
      show upd H4 t _ t = _
      rw [za]
     refine ⟨l,_,.ref t,rfl,rfl,hl6,zz (by rw [List.length_map]; omega),?_⟩
     refine ⟨us ++ [t],_,_,_,rfl,fun b u e=>?_,by rw [za,List.map_append]; rfl,?_⟩
     ·rw [zi (nl e)]
      exact s6 _ _ (sH1 b u e)
     ·rw [tk]
      exact ((hm1.same s6).snoc hu2).upd hl6
    | some j=>
     have e2':yd rows bars many z = none:=by rw [e0,eg]; rfl
     refine dF (by intro z; cases z) ?_
     rw [show yd rows bars many z = none from e2',List.append_nil] at tk
     exact ⟨us,_,_,_,rfl,sH1,hl1,by rw [tk]; exact hm1⟩
   | some v=>
    obtain ⟨j,rfl⟩:=zcN rows 0 [] (.inr z) v (fun k v e=>by cases e) ev
    have e1:yd.lastD' z rows = some j:=by unfold yd.lastD'; rw [ev]; rfl
    rw [e1] at e0
    refine ⟨_,rfl,_,rfl,?_⟩
    refine dF (by intro z; cases z) ?_
    refine ⟨_,rfl,_,rfl,f,dx,fs,rfl,s4 _ _ h1,nmP,f,rows,bars,rfl,hF.same s4,_,_,rfl,rfl,_,rfl,?_⟩
    by_cases hj1:j < plN rows
    ·refine qv (decide_eq_true (by show (j:Int) < (plN rows:Int); omega)) ?_
     refine ⟨_,rfl,_,rfl,_,_,rfl,rfl,_,rfl,?_⟩
     by_cases hj2:j < many
     ·have e2':yd rows bars many z = some "again":=by rw [e0]; exact if_pos ⟨hj1,hj2⟩
      refine qv (decide_eq_true (by show (j:Int) < (many:Int); omega)) ?_
      rw [show yd rows bars many z = some "again" from e2'] at tk
      refine ⟨_,rfl,.inl ⟨rfl,_,SqL.of hl1⟩,_,rfl,zz2,fun t ht=>?_⟩
      have s6:=zc ht (.tup [.str "again",.int (n:Nat)])
      have hl6:=s6 _ _ hl1
      have hu2:MA1 (upd H4 t (.tup [.str "again",.int (n:Nat)])) t ("again",n):=by
       show upd H4 t _ t = _
       rw [za]
      refine ⟨l,_,.ref t,rfl,rfl,hl6,zz (by rw [List.length_map]; omega),?_⟩
      refine ⟨us ++ [t],_,_,_,rfl,fun b u e=>?_,by rw [za,List.map_append]; rfl,?_⟩
      ·rw [zi (nl e)]
       exact s6 _ _ (sH1 b u e)
      ·rw [tk]
       exact ((hm1.same s6).snoc hu2).upd hl6
     ·have e2':yd rows bars many z = none:=by rw [e0]; exact if_neg fun h=>hj2 h.2
      refine j9 (decide_eq_false (by show ¬ (j:Int) < (many:Int); omega)) ?_
      rw [show yd rows bars many z = none from e2',List.append_nil] at tk
      exact ⟨us,_,_,_,rfl,sH1,hl1,by rw [tk]; exact hm1⟩
    ·have e2':yd rows bars many z = none:=by rw [e0]; exact if_neg fun h=>hj1 h.1
     refine j9 (decide_eq_false (by show ¬ (j:Int) < (plN rows:Int); omega)) ?_
     refine y9 ?_
     rw [show yd rows bars many z = none from e2',List.append_nil] at tk
     exact ⟨us,_,_,_,rfl,sH1,hl1,by rw [tk]; exact hm1⟩
 ·rintro σ H' ⟨us,v5,v6,v7,rfl,sH,hl',hm⟩
  have lk:(kvP fp).length = fp.length:=by unfold kvP; rw [List.length_map]
  rw [lk,List.take_length] at hm
  exact ⟨_,rfl,q l H' (sHl sH) ⟨us,hlH,hl',hm⟩⟩
end
def wB (rows:List Rw) (bars:List Str) (c:List yt):List (Str × Nat):=zR rows bars (yb c).length (zP c)
structure vn (K:Frag) (H:Hp) (a:Addr) (ct:List yt):Prop where
 at_:∃ xs,SqL K H a xs/\Paired (zF K T' H 3) xs (ct.map xD)
 lt:(yb ct).length<=900
 lp:(yq ct).length<=900
structure vm (c:C5) (CF:Addr) (H:Hp) (f:Addr) (rows:List Rw) (bars:List Str):Prop where
 at_:xg c CF H f rows bars
 lr:rows.length<=500
 lb:bars.length<=500
 ok:∀ r ∈ rows,r.ok
theorem vm.same {c:C5} {CF:Addr} {H H':Hp} {f:Addr} {rows:List Rw} {bars:List Str} (h:vm c CF H f rows bars) (s:zm H H'):vm c CF H' f rows bars:=⟨h.at_.same s,h.lr,h.lb,h.ok⟩
theorem vn.same {K:Frag} {H H':Hp} {a:Addr} {ct:List yt} (h:vn K H a ct) (s:zm H H'):vn K H' a ct:=by
 obtain ⟨⟨xs,h1,h2⟩,l1,l2⟩:=h
 exact ⟨⟨xs,s.seq h1,Paired.imp' (fun _ _ z=>z.same s) h2⟩,l1,l2⟩
def zbf (K:Frag) (c:C5) (CF:Addr):Sp:=fun vs H Q _=>∃ (f a:Addr) (rows:List Rw) (bars:List Str) (ct:List yt),vs = [.ref f,.ref a]/\vm c CF H f rows bars/\vn K H a ct/\∀ (l:Addr) (H':Hp),zm H H'->zb3 H H' l (wB rows bars ct)->Q (.ref l) H'
def zce (K:Frag) (c:C5) (CF:Addr):Sp:=fun vs H Q _=>∃ (f a:Addr) (rows:List Rw) (bars:List Str) (ct:List yt),vs = [.ref f,.ref a]/\vm c CF H f rows bars/\vn K H a ct/\∀ (H':Hp),zm H H'->Q (.bl (wB rows bars ct).isEmpty) H'
section
variable {P:Program} {w:World} {K:Frag} {mg:Str->Option Value} {base:Heap} {f CF:Addr} {fd:FuncData} {c:C5} {m:MA}
theorem zeQ:zu ["form","call","many","names"] ["form","call"] (ze wq):=⟨rfl,rfl,rfl,by decide +kernel,rfl,by decide +kernel,by decide +kernel⟩
theorem zim {g1 g2:Addr} {d1 d2:FuncData} (F:Fun K "misfits" "misfits" wq f fd) (c1:zl P w K mg base 2 "shape" g1 d1 ["call"] (jt K)) (c2:zl P w K mg base 4 "misfits_of" g2 d2 ["form","many","names"] (zc3 c CF)):zC P w K mg base CX0 5 f fd ["form","call"] (zbf K c CF):=by
 refine F.ok zeQ (fun vs H Q E h=>?_) (fun cdv A outer s H vs Q E hr h=>?_)
 ·obtain ⟨f,a,rows,bars,ct,rfl,_⟩:=h
  rfl
 obtain ⟨f,a,rows,bars,ct,rfl,hF,⟨⟨xs,hx,hc⟩,lt,lp⟩,q⟩:=h
 have hr2:ya 2 _:=hr.mono (by decide)
 refine ⟨_,zd (wg (cF c1 hr2 (ac (pv 1) zb)) (yc rfl (zt (zk (i:=2) zeQ.nd rfl (Or.inl rfl)) (zt (zk (i:=3) zeQ.nd rfl (Or.inl rfl)) zV))))
  (zh (zw (cF c2 hr (ac (pv 0) (ac (pv 2) (ac (pv 3) zb)))))),?_⟩
 refine ⟨_,rfl,a,ct,xs,rfl,hx,hc,lt,lp,fun p l H1 s1 nl ep el=>?_⟩
 refine ⟨p,_,rfl,SqT.of ep,rfl,_,_,rfl,_,_,rfl,rfl,?_⟩
 have hF1:=hF.same s1
 have ln:(zP ct).length<=900:=by unfold zP; rw [List.length_map]; exact lp
 exact ⟨_,rfl,_,rfl,_,rfl,f,l,(yb ct).length,rows,bars,zP ct,rfl,hF.lr,hF.lb,lt,ln,hF.ok,hF1.at_,el,fun l2 H2 s2 ⟨us,n2,e2,m2⟩=>q l2 H2 (s1.trans s2) ⟨us,s1.free n2,e2,m2⟩⟩
theorem zhZ:zu ["form","call"] ["form","call"] (ze qP):=⟨rfl,rfl,rfl,by decide +kernel,rfl,by decide +kernel,by decide +kernel⟩
theorem zg2 {g1:Addr} {d1:FuncData} (F:Fun K "fits" "fits" qP f fd) (c1:zl P w K mg base 5 "misfits" g1 d1 ["form","call"] (zbf K c CF)):zC P w K mg base CX0 6 f fd ["form","call"] (zce K c CF):=by
 refine F.ok zhZ (fun vs H Q E h=>?_) (fun cdv A outer s H vs Q E hr h=>?_)
 ·obtain ⟨f,a,rows,bars,ct,rfl,_⟩:=h
  rfl
 obtain ⟨f,a,rows,bars,ct,rfl,hF,hC,q⟩:=h
 have hU:=hr.units
 have hU0:=hr.units0
 refine ⟨_,zh (zw (xb (OpR.or (jU hU) (zbw hU0)) (cF c1 hr (ac (pv 0) (ac (pv 1) zb))) (zM zb) (zx _))),?_⟩
 refine ⟨_,rfl,_,rfl,f,a,rows,bars,ct,rfl,hF,hC,fun l H1 s1 ⟨us,nl,el,ml⟩=>?_⟩
 refine ⟨zz0,fun l2 hl2=>?_⟩
 have s2:=zc hl2 (.lst [])
 have lu:=ml.length
 cases e:wB rows bars ct with
 | nil=>
  rw [e] at ml
  cases ml
  refine .inl ⟨l,l2,0,.lst [],fun _=>True,fun _=>True,rfl,rfl,by decide,zF.lst True.intro (s2 _ _ el) .nil,zF.lst True.intro za .nil,?_⟩
  have:=q _ (s1.trans s2)
  rw [e] at this
  exact this
 | cons x xs=>
  refine .inr ⟨l,l2,_,_,rfl,rfl,s2 _ _ el,za,(by rw [List.length_map,lu,e]; exact Nat.succ_ne_zero _),?_⟩
  have:=q _ (s1.trans s2)
  rw [e] at this
  exact this
end
end K25
namespace L2
open PySem PySem.Spec PyProof.Rows
section
variable {X:Cx}
end
def wM (n:Nat):List Int:=(List.range n).map fun (i:Nat)=>(i:Int)
theorem zK.of_at {ts:List Int}:∀ {us:List Value},us.length = ts.length->(∀ (i:Nat) (v:Value),us[i]? = some v->∃ t,v = Value.int (ts.getD i 0) t)->zK (ts.map V.int) us:=by
 induction ts with
 | nil=>
  intro us hl _
  have:us = []:=List.length_eq_zero_iff.mp hl
  subst this
  exact .nil
 | cons t ts ih=>
  intro us hl h
  cases us with
  | nil=>cases hl
  | cons u us=>
   obtain ⟨k,e⟩:=h 0 u rfl
   exact .cons ⟨k,e⟩ (ih (by simpa using hl) fun i v e=>h (i + 1) v e)
section
variable {X:Cx}
theorem zbZ:xk X (.type "range") (fun xs H Q=>∃ n:Nat,xs = [.int (n:Nat)]/\∀ p,H p = none->Q (.ref p) (upd H p (.rng 0 (n:Nat)))):=by
 intro pins s σ H xs us Q I r h
 obtain ⟨n,rfl,q⟩:=h
 obtain ⟨u,rfl,ru⟩:=wO r
 obtain ⟨t,rfl⟩:=ru
 refine call_range_1 ?_
 refine ⟨.ref s.heap.objs.size,_,I.laid (o:=.rng 0 (n:Nat)) (fun b u e=>Heap.get?_push_of_some _ e) (Nat.le_refl _) ?_,rfl,q _ (I.hok.fresh (Nat.le_refl _))⟩
 exact ⟨_,_,_,Heap.get?_push_size _ rfl⟩
theorem ql (hc:X.calm = true):xk X (.type "list") (fun xs H Q=>∃ (p:Addr) (n:Nat),xs = [.ref p]/\H p = some (.rng 0 (n:Nat))/\n<=900/\∀ l,H l = none->Q (.ref l) (upd H l (.lst ((wM n).map V.int)))):=by
 intro pins s σ H xs us Q I r h
 obtain ⟨p,n,rfl,hp,hn,q⟩:=h
 obtain ⟨u,rfl,ru⟩:=wO r
 cases ru
 obtain ⟨t,u',v',e⟩:=I.hok p _ hp
 refine call_list_range (n:=n) (I.ok.hd hc) e ?_ ?_ (by omega) fun h' tk acc c' hk he hacc=>?_
 ·exact small_one (by omega) (by omega) (by omega) (by omega)
 ·unfold Builtin.Range.rangeSize
  rw [if_pos (by decide)]
  split <;> omega
 ·have hl:acc.toList.length = (wM n).length:=by
   unfold wM
   rw [List.length_map,List.length_range]
   simpa using hacc.1
  have hv:zK ((wM n).map V.int) acc.toList:=zK.of_at hl fun i v e=>by
   obtain ⟨t,rfl⟩:=hacc.2 i v (by simpa using e)
   refine ⟨t,?_⟩
   have hi:i < n:=by
    have:=(List.getElem?_eq_some_iff.mp e).1
    rw [hl] at this
    unfold wM at this
    simpa using this
   have eg:(wM n).getD i 0 = (i:Int):=by
    unfold wM
    rw [List.getD_eq_getElem?_getD,List.getElem?_map,List.getElem?_range hi]
    rfl
   rw [eg]
   simp
  refine ⟨.ref s.heap.objs.size,_,I.laid (t':=tk) (o:=.lst ((wM n).map V.int)) hk (Nat.le_refl _) ⟨?_,acc.toList,c',hv,by simpa using he⟩,rfl,q _ (I.hok.fresh (Nat.le_refl _))⟩
  unfold wM
  rw [List.length_map,List.length_map,List.length_range]
  have : 1000<=sizeLine:=by decide
  omega
end
end L2
namespace L2
open PySem PySem.W PySem.Builtin PySem.Builtin.ObjectAttr PySem.Spec PyProof.Rows
section
variable {prog:Program} {w:World} {A:Around} {E:Value->Shared->Prop} {s:Shared} {K:Frag} {C f:Addr} {us:List Value}
end
section
variable {prog:Program} {w:World} {A:Around} {E:Value->Shared->Prop} {s:Shared} {K:Frag} {C x:Addr} {us:List Value}
end
end L2
namespace L2
open PySem PySem.W PySem.Builtin PySem.Builtin.ObjectAttr PySem.Builtin.Getset_descriptor PySem.Spec PyProof.Rows
section
variable {prog:Program} {w:World} {A:Around} {E:Value->Shared->Prop} {s:Shared} {K:Frag} {C D x dx:Addr} {us:List Value}
end
end L2
namespace L2
open PySem PySem.Spec PyProof.Rows
section
variable {X:Cx} {pins:List (Addr × Obj)} {σ : St} {H:Hp} {s:Shared} {x C t:Addr} {f:Str} {y:V} {u:Value} {A:Around} {E:Value->Shared->Prop}
end
section
variable {X:Cx} {o e value:Expr} {f:Str} {pos pos' tpos:Pos} {ta tv:TE}
end
section
variable {X:Cx} {CX:CXT} {k:Nat} {f C:Addr} {fd:FuncData} {ps:List Str} {sp:Sp} {E:XK} {x:Str} {p pos:Pos} {e:Expr} {es:List Expr} {t:TA}
end
def drop (H:Hp) (a:Addr):Hp:=fun b=>if b = a then none else H b
section
variable {X:Cx} {pins:List (Addr × Obj)} {σ : St} {H:Hp} {s:Shared} {ea C t:Addr} {od:Option Addr} {M:Model} {E:Value->Shared->Prop}
end
section
variable {X:Cx} {E:XK} {pos:Pos} {e:Expr} {te:TE}
end
section
variable {P:Program} {w:World} {K:Frag} {mg:Str->Option Value} {base:Heap} {N:List Str} {qual:Str} {scope:Scope} {f:Addr} {cd:Value} {A:Around} {outer:List Env} {s:Shared} {H:Hp} {E E':XK}
end
section
variable {X:Cx} {x:Str} {C:Addr} {B Bn newId nid initId inN:String} {bm bmN:List Value} {np pos:Pos} {e:Expr} {es:List Expr} {t:TA}
end
section
variable {X:Cx} {pins:List (Addr × Obj)} {σ : St} {H:Hp} {s:Shared} {M:Model} {A:Around} {E:Value->Shared->Prop} {i:Nat} {n:Str} {pos:Pos}
end
section
variable {X:Cx} {pins:List (Addr × Obj)} {σ : St} {H:Hp} {s:Shared} {ea:Addr}
variable {st b₀:Stmt} {suite:List Stmt} {c n:Str} {np hpos pos:Pos} {C:Addr} {i:Nat} {tb:XK->TS} {ts:TS} {ok:Value->Prop}
end
section
variable {X:Cx} {pins:List (Addr × Obj)} {σ : St} {e:Expr} {es:List Expr} {t:TA} {E:XK} {x:Str} {p pos:Pos} {k:Nat} {f C:Addr} {fd:FuncData} {ps:List Str} {sp:Sp} {dvs:List V} {ds:List Value}
end
section
variable {M:Model} {A:Around} {E:Value->Shared->Prop} {s:Shared} {base:Heap} {env:Env} {outer:List Env} {L e C t:Addr} {od:Option Addr} {tb0 head:Value} {hn:Bool} {Q:Unit->Shared->Prop}
end
section
variable {X:Cx} {pins:List (Addr × Obj)} {σ : St} {H H':Hp} {s s':Shared} {ea C t:Addr} {od:Option Addr} {M:Model} {E:Value->Shared->Prop}
end
section
variable {X:Cx} {pins:List (Addr × Obj)} {σ : St} {H H':Hp} {s s':Shared} {ea C t:Addr} {od:Option Addr} {M:Model} {A:Around} {E:Value->Shared->Prop} {h5:Heap}
end
section
variable {X:Cx} {E:XK} {pos:Pos} {e:Expr} {te:TE}
end
section
variable {P:Program} {w:World} {K:Frag} {mg:Str->Option Value} {base:Heap} {N:List Str} {qual:Str} {scope:Scope} {f:Addr} {cd:Value} {A:Around} {outer:List Env} {s:Shared} {H:Hp} {E E':XK}
end
section
variable {X:Cx} {k:Nat} {f:Addr} {fd:FuncData} {ps:List Str} {sp:Sp} {E:XK} {x:Str} {p pos:Pos} {e:Expr} {es:List Expr} {t:TA}
end
section
variable {X:Cx} {hs:List ExceptHandler} {th:HK} {c n:Str} {C':Addr} {i:Nat} {ts:TS} {b₀:Stmt} {suite:List Stmt} {np hpos:Pos}
end
section
variable {X:Cx} {st:Stmt} {h₀:ExceptHandler} {hs:List ExceptHandler} {pos:Pos} {tb:XK->TS} {th:HK}
end
section
variable {X:Cx} {pins:List (Addr × Obj)} {σ : St} {e:Expr} {es:List Expr} {te:TE} {t:TA} {E:XK} {x m:Str} {p pos apos:Pos} {k:Nat} {f C:Addr} {fd:FuncData} {ps:List Str} {sp:Sp} {dvs:List V} {ds:List Value}
end
section
variable {X:Cx} {pins:List (Addr × Obj)} {σ : St} {H:Hp} {s:Shared} {x C t:Addr} {f:Str} {A:Around} {E:Value->Shared->Prop}
end
section
variable {X:Cx} {e:Expr} {f:Str} {pos:Pos} {ta:TE}
end
end L2
namespace L2
open PySem PySem.Spec PyProof.Rows PySem.Builtin
section
variable {prog:Program} {w:World} {A:Around} {E:Value->Shared->Prop} {s:Shared} {it ea C t:Addr} {od:Option Addr} {tb:Value} {x left step:Int} {Q:Option Value->Shared->Prop}
end
end L2
namespace L2
open PySem PySem.Spec PyProof.Rows
structure zjK (ea:Addr) (P:Program) (w:World) (K:Frag) (tg:Expr) (J:It) (fp:List Addr) (it:Addr) (tn:Nat->Heap->Prop):Prop where
 mem:it ∈ fp
 obj:∀ i h,tn i h->∀ b ∈ fp,∃ o,h.get? b = some o/\∀ v,o.data ≠ .cell v
 keep:∀ i h h',tn i h->(∀ b ∈ fp,∀ o,h.get? b = some o->h'.get? b = some o)->tn i h'
 item:∀ (X:Cx),X.prog = P->X.w = w->X.K = K->X.A.handled = some (.ref ea)->∀ (i:Nat) (pins:List (Addr × Obj)) (s:Shared) (σ : St) (H:Hp) (E:Value->Shared->Prop),Inv X pins σ H s->(∀ b ∈ fp,vk X pins H b)->tn i s.heap->J.go i H->
  wpAny (model P w) X.A (pyNext (.ref it)) (fun r s1=>∃ u,r = some u/\
   wpAny (model P w) X.A (letOwnedTupleGo tg (.ref it) u) (fun _ s2=>∃ x H',Inv X pins σ H' s2/\zO x u/\J.yld i H x H'/\tn (i + 1) s2.heap/\∀ b ∈ fp,H' b = none) E s1) E s
 done:∀ (X:Cx),X.prog = P->X.w = w->X.K = K->X.A.handled = some (.ref ea)->∀ (i:Nat) (pins:List (Addr × Obj)) (s:Shared) (σ : St) (H:Hp) (E:Value->Shared->Prop),Inv X pins σ H s->(∀ b ∈ fp,vk X pins H b)->tn i s.heap->J.stop i H->
  wpAny (model P w) X.A (pyNext (.ref it)) (fun r s1=>r = none/\Inv X pins σ H s1) E s
 self:∀ (A:Around) (i:Nat) (s:Shared) (Q:Value->Shared->Prop) (E:Value->Shared->Prop),tn i s.heap->Q (.ref it) s->wpAny (model P w) A (pyIter (.ref it)) Q E s
def zkC (X:Cx) (ea:Addr) (pins:List (Addr × Obj)) (σ : St) (tg:Expr) (R:It->Hp->Prop) (itv:Value) (s2:Shared):Prop:=
 ∃ (it:Addr) (fp:List Addr) (tn:Nat->Heap->Prop) (J:It) (H':Hp),itv = .ref it/\Inv X pins σ H' s2/\zjK ea X.prog X.w X.K tg J fp it tn/\tn 0 s2.heap/\(∀ b ∈ fp,vk X pins H' b)/\R J H'
section
variable {X:Cx} {tg:Expr}
end
section
variable {X:Cx} {pins:List (Addr × Obj)} {σ : St} {s:Shared} {sc:Scope} {fr Nc:List Str} {caps:List (Option Nat)} {elt tg iter:Expr} {ifs:List Expr} {g:TG} {tt:TT} {te:TE} {ow:List Nat} {pos pos2:Pos} {E:Value->Shared->Prop}
end
section
variable {X:Cx} {hs:List ExceptHandler} {th:HK} {c n:Str} {C':Addr} {i:Nat} {ts:TS} {b₀:Stmt} {suite:List Stmt} {np hpos:Pos}
end
section
variable {X:Cx}
end
end L2
namespace L2
open PySem PySem.Spec PyProof.Rows PySem.Builtin
section
variable {prog:Program} {w:World} {A:Around} {E:Value->Shared->Prop} {s:Shared} {it l ea C t:Addr} {od:Option Addr} {tb:Value} {i:Nat} {items:Array Value} {Q:Option Value->Shared->Prop}
end
section
variable {X:Cx} {tg:Expr}
end
section
variable {X:Cx} {sc:Scope} {elt tg iter:Expr} {ifs:List Expr} {g:TG} {tt:TT} {te:TE} {ow:List Nat} {pos:Pos}
end
theorem zfS {d:Addr} {o:Obj} {kvs:List (Key × V)} {caps:List (Option Nat)} {g:TG} {tt:TT} {te:TE} {σ : St} {H1:Hp} {Q:VK} {D:Addr} (Pv:Nat->List V->Hp->Prop) (h0:Pv 0 [] (upd H1 D (.lst [])))
  (hl:∀ i ys H,Pv i ys H->H d = some (.frz o (.dK kvs)))
  (hs:∀ i k v p ys H,i < kvs.length->kvs[i]? = some (k,v)->Pv i ys H->H p = none->g (.ref p) (yX caps σ) (upd H p (.tup [kV k,v])) fun σ2 H2=>tt σ2 H2 fun ok H3=>(ok = true->te σ2 H3 (lcN kvs.length i D Pv ys))/\(ok = false->lcS kvs.length i Pv ys H3))
  (hd:∀ ys H,Pv kvs.length ys H->Q (.ref D) H):LCr (Itd d o kvs) caps g tt te σ H1 Q D:=by
 refine ⟨fun i m ys H=>m = kvs.length - i/\i<=kvs.length/\Pv i ys H,⟨kvs.length,by simp,Nat.zero_le _,h0⟩,?_⟩
 rintro i m ys H ⟨rfl,hi,p⟩
 have q:=hl i ys H p
 by_cases hlt:i < kvs.length
 ·refine .inr ⟨⟨q,hlt⟩,fun x H' y=>?_⟩
  obtain ⟨pp,k,v,rfl,hp,y2,rfl⟩:=y
  exact hs i k v pp ys H hlt y2 p hp
 ·have e:i = kvs.length:=by omega
  subst e
  exact .inl ⟨⟨q,Nat.le_refl _⟩,hd ys H p⟩
def yW (a n:Nat):List Int:=(List.range n).map fun (i:Nat)=>((a + i:Nat):Int)
section
variable {X:Cx}
theorem zeB:xk X (.type "range") (fun xs H Q=>∃ a b:Nat,xs = [.int (a:Nat),.int (b:Nat)]/\∀ p,H p = none->Q (.ref p) (upd H p (.rng (a:Nat) (b:Nat)))):=by
 intro pins s σ H xs us Q I r h
 obtain ⟨a,b,rfl,q⟩:=h
 obtain ⟨u,v,rfl,ru,rv⟩:=zcW r
 obtain ⟨t,rfl⟩:=ru
 obtain ⟨t',rfl⟩:=rv
 refine call_range_2 ?_
 refine ⟨.ref s.heap.objs.size,_,I.laid (o:=.rng (a:Nat) (b:Nat)) (fun b u e=>Heap.get?_push_of_some _ e) (Nat.le_refl _) ?_,rfl,q _ (I.hok.fresh (Nat.le_refl _))⟩
 exact ⟨_,_,_,Heap.get?_push_size _ rfl⟩
theorem zb0 (hc:X.calm = true):xk X (.type "list") (fun xs H Q=>∃ (p:Addr) (a b:Nat),xs = [.ref p]/\H p = some (.rng (a:Nat) (b:Nat))/\a<=900/\b<=900/\∀ l,H l = none->Q (.ref l) (upd H l (.lst ((yW a (b - a)).map V.int)))):=by
 intro pins s σ H xs us Q I r h
 obtain ⟨p,a,b,rfl,hp,ha,hb,q⟩:=h
 obtain ⟨u,rfl,ru⟩:=wO r
 cases ru
 obtain ⟨t,u',v',e⟩:=I.hok p _ hp
 refine call_list_range (n:=b - a) (I.ok.hd hc) e ?_ ?_ (by omega) fun h' tk acc c' hk he hacc=>?_
 ·exact small_one (by omega) (by omega) (by omega) (by omega)
 ·rw [rangeSize_one]
  split <;> omega
 ·have hl:acc.toList.length = (yW a (b - a)).length:=by
   unfold yW
   rw [List.length_map,List.length_range]
   simpa using hacc.1
  have hv:zK ((yW a (b - a)).map V.int) acc.toList:=zK.of_at hl fun i v e=>by
   obtain ⟨t,rfl⟩:=hacc.2 i v (by simpa using e)
   refine ⟨t,?_⟩
   have hi:i < b - a:=by
    have:=(List.getElem?_eq_some_iff.mp e).1
    rw [hl] at this
    unfold yW at this
    simpa using this
   have eg:(yW a (b - a)).getD i 0 = ((a + i:Nat):Int):=by
    unfold yW
    rw [List.getD_eq_getElem?_getD,List.getElem?_map,List.getElem?_range hi]
    rfl
   rw [eg]
   congr 1
   omega
  refine ⟨.ref s.heap.objs.size,_,I.laid (t':=tk) (o:=.lst ((yW a (b - a)).map V.int)) hk (Nat.le_refl _) ⟨?_,acc.toList,c',hv,by simpa using he⟩,rfl,q _ (I.hok.fresh (Nat.le_refl _))⟩
  unfold yW
  rw [List.length_map,List.length_map,List.length_range]
  have : 1000<=sizeLine:=by decide
  omega
end
end L2
namespace L2
open PySem PySem.Spec PyProof.Rows
section
variable {X:Cx}
end
section
variable {X:Cx} {hs:List ExceptHandler} {th:HK} {c n:Str} {C':Addr} {i:Nat} {ts:TS} {b₀:Stmt} {suite:List Stmt} {np hpos:Pos}
end
section
variable {P:Program} {w:World} {K:Frag} {mg:Str->Option Value} {base:Heap}
end
section
variable {X:Cx} {k:Nat} {f ea:Addr} {fd:FuncData} {ps:List Str} {sp:Addr->Sp} {x:Str} {p pos:Pos} {e:Expr} {es:List Expr} {t:TA}
end
theorem zdM {K:Frag} {H3:Hp} {o:HO} {l b:Addr} {zs:List V} (hl:∃ zs,H3 l = some (.lst zs)) (hz:SqT K H3 b zs):SqT K (upd H3 l o) b zs:=by
 obtain ⟨ws,hl⟩:=hl
 rcases hz with (z | ⟨u,z⟩) | z
 ·refine .inl (.inl ?_)
  rw [zi (fun e=>by subst e; rw [hl] at z; cases z)]
  exact z
 ·refine .inl (.inr ⟨u,?_⟩)
  rw [zi (fun e=>by subst e; rw [hl] at z; cases z)]
  exact z
 ·exact .inr z
theorem xv {K:Frag} {ok ok':Addr->Prop} {H:Hp} {o:HO} {l:Addr} {zs:List V} (hl:H l = some (.lst zs)) (hk:∀ b,ok b->ok' b/\b ≠ l) {n:Nat} {x:V} {d:Dt} (h:zF K ok H n x d):zF K ok' (upd H l o) n x d:=
 h.frame (fun a xs z=>zdM ⟨_,hl⟩ z) fun a xs oa z=>⟨(hk a oa).1,by rw [zi (hk a oa).2]; exact z⟩
theorem zfQ {K:Frag} {lo:Int} {n m:Nat} {caps:List (Option Nat)} {g:TG} {tt:TT} {te:TE} {σ : St} {H1:Hp} {Q:VK} {D:Addr} (dt:Nat->Dt) (hD:H1 D = none) (hn:n<=1000)
  (hs:∀ (i:Nat) (H:Hp) (Qf:VK) (Qs:Hp->Prop),i < n->zm H1 H->(∀ v H',zm H H'->zF K (fun a=>H a = none) H' m v (dt i)->Qf v H')->
   g (.int (lo + i)) (yX caps σ) H fun σ2 H2=>tt σ2 H2 fun ok H3=>(ok = true->te σ2 H3 Qf)/\(ok = false->Qs H3))
  (hd:∀ vs H,zm H1 H->H D = some (.lst vs)->Paired (zF K (fun a=>a ≠ D/\H1 a = none) H m) vs ((List.range n).map dt)->Q (.ref D) H):LCr (Itr lo n) caps g tt te σ H1 Q D:=by
 have sz : 1000<=sizeLine:=by decide
 refine vh (fun i ys H'=>zm H1 H'/\H' D = some (.lst ys)/\Paired (zF K (fun a=>a ≠ D/\H1 a = none) H' m) ys ((List.range i).map dt)) ⟨fun b u e=>by rw [zi (zf e hD)]; exact e,za,.nil⟩ ?_ ?_
 ·rintro i ys H hi ⟨sH,hDy,hp⟩
  refine hs i H _ _ hi sH fun v H' s' hv=>?_
  have ly:ys.length = i:=by rw [hp.length,List.length_map,List.length_range]
  refine lcN.mk hi (by omega) (s' _ _ hDy) (by omega) ⟨fun b u e=>?_,za,?_⟩
  ·rw [zi (zf e hD)]
   exact s' _ _ (sH _ _ e)
  ·rw [List.range_succ,List.map_append]
   refine Paired.snoc (Paired.imp' (fun _ _ z=>xv (s' _ _ hDy) (fun b o=>⟨o,o.1⟩) (z.same s')) hp) (xv (s' _ _ hDy) (fun b o=>?_) hv)
   have nb:b ≠ D:=fun e=>by subst e; rw [o] at hDy; cases hDy
   exact ⟨⟨nb,sH.free o⟩,nb⟩
 ·rintro ys H ⟨sH,hDy,hp⟩
  exact hd ys H sH hDy hp
theorem zfR {K:Frag} {a:Addr} {xs:List V} {m:Nat} {caps:List (Option Nat)} {g:TG} {tt:TT} {te:TE} {σ : St} {H1:Hp} {Q:VK} {D:Addr} (dt:Nat->Dt) (hD:H1 D = none) (ha:SqL K H1 a xs) (hn:xs.length<=1000)
  (hs:∀ (i:Nat) (x:V) (p:Addr) (H:Hp) (Qf:VK) (Qs:Hp->Prop),xs[i]? = some x->H p = none->zm H1 H->(∀ v H',zm H H'->zF K (fun a=>H a = none) H' m v (dt i)->Qf v H')->
   g (.ref p) (yX caps σ) (upd H p (.tup [.int i,x])) fun σ2 H2=>tt σ2 H2 fun ok H3=>(ok = true->te σ2 H3 Qf)/\(ok = false->Qs H3))
  (hd:∀ vs H,zm H1 H->H D = some (.lst vs)->Paired (zF K (fun a=>a ≠ D/\H1 a = none) H m) vs ((List.range xs.length).map dt)->Q (.ref D) H):LCr (Ite K a) caps g tt te σ H1 Q D:=by
 have sz : 1000<=sizeLine:=by decide
 refine zaP (K:=K) (xs:=xs) (fun i ys H'=>zm H1 H'/\H' D = some (.lst ys)/\Paired (zF K (fun a=>a ≠ D/\H1 a = none) H' m) ys ((List.range i).map dt)) ⟨fun b u e=>by rw [zi (zf e hD)]; exact e,za,.nil⟩ (fun i ys H h=>h.1.seq ha) ?_ ?_
 ·rintro i x p ys H hi hx ⟨sH,hDy,hp⟩ hpn
  refine hs i x p H _ _ hx hpn sH fun v H' s' hv=>?_
  have ly:ys.length = i:=by rw [hp.length,List.length_map,List.length_range]
  refine lcN.mk hi (by omega) (s' _ _ hDy) (by omega) ⟨fun b u e=>?_,za,?_⟩
  ·rw [zi (zf e hD)]
   exact s' _ _ (sH _ _ e)
  ·rw [List.range_succ,List.map_append]
   refine Paired.snoc (Paired.imp' (fun _ _ z=>xv (s' _ _ hDy) (fun b o=>⟨o,o.1⟩) (z.same s')) hp) (xv (s' _ _ hDy) (fun b o=>?_) hv)
   have nb:b ≠ D:=fun e=>by subst e; rw [o] at hDy; cases hDy
   exact ⟨⟨nb,sH.free o⟩,nb⟩
 ·rintro ys H ⟨sH,hDy,hp⟩
  exact hd ys H sH hDy hp
end L2
namespace K25
open PySem L2 PyProof.Rows
def ve (rows:List Rw) (p:Str × Nat):Bool:=(zL (yl 0 [] rows) (.inr p.1)).isNone
def xJ (rows:List Rw) (fp:List (Str × Nat)):List Nat:=(fp.filter (ve rows)).map (·.2)
theorem zcr {rows:List Rw} {fp:List (Str × Nat)} {i:Nat} {p:Str × Nat} (h:fp[i]? = some p):xJ rows (fp.take (i + 1)) = xJ rows (fp.take i) ++ (if ve rows p = true then [p.2] else []):=by
 unfold xJ
 rw [List.take_add_one,h,List.filter_append,List.map_append]
 congr 1
 show List.map _ (List.filter _ [p]) = _
 rw [List.filter_cons,List.filter_nil]
 split <;> rfl
theorem zee (rows:List Rw) (fp:List (Str × Nat)):(xJ rows fp).length<=fp.length:=by
 unfold xJ
 rw [List.length_map]
 exact List.length_filter_le _ _
def vD:V->Dt
 | .int n=>.int n
 | .str z=>.str z
 | .bl b=>.bl b
 | _=>.non
def zbR (rows:List Rw) (many:Nat) (fp:List (Str × Nat)) (i:Nat):Dt:=
 if zy 2 0 rows = some i then .tup [.str "places",.lst ((yW (plN rows) (many - plN rows)).map Dt.int)]
 else if zy 4 0 rows = some i then .tup [.str "names",.lst (((xJ rows fp).map fun (j:Nat)=>(j:Int)).map Dt.int)]
 else match rows[i]? with
  | some r=>.tup ((vT r i many (kvP fp)).map vD)
  | none=>.non
theorem zfl {K:Frag} {ok:Addr->Prop} {H:Hp} {r:Rw} {i many:Nat} {fp:List (Str × Nat)} {n:Nat}:Paired (zF K ok H n) (vT r i many (kvP fp)) ((vT r i many (kvP fp)).map vD):=by
 unfold vT
 split
 ·exact .cons .str (.cons .int .nil)
 ·split
  next h=>
   obtain ⟨v,hv⟩:=Option.isSome_iff_exists.mp h.2
   obtain ⟨_,j,_,rfl,_⟩:=jC hv
   rw [hv]
   exact .cons .str (.cons .int .nil)
  ·exact .cons .str .nil
def zaB (K:Frag) (c:C5) (CF:Addr):Sp:=fun vs H Q _=>∃ (f d:Addr) (o:Obj) (i many:Nat) (rows:List Rw) (bars:List Str) (fp:List (Str × Nat)) (r:Rw),vs = [.ref f,.int (i:Nat),.int (many:Nat),.ref d]/\many<=900/\fp.length<=900/\rows.length<=500/\rows[i]? = some r/\r.ok/\xg c CF H f rows bars/\H d = some (.frz o (.dK (kvP fp)))/\∀ (u:Addr) (H':Hp),zm H H'->zF K (fun a=>H a = none) H' 2 (.ref u) (zbR rows many fp i)->Q (.ref u) H'
section
variable {P:Program} {w:World} {K:Frag} {mg:Str->Option Value} {base:Heap} {f CF:Addr} {fd:FuncData} {c:C5} {m:MA}
theorem zjs:([Str.ofString "name",Str.ofString "at",Str.ofString "form"]:List Str).Nodup:=by decide +kernel
theorem zgB:zu ["form","number","many","firsts"] ["form","number","many","firsts"] (ze u0):=⟨rfl,rfl,rfl,by decide +kernel,rfl,by decide +kernel,by decide +kernel⟩
theorem zfD {gT gP gB gN gS g1:Addr} {eT eP eB eN eS e1:FuncData} (F:Fun K "entry" "entry" u0 f fd) (hran:mg "range" = none) (hlst:mg "list" = none) (FK:FC K CF) (mT:y6 K CF "tail" gT) (GT:zC P w K mg base CX0 1 gT eT ["self"] (wU c CF 2)) (bT:zS K eT ["self"] []) (mP:y6 K CF "places" gP) (GP:zC P w K mg base CX0 1 gP eP ["self"] (wV c CF)) (bP:zS K eP ["self"] [])
  (mB:y6 K CF "bag" gB) (GB:zC P w K mg base CX0 1 gB eB ["self"] (wU c CF 4)) (bB:zS K eB ["self"] []) (mN:y6 K CF "number_of" gN) (GN:zC P w K mg base CX0 1 gN eN ["self","name"] (zc2 c CF)) (bN:zS K eN ["self","name"] []) (mS:y6 K CF "parameters" gS) (GS:zC P w K mg base CX0 1 gS eS ["self"] (jL c CF)) (bS:zS K eS ["self"] [])
  (cE1:zl P w K mg base 2 "one_entry" g1 e1 ["parameter","number","many","firsts"] (zat c)):zC P w K mg base CX0 3 f fd ["form","number","many","firsts"] (zaB K c CF):=by
 refine F.ok zgB (fun vs H Q E h=>?_) (fun cdv A outer s H vs Q E hr h=>?_)
 ·obtain ⟨f,d,o,i,many,rows,bars,fp,r,rfl,_⟩:=h
  rfl
 obtain ⟨f,d,o,i,many,rows,bars,fp,r,rfl,lm,lf,l5,hri,rok,hF,hd,q⟩:=h
 have hr1:ya 1 _:=hr.mono (by decide)
 refine ⟨_,zd (zJ (zo ym (pv 1) (yF (pv 0) FK.cl mT GT hr1 bT .nil y7) (zx _)) (zh (zw (zH (ac zq (ac (cTy (zb0 rfl) hlst PyProof.Rows.boot_list (ac (cTy zeB hran boot_range (ac (yF (pv 0) FK.cl mP GP hr1 bP .nil y7) (ac (pv 2) zb))) zb)) zb))))) zA)
  (zd (zJ (zo ym (pv 1) (yF (pv 0) FK.cl mB GB hr1 bB .nil y7) (zx _)) (zh (zw (zH (ac zq (ac (xI ["form"] ["name","at","form"] [none,none,some 0] rfl ⟨rfl,rfl,rfl,rfl⟩ (zbp (pv 3)) (yw (K:=K) (n:=2) 0 1) rfl rfl rfl
    (fun pins fp s H C=>⟨yc rfl (zt (zk (i:=0) zjs rfl (Or.inl rfl) (.inr rfl)) (zt (zk (i:=1) zjs rfl (Or.inl rfl) (.inr rfl)) zV)),y0 (vR (zaO (zaN (pv 2) FK.cl mN GN hr1 bN .nil y7 (ac (pv 0) zb)))),pv 1⟩)) zb))))) zA)
  (zh (zw (cF cE1 hr (ac (zI yf (yF (pv 0) FK.cl mS GS hr1 bS .nil y7) (pv 1) (fun _ _=>rfl)) (ac (pv 1) (ac (pv 2) (ac (pv 3) zb)))))))),?_⟩
 obtain ⟨dx,fs,lr,lb,ld,ps0,h1,h2,h3,h4,h5,h6⟩:=id hF
 have nmT:fs.lookup ("tail" : Str) = none:=h2.no _ (by decide +kernel)
 have nmP:fs.lookup ("places" : Str) = none:=h2.no _ (by decide +kernel)
 have nmB:fs.lookup ("bag" : Str) = none:=h2.no _ (by decide +kernel)
 have nmN:fs.lookup ("number_of" : Str) = none:=h2.no _ (by decide +kernel)
 have nmS:fs.lookup ("parameters" : Str) = none:=h2.no _ (by decide +kernel)
 have lp:plN rows<=500:=Nat.le_trans (List.length_filter_le _ _) l5
 try dsimp only
 refine yC (fun σ' H'=>σ' = [some (.ref f),some (.int (i:Nat)),some (.int (many:Nat)),some (.ref d)]/\H' = H/\zy 2 0 rows ≠ some i) ?_ (fun key=>?_)
 rotate_left
 ·refine ⟨_,rfl,_,rfl,f,dx,fs,rfl,h1,nmT,f,rows,bars,rfl,hF,?_⟩
  cases hT:zy 2 0 rows with
  | none=>
   refine ⟨rfl,_,rfl,?_⟩
   refine dF (by intro z; cases z) ?_
   exact key _ _ ⟨rfl,rfl,by rw [hT]; intro z; cases z⟩
  | some j=>
   refine ⟨rfl,_,rfl,?_⟩
   by_cases hij:i = j
   ·subst hij
    refine dT rfl ?_
    refine ⟨_,rfl,f,dx,fs,rfl,h1,nmP,f,rows,bars,rfl,hF,_,rfl,plN rows,many,rfl,fun p hp=>?_⟩
    have s1:=zc hp (.rng (plN rows:Nat) (many:Nat))
    refine ⟨p,plN rows,many,rfl,za,by omega,lm,fun l hl=>?_⟩
    have s2:=zc hl (.lst ((yW (plN rows) (many - plN rows)).map V.int))
    refine ⟨by show 2<=sizeLine; decide,fun u hu=>?_⟩
    have s3:=zc hu (.tup [.str "places",.ref l])
    refine q u _ (s1.trans (s2.trans s3)) ?_
    unfold zbR
    rw [if_pos hT]
    exact .tup (SqT.of za) (.cons .str (.cons (.lst (s1.free hl) (s3 _ _ za) (yM _)) .nil))
   ·refine dF (fun z=>hij (by have:=V.int.inj z; omega)) ?_
    exact key _ _ ⟨rfl,rfl,by rw [hT]; intro z; exact hij (Option.some.inj z).symm⟩
 rintro σ1 H1 ⟨rfl,rfl,nT⟩
 try dsimp only
 refine yC (fun σ' H'=>σ' = [some (.ref f),some (.int (i:Nat)),some (.int (many:Nat)),some (.ref d)]/\H' = H1/\zy 4 0 rows ≠ some i) ?_ (fun key=>?_)
 rotate_left
 ·refine ⟨_,rfl,_,rfl,f,dx,fs,rfl,h1,nmB,f,rows,bars,rfl,hF,?_⟩
  cases hB:zy 4 0 rows with
  | none=>
   refine ⟨rfl,_,rfl,?_⟩
   refine dF (by intro z; cases z) ?_
   exact key _ _ ⟨rfl,rfl,by rw [hB]; intro z; cases z⟩
  | some j=>
   refine ⟨rfl,_,rfl,?_⟩
   by_cases hij:i = j
   ·subst hij
    refine dT rfl ?_
    refine ⟨_,rfl,d,o,kvP fp,rfl,hd,fun D hD=>?_⟩
    have lk:(kvP fp).length = fp.length:=by unfold kvP; rw [List.length_map]
    refine zfS (fun i ys H'=>zm H1 H'/\H' D = some (.lst ys)/\ys = ((xJ rows (fp.take i)).map fun (j:Nat)=>(j:Int)).map V.int) ⟨zc hD _,za,rfl⟩ (fun i ys H' h=>h.1 _ _ hd) ?_ ?_
    ·rintro k kk v p ys H' hlt hk ⟨sH,hDy,ey⟩ hpn
     obtain ⟨z,n,hz,rfl,rfl⟩:∃ (z:Str) (n:Nat),fp[k]? = some (z,n)/\kk = .inr z/\v = .int (n:Nat):=by
      unfold kvP at hk
      rw [List.getElem?_map] at hk
      cases e:fp[k]? with
      | none=>rw [e] at hk; cases hk
      | some q=>rw [e] at hk; cases hk; exact ⟨q.1,q.2,rfl,rfl,rfl⟩
     have tk:=zcr (rows:=rows) hz
     have sp:=zc hpn (.tup [kV (.inr z),.int (n:Nat)])
     have sA:=sH.trans sp
     have hDy2:=sp _ _ hDy
     refine ⟨p,_,rfl,SqT.of za,rfl,_,_,rfl,_,_,rfl,rfl,?_⟩
     generalize upd H' p (.tup [kV (.inr z),.int (n:Nat)]) = H2 at sp sA hDy2 |-
     refine ⟨_,rfl,f,dx,fs,rfl,sA _ _ h1,nmN,_,rfl,f,z,rows,bars,rfl,hF.same sA,_,rfl,?_⟩
     have ly:ys.length<=k:=by
      rw [ey,List.length_map,List.length_map]
      refine Nat.le_trans (zee _ _) ?_
      rw [List.length_take]
      omega
     cases ev:zL (yl 0 [] rows) (.inr z) with
     | none=>
      rw [show ve rows (z,n) = true from by unfold ve; rw [ev]; rfl,if_pos rfl] at tk
      refine ⟨fun _=>?_,fun e=>?_⟩
      ·refine ⟨_,rfl,lcN.mk hlt (z8 (by omega)) hDy2 ly ⟨fun b' u' e'=>?_,za,?_⟩⟩
       ·rw [zi (zf e' hD)]
        exact sA _ _ e'
       ·rw [ey,tk,List.map_append,List.map_append]
        rfl
      ·exact Bool.noConfusion e
     | some v'=>
      obtain ⟨j,rfl⟩:=zcN rows 0 [] (.inr z) v' (fun k v e=>by cases e) ev
      rw [show ve rows (z,n) = false from by unfold ve; rw [ev]; rfl,if_neg Bool.false_ne_true,List.append_nil] at tk
      refine ⟨fun e=>?_,fun _=>?_⟩
      ·exact absurd (of_decide_eq_true e) (by intro z; cases z)
      ·exact lcS.mk hlt ⟨sA,hDy2,by rw [ey,tk]⟩
    ·rintro ys H' ⟨sH,hDy,ey⟩
     rw [lk,List.take_length] at ey
     subst ey
     refine ⟨by show 2<=sizeLine; decide,fun u hu=>?_⟩
     have s3:=zc hu (.tup [.str "names",.ref D])
     refine q u _ (sH.trans s3) ?_
     unfold zbR
     rw [if_neg nT,if_pos hB]
     exact .tup (SqT.of za) (.cons .str (.cons (.lst hD (s3 _ _ hDy) (yM _)) .nil))
   ·refine dF (fun z=>hij (by have:=V.int.inj z; omega)) ?_
    exact key _ _ ⟨rfl,rfl,by rw [hB]; intro z; exact hij (Option.some.inj z).symm⟩
 rintro σ2 H2 ⟨rfl,rfl,nB⟩
 refine ⟨_,rfl,f,dx,fs,rfl,h1,nmS,f,rows,bars,rfl,hF,fun lS ps H3 s3 nS eS hps=>?_⟩
 have hi:i < rows.length:=(List.getElem?_eq_some_iff.mp hri).1
 obtain ⟨pa,hpa⟩:∃ pa,ps[i]? = some pa:=⟨_,List.getElem?_eq_getElem (by rw [hps.length]; exact hi)⟩
 obtain ⟨r',hr',hdx⟩:=yv hps hpa
 rw [hri] at hr'
 cases hr'
 refine ⟨_,rfl,lS,_,_,.ref pa,rfl,rfl,SqL.of eS,y4 (by rw [List.getElem?_map,hpa]; rfl),_,rfl,_,rfl,_,rfl,pa,d,i,many,r,kvP fp,rfl,hdx,rok,.inr ⟨o,s3 _ _ hd⟩,fun u H4 s4 hu=>?_⟩
 refine q u H4 (s3.trans s4) ?_
 unfold zbR
 rw [if_neg nT,if_neg nB,hri]
 exact .tup (SqT.of hu) zfl
end
def zfd (rows:List Rw) (many:Nat) (zs:List Str):List Dt:=(List.range rows.length).map (zbR rows many (fpZ zs))
def zhR:Sp:=fun _ _ _ _=>False
theorem zjl {P:Program} {w:World} {K:Frag} {mg:Str->Option Value} {base:Heap} {CX:CXT} {k:Nat} {f:Addr} {fd:FuncData} {ps:List Str}:zC P w K mg base CX k f fd ps zhR:=⟨fun _ _ _ _ h=>h.elim,fun _ _ _ _ _ _ _ _ _ _ _ _ _ h=>h.elim⟩
def zar (K:Frag) (c:C5) (CF:Addr):Sp:=fun vs H Q _=>∃ (f a:Addr) (rows:List Rw) (bars:List Str) (ct:List yt),vs = [.ref f,.ref a]/\vm c CF H f rows bars/\vn K H a ct/\wB rows bars ct = []/\
 (∀ (l:Addr) (xs:List V) (H':Hp),zm H H'->H l = none->H' l = some (.lst xs)->Paired (zF K (fun a=>a ≠ l/\H a = none) H' 2) xs (zfd rows (yb ct).length (zP ct))->Q (.ref l) H')
section
variable {P:Program} {w:World} {K:Frag} {mg:Str->Option Value} {base:Heap} {f CF:Addr} {fd:FuncData} {c:C5} {m:MA}
theorem zkl:([Str.ofString "at",Str.ofString "firsts",Str.ofString "form",Str.ofString "many"]:List Str).Nodup:=by decide +kernel
theorem wD:zu ["form","call","many","names","found","word","number","firsts"] ["form","call"] (ze uQ):=⟨rfl,rfl,rfl,by decide +kernel,rfl,by decide +kernel,by decide +kernel⟩
theorem zfs {g1 g2 g3 g4 g5 gS:Addr} {d1 d2 d3 d4 d5 eS:FuncData} (F:Fun K "paper" "paper" uQ f fd) (hran:mg "range" = none) (hlen:mg "len" = none) (FK:FC K CF) (c1:zl P w K mg base 2 "shape" g1 d1 ["call"] (jt K)) (c2:zl P w K mg base 4 "misfits_of" g2 d2 ["form","many","names"] (zc3 c CF)) (c3:zl P w K mg base 1 "refuse" g3 d3 ["word","number"] zhR)
  (c4:zl P w K mg base 1 "first_numbers" g4 d4 ["names"] uc) (c5:zl P w K mg base 3 "entry" g5 d5 ["form","number","many","firsts"] (zaB K c CF)) (mS:y6 K CF "parameters" gS) (GS:zC P w K mg base CX0 1 gS eS ["self"] (jL c CF)) (bS:zS K eS ["self"] []):zC P w K mg base CX0 5 f fd ["form","call"] (zar K c CF):=by
 refine F.ok wD (fun vs H Q E h=>?_) (fun cdv A outer s H vs Q E hr h=>?_)
 ·obtain ⟨f,a,rows,bars,ct,rfl,_⟩:=h
  rfl
 obtain ⟨f,a,rows,bars,ct,rfl,hF,⟨⟨xs,hx,hc⟩,lt,lp⟩,em,q1⟩:=h
 have hr1:ya 1 _:=hr.mono (by decide)
 have hr2:ya 2 _:=hr.mono (by decide)
 have hr3:ya 3 _:=hr.mono (by decide)
 refine ⟨_,zd (wg (cF c1 hr2 (ac (pv 1) zb)) (yc rfl (zt (zk (i:=2) wD.nd rfl (Or.inr rfl)) (zt (zk (i:=3) wD.nd rfl (Or.inl rfl)) zV))))
  (zd (zv (i:=4) wD.nd rfl (Or.inl rfl) (cF c2 hr (ac (pv 0) (ac (pv 2) (ac (pv 3) zb)))))
  (zd (zJ (zeW (pv 4) (fun _=>rfl)) (zd (wg (zI yf (pv 4) zg (fun _ _=>rfl)) (yc rfl (zt (zk (i:=5) wD.nd rfl (Or.inl rfl)) (zt (zk (i:=6) wD.nd rfl (Or.inl rfl)) zV))))
   (zh (zE (cF c3 hr1 (ac (pv 5) (ac (pv 6) zb)))))) zA)
  (zd (zv (i:=7) wD.nd rfl (Or.inr rfl) (cF c4 hr1 (ac (pv 3) zb)))
  (zh (zw (xI ["many","form","firsts"] ["at","firsts","form","many"] [none,some 7,some 0,some 2] rfl ⟨rfl,rfl,rfl,rfl⟩ (yu rfl hran (ac (cB zB hlen PySem.boot_len (ac (yF (pv 0) FK.cl mS GS hr1 bS .nil y7) zb)) zb)) (yx 0) rfl rfl rfl
   (fun pins fp s H C=>⟨zk (i:=0) zkl rfl (Or.inl rfl) (.inr rfl),xp,cF c5 hr3 (ac (pv 2) (ac (pv 0) (ac (pv 3) (ac (pv 1) zb))))⟩))))))),?_⟩
 refine ⟨_,rfl,a,ct,xs,rfl,hx,hc,lt,lp,fun p l H1 s1 nl ep el=>?_⟩
 refine ⟨p,_,rfl,SqT.of ep,rfl,_,_,rfl,_,_,rfl,rfl,?_⟩
 have hF1:=hF.same s1
 have ln:(zP ct).length<=900:=by unfold zP; rw [List.length_map]; exact lp
 refine ⟨_,rfl,_,rfl,_,rfl,f,l,(yb ct).length,rows,bars,zP ct,rfl,hF.lr,hF.lb,lt,ln,hF.ok,hF1.at_,el,fun l2 H2 s2 ⟨us,n2,e2,m2⟩=>?_⟩
 have s12:=s1.trans s2
 have hF2:=hF.same s12
 refine ⟨_,rfl,_,.inl ⟨_,SqL.of e2,rfl⟩,?_⟩
 have em':zR rows bars (yb ct).length (zP ct) = []:=em
 rw [em'] at m2
 cases m2
 refine y9 ?_
 refine ⟨_,rfl,l,zP ct,rfl,s2 _ _ el,ln,fun d o H3 s3 nd hd=>?_⟩
 rw [zhB] at hd
 have s13:=s12.trans s3
 have hF3:=hF.same s13
 obtain ⟨dx,fs,lr,lb,ld,ps0,h1,h2,h3,h4,h5,h6⟩:=id hF3.at_
 have nmS:fs.lookup ("parameters" : Str) = none:=h2.no _ (by decide +kernel)
 refine ⟨_,rfl,f,dx,fs,rfl,h1,nmS,f,rows,bars,rfl,hF3.at_,fun lS ps H4 s4 nS eS hps=>?_⟩
 have lps:(ps.map V.ref).length = rows.length:=by rw [List.length_map]; exact hps.length
 have s14:=s13.trans s4
 have hF4:=hF.same s14
 have hlr:=hF.lr
 refine ⟨lS,_,rfl,.inl (SqL.of eS),((ps.map V.ref).length:Nat),rfl,by omega,by omega,fun D hD=>?_⟩
 have lfp:(fpZ (zP ct)).length<=900:=by
  have:=jH (zP ct) 0 []
  show (fpF 0 [] (zP ct)).length<=900
  simp at this
  omega
 refine zfQ (K:=K) (m:=2) (zbR rows (yb ct).length (fpZ (zP ct))) hD (by omega) (fun i H5 Qf Qs hi s5 qf=>?_) (fun vs H5 s5 hDv hp=>?_)
 ·have hi':i < rows.length:=by omega
  have hri:rows[i]? = some rows[i]:=List.getElem?_eq_getElem hi'
  refine ⟨fun _=>?_,fun e=>Bool.noConfusion e⟩
  refine ⟨_,rfl,_,rfl,_,rfl,_,rfl,f,d,o,i,(yb ct).length,rows,bars,fpZ (zP ct),rows[i],(by rw [Int.zero_add]; rfl),lt,lfp,hF.lr,hri,hF.ok _ (List.getElem_mem hi'),(hF4.same s5).at_,s5 _ _ (s4 _ _ hd),fun u H6 s6 hs6=>qf _ _ s6 hs6⟩
 ·refine q1 D vs H5 (s14.trans s5) (s14.free hD) hDv ?_
  unfold zfd
  have:(((ps.map V.ref).length:Nat):Int).toNat = rows.length:=by omega
  rw [this] at hp
  exact Paired.imp' (fun _ _ z=>vp (fun b o _=>⟨o.1,s14.free o.2⟩) z) hp
end
def zaC (K:Frag):Sp:=fun vs H Q _=>∃ (a:Addr) (ns:List Int) (k:Nat),vs = [.ref a,.int k]/\SqL K H a (ns.map V.int)/\ns.length<=63/\∀ (n:Int) (H':Hp),zm H H'->(n ∈ ns\/n = 0)->Q (.int n) H'
def xQ (c k:Int):Int:=(c % 2147483647 * 48271 + k * 104729 + 5) % 2147483629 * ((c % 2147483647 * 48271 + k * 104729 + 5) % 2147483629) % 2147483587
def qB:Sp:=fun vs H Q _=>∃ c k:Int,vs = [.int c,.int k]/\Q (.int (xQ c k)) H
def wf (c k:Int):Int:=if xQ c k % 2 = 0 then xQ c k / 2 % 13 - 6 else (c * 982451653 ^ (5:Int).toNat + k) % (2 * 10 ^ (60:Int).toNat - 1) - 10 ^ (60:Int).toNat + 1
def zaq:Sp:=fun vs H Q _=>∃ c k:Int,vs = [.int c,.int k]/\Builtin.Int.intBits c<=1048600/\Q (.int (wf c k)) H
def yU (c:Int) (k:Nat):Str:=Txt.slice "zyxwvut" none (some ((c / 26 + (k:Int)) % 8)) ++ (⟨#[97 + ((c + 3 * (k:Int)) % 26).toNat]⟩:Str)
def zb8 (K:Frag):Sp:=fun vs H Q _=>∃ c:Int,vs = [.int c]/\∀ (r:Addr) (H':Hp),zm H H'->H r = none->H' r = some (.lst (((List.range 26).map (yU c)).map V.str))->Q (.ref r) H'
theorem ziN:∀ m,m < 26->(Str.ofString "abcdefghijklmnopqrstuvwxyz").cps.toList[m]? = some (97 + m):=by decide +kernel
theorem zcj:∀ a,a < 8->∀ m,m < 26->xh (Txt.slice "zyxwvut" none (some ((a:Nat):Int)) ++ (⟨#[97 + m]⟩:Str)) = true:=by decide +kernel
theorem qV (c:Int) (k:Nat):xh (yU c k) = true:=by
 have h0 : 0<=(c / 26 + (k:Int)) % 8:=Int.emod_nonneg _ (by decide)
 have h1:(c / 26 + (k:Int)) % 8 < 8:=Int.emod_lt_of_pos _ (by decide)
 have h2 : 0<=(c + 3 * (k:Int)) % 26:=Int.emod_nonneg _ (by decide)
 have h3:(c + 3 * (k:Int)) % 26 < 26:=Int.emod_lt_of_pos _ (by decide)
 obtain ⟨a,ha⟩:=Int.eq_ofNat_of_zero_le h0
 unfold yU
 rw [ha]
 exact zcj a (by omega) _ (by omega)
theorem qW (c:Int) (k:Nat):(yU c k).cps.toList.getLast? = some (97 + ((c + 3 * (k:Int)) % 26).toNat):=by
 show ((Txt.slice "zyxwvut" none (some ((c / 26 + (k:Int)) % 8))).cps ++ #[97 + ((c + 3 * (k:Int)) % 26).toNat]).toList.getLast? = _
 rw [Array.toList_append]
 simp
theorem ze1 {c:Int} {j k:Nat} (hj:j < 26) (hk:k < 26) (e:yU c j = yU c k):j = k:=by
 have h1:=qW c j
 rw [e,qW c k] at h1
 have h2:=Option.some.inj h1
 have a0 : 0<=(c + 3 * (j:Int)) % 26:=Int.emod_nonneg _ (by decide)
 have a1 : 0<=(c + 3 * (k:Int)) % 26:=Int.emod_nonneg _ (by decide)
 omega
theorem zbB {c:Int} (h:Builtin.Int.intBits c<=1048600):IntMulOk c ((982451653:Int) ^ (5:Int).toNat):=by
 have hb:Builtin.Int.intBits ((982451653:Int) ^ (5:Int).toNat)<=200:=by decide +kernel
 have h2:Builtin.Int.intTooBig (Builtin.Int.intBits c + Builtin.Int.intBits ((982451653:Int) ^ (5:Int).toNat)) = false:=by
  unfold Builtin.Int.intTooBig bitsLine
  exact decide_eq_false (by omega)
 unfold IntMulOk
 rw [h2]
 simp
structure zjI (K:Frag) (mg:Str->Option Value):Prop where
 isi:mg "isinstance" = none
 str:mg "str" = none
 bool:mg "bool" = none
 int:mg "int" = none
 tuple:mg "tuple" = none
 list:mg "list" = none
 len:mg "len" = none
 range:mg "range" = none
 enumerate:mg "enumerate" = none
section
variable {P:Program} {w:World} {K:Frag} {mg:Str->Option Value} {base:Heap} {f:Addr} {fd:FuncData}
theorem zh2:zu ["_law_script","_law_at"] ["_law_script","_law_at"] (ze qT):=⟨rfl,rfl,rfl,by decide +kernel,rfl,by decide +kernel,by decide +kernel⟩
theorem zg4 (F:Fun K "_law_cell" "_law_cell" qT f fd):zC P w K mg base CX0 1 f fd ["_law_script","_law_at"] (zaC K):=by
 refine F.ok zh2 (fun vs H Q E h=>?_) (fun cdv A outer s H vs Q E hr h=>?_)
 ·obtain ⟨a,ns,k,rfl,_⟩:=h
  rfl
 obtain ⟨a,ns,k,rfl,hS,h63,q⟩:=h
 refine ⟨_,zh (zw (zI yf (zr y8 (zY yj (pv 0) (z9 (pv 1)) (z9 (zr yo (pv 1) zg))) (zM (ac zg zb))) zg (fun _ _=>rfl))),?_⟩
 obtain ⟨ms,e1,e2,e3⟩:=zgd ns (some (k:Int)) (some ((k:Int) + 1))
 refine ⟨_,rfl,_,rfl,_,rfl,_,rfl,_,_,rfl,rfl,_,rfl,a,_,rfl,hS,fun p hp=>?_⟩
 rw [e1]
 refine ⟨zz1,fun l hl=>?_⟩
 have npl:p ≠ l:=zf za hl
 refine ⟨p,l,_,_,rfl,rfl,(by rw [zi npl,za]),za,?_,fun c hc=>?_⟩
 ·rw [List.length_map]
  show ms.length + 1<=sizeLine
  exact z8 (by omega)
 have s3:=(zc hp (.lst (ms.map V.int))).trans ((zc hl (.lst [.int 0])).trans (zc hc (.lst (ms.map V.int ++ [.int 0]))))
 cases ms with
 | nil=>exact ⟨c,_,0,.int 0,rfl,rfl,SqL.of za,rfl,q 0 _ s3 (.inr rfl)⟩
 | cons m r=>exact ⟨c,_,0,.int m,rfl,rfl,SqL.of za,y4 (j:=0) rfl,q m _ s3 (.inl (e3 m (by simp)))⟩
theorem zht:zu ["_law_cell_here","_law_k","_law_number"] ["_law_cell_here","_law_k"] (ze zdT):=⟨rfl,rfl,rfl,by decide +kernel,rfl,by decide +kernel,by decide +kernel⟩
theorem zil (F:Fun K "_law_mix" "_law_mix" zdT f fd):zC P w K mg base CX0 1 f fd ["_law_cell_here","_law_k"] qB:=by
 refine F.ok zht (fun vs H Q E h=>?_) (fun cdv A outer s H vs Q E hr h=>?_)
 ·obtain ⟨c,k,rfl,_⟩:=h
  rfl
 obtain ⟨c,k,rfl,q⟩:=h
 refine ⟨_,zd (zv (i:=2) zht.nd rfl (Or.inl rfl) (zr z5 (zr yo (zr yo (zr wj (zr z5 (pv 0) zg) zg) (zr wj (pv 1) zg)) zg) zg))
  (zh (zw (zr z5 (zr wj (pv 2) (pv 2)) zg))),?_⟩
 refine ⟨_,rfl,_,_,rfl,rfl,(by show (0:Int) < 2147483647; decide),_,_,rfl,rfl,.inr ⟨by decide,by decide⟩,_,rfl,_,_,rfl,rfl,.inr ⟨by decide,by decide⟩,_,_,rfl,rfl,_,_,rfl,rfl,_,_,rfl,rfl,zp2147483629,?_⟩
 have h1 : 0<=(c % 2147483647 * 48271 + k * 104729 + 5) % 2147483629:=Int.emod_nonneg _ (by decide)
 have h2:(c % 2147483647 * 48271 + k * 104729 + 5) % 2147483629 < 2147483629:=Int.emod_lt_of_pos _ (by decide)
 exact ⟨_,rfl,_,rfl,_,_,rfl,rfl,.inl ⟨by omega,by omega⟩,_,_,rfl,rfl,(by show (0:Int) < 2147483587; decide),q⟩
theorem zc5:zu ["_law_cell_here","_law_k","_law_number"] ["_law_cell_here","_law_k"] (ze uL):=⟨rfl,rfl,rfl,by decide +kernel,rfl,by decide +kernel,by decide +kernel⟩
theorem zfn {g:Addr} {gd:FuncData} (F:Fun K "_law_thing" "_law_thing" uL f fd) (cM:zl P w K mg base 1 "_law_mix" g gd ["_law_cell_here","_law_k"] qB):zC P w K mg base CX0 2 f fd ["_law_cell_here","_law_k"] zaq:=by
 refine F.ok zc5 (fun vs H Q E h=>?_) (fun cdv A outer s H vs Q E hr h=>?_)
 ·obtain ⟨c,k,rfl,_⟩:=h
  rfl
 obtain ⟨c,k,rfl,hb,q⟩:=h
 refine ⟨_,zd (zv (i:=2) zc5.nd rfl (Or.inl rfl) (cF cM hr (ac (pv 0) (ac (pv 1) zb))))
  (zd (zJ (zo ym (zr z5 (pv 2) zg) zg (zx _)) (zh (zw (zr wK (zr z5 (zr xq (pv 2) zg) zg) zg))) zA)
  (zh (zw (zr yo (zr wK (zr z5 (zr yo (zr zgQ (pv 0) (zr vS zg zg)) (pv 1)) (zr wK (zr wj zg (zr vS zg zg)) zg)) (zr vS zg zg)) zg)))),?_⟩
 refine ⟨_,rfl,_,rfl,c,k,rfl,?_⟩
 refine ⟨_,rfl,_,_,rfl,rfl,zp2,rfl,_,rfl,?_⟩
 by_cases hm2:xQ c k % 2 = 0
 ·refine dT (congrArg V.int hm2) ?_
  unfold wf at q
  rw [if_pos hm2] at q
  exact ⟨_,rfl,_,_,rfl,rfl,⟨by decide,by decide⟩,_,_,rfl,rfl,(by show (0:Int) < 13; decide),_,_,rfl,rfl,q⟩
 ·refine dF (fun e=>hm2 (V.int.inj e)) ?_
  unfold wf at q
  rw [if_neg hm2] at q
  have hm:IntMulOk c ((982451653:Int) ^ (5:Int).toNat):=zbB hb
  exact ⟨_,rfl,_,_,rfl,rfl,⟨by decide,by decide,by decide⟩,_,_,rfl,rfl,hm,_,rfl,_,_,rfl,rfl,_,_,rfl,rfl,⟨by decide,by decide,by decide⟩,_,_,rfl,rfl,.inl ⟨by decide,by decide⟩,_,_,rfl,rfl,_,_,rfl,rfl,(by show (0:Int) < 2 * 10 ^ Int.toNat 60 - 1; decide +kernel),_,_,rfl,rfl,⟨by decide,by decide,by decide⟩,_,_,rfl,rfl,_,_,rfl,rfl,q⟩
theorem zaI:zu ["_law_cell_here","_law_names","_law_k","_law_stem"] ["_law_cell_here"] (ze qF):=⟨rfl,rfl,rfl,by decide +kernel,rfl,by decide +kernel,by decide +kernel⟩
theorem zgS (F:Fun K "_law_pool" "_law_pool" qF f fd) (T:zjI K mg):zC P w K mg base CX0 1 f fd ["_law_cell_here"] (zb8 K):=by
 refine F.ok zaI (fun vs H Q E h=>?_) (fun cdv A outer s H vs Q E hr h=>?_)
 ·obtain ⟨c,rfl,_⟩:=h
  rfl
 obtain ⟨c,rfl,q⟩:=h
 refine ⟨_,zd (zv (i:=1) zaI.nd rfl (Or.inl rfl) (zM zb))
  (zd (yE PassesOwn.never rfl (yu rfl T.range (ac zg zb)) (zk (i:=2) zaI.nd rfl (Or.inl rfl))
   (zd (zv (i:=3) zaI.nd rfl (Or.inl rfl) (zY zhT zq yp (z9 (zr z5 (zr yo (zr xq (pv 0) zg) (pv 2)) zg))))
   (zh (zE (yz PySem.F.plainAttrs_list PySem.F.slot_list_append PySem.F.type_list_append zG (pv 1) (ac (zr jV (pv 3) (zI zfX zq (zr z5 (zr yo (pv 0) (zr wj zg (pv 2))) zg) (fun _ _=>rfl))) zb))))))
  (zh (zw (pv 1)))),?_⟩
 refine ⟨zz0,fun r hr0=>?_⟩
 refine ⟨26,rfl,by decide,by decide,xj (n:=26) (fun i σ H2=>∃ v2 v3,σ = [some (.int c),some (.ref r),v2,v3]/\H2 r = some (.lst (((List.range i).map (yU c)).map V.str))/\zm H H2)
  ⟨_,_,rfl,za,zc hr0 _⟩ ?_ ?_⟩
 ·rintro i σ H2 hi ⟨v2,v3,rfl,g,sH⟩
  refine ⟨_,rfl,_,_,rfl,rfl,⟨by decide,by decide⟩,_,rfl,_,_,rfl,rfl,_,_,rfl,rfl,zp8,_,rfl,_,rfl,(by decide +kernel),?_⟩
  have h0 : 0<=(c + 3 * ((0:Int) + (i:Int))) % 26:=Int.emod_nonneg _ (by decide)
  have h1:(c + 3 * ((0:Int) + (i:Int))) % 26 < 26:=Int.emod_lt_of_pos _ (by decide)
  have hch:atI (Str.ofString "abcdefghijklmnopqrstuvwxyz").cps.toList ((c + 3 * ((0:Int) + (i:Int))) % 26) = some (97 + ((c + 3 * ((0:Int) + (i:Int))) % 26).toNat):=by
   obtain ⟨m,hm⟩:=Int.eq_ofNat_of_zero_le h0
   rw [hm]
   have hm2:m < 26:=by omega
   exact y4 (ziN m hm2)
  refine ⟨_,rfl,.inl ⟨rfl,_,SqL.of g⟩,_,rfl,_,rfl,_,rfl,_,_,rfl,rfl,.inl ⟨by decide,by decide⟩,_,_,rfl,rfl,_,_,rfl,rfl,(by show (0:Int) < 26; decide),_,_,_,rfl,rfl,(by decide +kernel),hch,?_⟩
  have hsl:=Txt.slice_le (Str.ofString "zyxwvut") none (some ((c / 26 + (0 + (i:Int))) % 8))
  have hs7:(Str.ofString "zyxwvut").length = 7:=by decide +kernel
  refine ⟨_,_,rfl,rfl,z8 (by rw [hs7] at hsl; show _ + 1<=1000; omega),r,_,_,rfl,rfl,g,(by rw [List.length_map,List.length_map,List.length_range]; exact zz (by omega)),?_⟩
  refine ⟨_,_,rfl,?_,wo sH hr0 _⟩
  rw [za,List.range_succ,List.map_append,List.map_append]
  show _ = some (HO.lst (_ ++ [V.str (yU c i)]))
  unfold yU
  rw [Int.zero_add]
 ·rintro σ H2 ⟨v2,v3,rfl,g,sH⟩
  exact ⟨_,rfl,q r H2 sH hr0 g⟩
end
theorem zbu {l g:Nat} {r:Rw} {rs:List Rw} (hg:grp r.k = g) (hb:yB l g = false) (h:zW g rs = true):zW l (r :: rs) = true:=by
 show (!yB l (grp r.k) && zW (grp r.k) rs) = true
 rw [hg,hb,h]
 rfl
theorem jS {g:Nat} (he:yB g g = false):∀ (xs ys:List Rw) (l:Nat),yB l g = false->(∀ r ∈ xs,grp r.k = g)->zW l ys = true->zW g ys = true->zW l (xs ++ ys) = true
 | [],_,_,_,_,h1,_=>h1
 | r :: rs,ys,l,hb,hg,_,h2=>zbu (hg r List.mem_cons_self) hb (jS he rs ys g he (fun x hx=>hg x (List.mem_cons_of_mem _ hx)) h2 h2)
theorem zdi {g l:Nat} {xs ys:List Rw} (hl:xs.length<=1) (hb:yB l g = false) (hg:∀ r ∈ xs,grp r.k = g) (h1:zW l ys = true) (h2:zW g ys = true):zW l (xs ++ ys) = true:=by
 match xs,hl with
 | [],_=>exact h1
 | [r],_=>exact zbu (hg r List.mem_cons_self) hb h2
theorem zgP {xs0 xs1 xs2 xs3:List Rw} (g0:∀ r ∈ xs0,grp r.k = 0) (g1:∀ r ∈ xs1,grp r.k = 1) (l1:xs1.length<=1) (g2:∀ r ∈ xs2,grp r.k = 2) (g3:∀ r ∈ xs3,grp r.k = 3) (l3:xs3.length<=1):zW 0 (xs0 ++ (xs1 ++ (xs2 ++ xs3))) = true:=by
 have h3:∀ l,l<=2->zW l xs3 = true:=fun l hl=>by
  have:=zdi (g:=3) (l:=l) (ys:=[]) l3 (by match l,hl with | 0,_=>rfl | 1,_=>rfl | 2,_=>rfl) g3 rfl rfl
  rwa [List.append_nil] at this
 have h2:∀ l,l<=1->zW l (xs2 ++ xs3) = true:=fun l hl=>jS (g:=2) rfl xs2 xs3 l (by match l,hl with | 0,_=>rfl | 1,_=>rfl) g2 (h3 l (by omega)) (h3 2 (by omega))
 have h1:zW 0 (xs1 ++ (xs2 ++ xs3)) = true:=zdi (g:=1) l1 rfl g1 (h2 0 (by omega)) (h2 1 (by omega))
 exact jS (g:=0) rfl xs0 _ 0 rfl g0 h1 h1
theorem wL (a b:List Rw):nms (a ++ b) = nms a ++ nms b:=by unfold nms; rw [List.filter_append,List.map_append]
theorem jz (r:Rw):nms [r] = if z0 r.k = true then [r.z] else []:=by
 unfold nms
 cases h:z0 r.k <;> simp [h]
theorem ziC {k:Nat} (hk:k < 5) (h:z0 k = true):grp k = 0\/grp k = 2:=by
 rcases lt5 hk with rfl | rfl | rfl | rfl | rfl <;> first | (exact .inl rfl) | (exact .inr rfl) | (cases h)
theorem zdl {xs:List Rw} {g:Nat} (hg:∀ r ∈ xs,r.ok/\grp r.k = g) (h:g % 2 = 1):nms xs = []:=by
 unfold nms
 rw [List.filter_eq_nil_iff.mpr (fun r hr e=>?_)]
 ·rfl
 ·obtain ⟨ho,q⟩:=hg r hr
  rcases ziC ho.1 e with z | z <;> rw [z] at q <;> rw [<- q] at h <;> cases h
structure FS where
 (P T G B:List Rw) (L:List Str)
def FS.add (S:FS) (k:Nat) (z:Str) (b:Bool):FS:=match k with
 | 0=>{ S with P:=S.P ++ [⟨0,z,b⟩] }
 | 1=>{ S with P:=S.P ++ [⟨1,z,b⟩],L:=S.L ++ [z] }
 | 2=>{ S with T:=[⟨2,z,b⟩] }
 | 3=>{ S with G:=S.G ++ [⟨3,z,b⟩],L:=S.L ++ [z] }
 | _=>{ S with B:=[⟨4,z,b⟩] }
structure FM (i:Nat) (S:FS):Prop where
 okP:∀ r ∈ S.P,r.ok/\grp r.k = 0
 okT:∀ r ∈ S.T,r.ok/\grp r.k = 1
 okG:∀ r ∈ S.G,r.ok/\grp r.k = 2
 okB:∀ r ∈ S.B,r.ok/\grp r.k = 3
 lT:S.T.length<=1
 lB:S.B.length<=1
 nd:(nms S.P ++ nms S.G).Nodup
 sn:∀ z ∈ nms S.P ++ nms S.G,z ∈ S.L
 ln:S.P.length + S.T.length + S.G.length + S.B.length<=i
 lL:S.L.length<=i
theorem jZ {α : Type} {xs:List α} {y : α} {p : α->Prop} (h:∀ x ∈ xs,p x) (hy:p y):∀ x ∈ xs ++ [y],p x:=fun x hx=>by
 rcases List.mem_append.mp hx with hx | hx
 ·exact h x hx
 ·rw [List.mem_singleton.mp hx]; exact hy
theorem FM.zero:FM 0 ⟨[],[],[],[],[]⟩:=by
 refine ⟨?_,?_,?_,?_,?_,?_,?_,?_,?_,?_⟩ <;> first | exact (fun _ h=>nomatch h) | exact Nat.zero_le _ | exact List.nodup_nil | exact Nat.le_refl _
theorem zfN {a b:List Str} {z:Str} (h:(a ++ b).Nodup) (hz:z ∉ a ++ b):(a ++ [z] ++ b).Nodup:=by
 have p:(a ++ [z] ++ b).Perm (z :: (a ++ b)):=by
  rw [List.append_assoc]
  exact List.perm_middle
 exact p.nodup_iff.mpr (List.nodup_cons.mpr ⟨hz,h⟩)
theorem FM.add {i:Nat} {S:FS} {k:Nat} {z:Str} {b:Bool} (h:FM i S) (hk:k < 5) (hz:xh z = true) (hn:z0 k = true->z ∉ S.L):FM (i + 1) (S.add k z b):=by
 have ln:=h.ln
 have lL:=h.lL
 have lT:=h.lT
 have lB:=h.lB
 match k,hk with
 | 0,_=>
  have e:nms (S.P ++ [⟨0,z,b⟩]) = nms S.P:=by rw [wL,jz]; simp [z0]
  exact ⟨jZ h.okP ⟨⟨Nat.lt_of_sub_eq_succ rfl,hz⟩,rfl⟩,h.okT,h.okG,h.okB,h.lT,h.lB,by show (nms (S.P ++ _) ++ nms S.G).Nodup; rw [e]; exact h.nd,by show ∀ y ∈ nms (S.P ++ _) ++ nms S.G,y ∈ S.L; rw [e]; exact h.sn,
   by show (S.P ++ [_]).length + S.T.length + S.G.length + S.B.length<=i + 1; rw [List.length_append,List.length_singleton]; omega,Nat.le_succ_of_le h.lL⟩
 | 1,_=>
  have e:nms (S.P ++ [⟨1,z,b⟩]) = nms S.P ++ [z]:=by rw [wL,jz]; simp [z0]
  have nz:z ∉ nms S.P ++ nms S.G:=fun m=>hn rfl (h.sn z m)
  refine ⟨jZ h.okP ⟨⟨Nat.lt_of_sub_eq_succ rfl,hz⟩,rfl⟩,h.okT,h.okG,h.okB,h.lT,h.lB,by show (nms (S.P ++ _) ++ nms S.G).Nodup; rw [e]; exact zfN h.nd nz,?_,
   by show (S.P ++ [_]).length + S.T.length + S.G.length + S.B.length<=i + 1; rw [List.length_append,List.length_singleton]; omega,by show (S.L ++ [_]).length<=i + 1; rw [List.length_append,List.length_singleton]; omega⟩
  show ∀ y ∈ nms (S.P ++ _) ++ nms S.G,y ∈ S.L ++ [z]
  rw [e]
  intro y hy
  rw [List.mem_append,List.mem_append] at hy
  rcases hy with (hy | hy) | hy
  ·exact List.mem_append_left _ (h.sn y (List.mem_append_left _ hy))
  ·exact List.mem_append_right _ hy
  ·exact List.mem_append_left _ (h.sn y (List.mem_append_right _ hy))
 | 2,_=>
  refine ⟨h.okP,fun r hr=>?_,h.okG,h.okB,Nat.le_refl _,h.lB,h.nd,h.sn,?_,Nat.le_succ_of_le h.lL⟩
  ·rw [List.mem_singleton.mp hr]; exact ⟨⟨Nat.lt_of_sub_eq_succ rfl,hz⟩,rfl⟩
  ·show S.P.length + 1 + S.G.length + S.B.length<=i + 1
   omega
 | 3,_=>
  have e:nms (S.G ++ [⟨3,z,b⟩]) = nms S.G ++ [z]:=by rw [wL,jz]; simp [z0]
  have nz:z ∉ nms S.P ++ nms S.G:=fun m=>hn rfl (h.sn z m)
  refine ⟨h.okP,h.okT,jZ h.okG ⟨⟨Nat.lt_of_sub_eq_succ rfl,hz⟩,rfl⟩,h.okB,h.lT,h.lB,?_,?_,
   by show S.P.length + S.T.length + (S.G ++ [_]).length + S.B.length<=i + 1; rw [List.length_append,List.length_singleton]; omega,by show (S.L ++ [_]).length<=i + 1; rw [List.length_append,List.length_singleton]; omega⟩
  ·show (nms S.P ++ nms (S.G ++ _)).Nodup
   rw [e,<- List.append_assoc]
   have:=zfN (a:=nms S.P ++ nms S.G) (b:=[]) (z:=z) (by rw [List.append_nil]; exact h.nd) (by rw [List.append_nil]; exact nz)
   rwa [List.append_nil] at this
  ·show ∀ y ∈ nms S.P ++ nms (S.G ++ _),y ∈ S.L ++ [z]
   rw [e]
   intro y hy
   rw [List.mem_append,List.mem_append] at hy
   rcases hy with hy | hy | hy
   ·exact List.mem_append_left _ (h.sn y (List.mem_append_left _ hy))
   ·exact List.mem_append_left _ (h.sn y (List.mem_append_right _ hy))
   ·exact List.mem_append_right _ hy
 | 4,_=>
  refine ⟨h.okP,h.okT,h.okG,fun r hr=>?_,h.lT,Nat.le_refl _,h.nd,h.sn,?_,Nat.le_succ_of_le h.lL⟩
  ·rw [List.mem_singleton.mp hr]; exact ⟨⟨Nat.lt_of_sub_eq_succ rfl,hz⟩,rfl⟩
  ·show S.P.length + S.T.length + S.G.length + 1<=i + 1
   omega
def FS.rows (S:FS):List Rw:=S.P ++ S.T ++ S.G ++ S.B
theorem FM.valid {i:Nat} {S:FS} {bars:List Str} (h:FM i S) (hi:i<=24) (lb:bars.length<=60) (bn:∀ z ∈ bars,xh z = true) (bd:bars.Nodup) (bl:∀ z ∈ bars,z ∉ S.L):yP S.rows bars:=by
 have en:nms S.rows = nms S.P ++ nms S.G:=by
  unfold FS.rows
  rw [wL,wL,wL,zdl h.okT rfl,zdl h.okB rfl,List.append_nil,List.append_nil]
 refine ⟨fun r hr=>?_,?_,lb,?_,bn,?_⟩
 ·unfold FS.rows at hr
  rw [List.mem_append,List.mem_append,List.mem_append] at hr
  rcases hr with ((hr | hr) | hr) | hr
  ·exact (h.okP r hr).1
  ·exact (h.okT r hr).1
  ·exact (h.okG r hr).1
  ·exact (h.okB r hr).1
 ·unfold FS.rows
  have:=h.ln
  simp only [List.length_append]
  omega
 ·unfold FS.rows
  rw [List.append_assoc,List.append_assoc]
  exact zgP (fun r hr=>(h.okP r hr).2) (fun r hr=>(h.okT r hr).2) h.lT (fun r hr=>(h.okG r hr).2) (fun r hr=>(h.okB r hr).2) h.lB
 ·rw [en]
  exact List.nodup_append.mpr ⟨h.nd,bd,fun x hx y hy e=>bl y hy (e ▸ h.sn x hx)⟩
theorem TAt.keep {H:Hp} {v D:Addr} {r:Rw} {o:HO} (h:TAt H v r) (hD:∀ vs,H D ≠ some (.tup vs)):TAt (upd H D o) v r:=by
 show upd H D o v = _
 rw [zi (fun e=>by subst e; exact hD _ h)]
 exact h
def vM (H:Hp) (l:Addr) (rows:List Rw):Prop:=∃ us:List Addr,H l = some (.lst (us.map V.ref))/\Paired (TAt H) us rows
theorem vM.same {H H':Hp} {l:Addr} {rows:List Rw} (h:vM H l rows) (s:zm H H'):vM H' l rows:=let ⟨us,h1,h2⟩:=h; ⟨us,s _ _ h1,z7 s h2⟩
theorem vM.keep {H:Hp} {l D:Addr} {rows:List Rw} {o:HO} (h:vM H l rows) (ne:l ≠ D) (hD:∀ vs,H D ≠ some (.tup vs)):vM (upd H D o) l rows:=
 let ⟨us,h1,h2⟩:=h
 ⟨us,by rw [zi ne]; exact h1,Paired.imp' (fun _ _ z=>z.keep hD) h2⟩
theorem vM.snoc {H:Hp} {l u:Addr} {rows:List Rw} {r:Rw} {us:List Addr} (h1:H l = some (.lst (us.map V.ref))) (h2:Paired (TAt H) us rows) (hu:TAt H u r):vM (upd H l (.lst (us.map V.ref ++ [.ref u]))) l (rows ++ [r]):=by
 have hD:∀ vs,H l ≠ some (.tup vs):=fun vs e=>by rw [h1] at e; cases e
 refine ⟨us ++ [u],by rw [za,List.map_append]; rfl,Paired.snoc (Paired.imp' (fun _ _ z=>z.keep hD) h2) (hu.keep hD)⟩
def yJ (ta ba:Addr):List (Key × V):=[(.inr "tail",.ref ta),(.inr "bag",.ref ba)]
theorem ziH (ta ba x:Addr):yr (yJ ta ba) (.inr "tail") (.ref x) = yJ x ba:=by
 have e:¬ ((Sum.inr (Str.ofString "bag"):Key) = Sum.inr (Str.ofString "tail")):=by decide +kernel
 unfold yr yJ
 simp [e]
theorem ziI (ta ba x:Addr):yr (yJ ta ba) (.inr "bag") (.ref x) = yJ ta x:=by
 have e:¬ ((Sum.inr (Str.ofString "tail"):Key) = Sum.inr (Str.ofString "bag")):=by decide +kernel
 unfold yr yJ
 simp [e]
theorem zhd (ta ba:Addr):zL (yJ ta ba) (.inr "tail") = some (.ref ta):=by
 unfold zL yJ
 simp
theorem zhe (ta ba:Addr):zL (yJ ta ba) (.inr "bag") = some (.ref ba):=by
 have e:¬ ((Sum.inr (Str.ofString "tail"):Key) = Sum.inr (Str.ofString "bag")):=by decide +kernel
 unfold zL yJ
 simp [e]
structure FI (H H':Hp) (lp lt ll de:Addr) (S:FS):Prop where
 sm:zm H H'
 hp:vM H' lp S.P
 ht:vM H' lt S.G
 hl:H' ll = some (.lst (S.L.map V.str))
 he:∃ ta ba,H' de = some (.dK (yJ ta ba))/\ta ≠ lp/\ta ≠ lt/\ta ≠ ll/\ba ≠ lp/\ba ≠ lt/\ba ≠ ll/\vM H' ta S.T/\vM H' ba S.B
 n1:lp ≠ lt
 n2:lp ≠ ll
 n3:lt ≠ ll
 m1:H lp = none
 m2:H lt = none
 m3:H ll = none
 m4:H de = none
section
variable {H H' H'':Hp} {lp lt ll de u:Addr} {S:FS} {r:Rw} {z:Str} {b:Bool}
theorem FI.same (h:FI H H' lp lt ll de S) (s:zm H' H''):FI H H'' lp lt ll de S:=by
 obtain ⟨ta,ba,e1,e2,e3,e4,e5,e6,e7,e8,e9⟩:=h.he
 exact ⟨h.sm.trans s,h.hp.same s,h.ht.same s,s _ _ h.hl,⟨ta,ba,s _ _ e1,e2,e3,e4,e5,e6,e7,e8.same s,e9.same s⟩,h.n1,h.n2,h.n3,h.m1,h.m2,h.m3,h.m4⟩
theorem FI.smU (h:FI H H' lp lt ll de S) {l:Addr} (hl:H l = none) {o:HO}:zm H (upd H' l o):=fun b u e=>by rw [zi (zf e hl)]; exact h.sm _ _ e
theorem FI.addL (h:FI H H' lp lt ll de S):FI H (upd H' ll (.lst (S.L.map V.str ++ [.str z]))) lp lt ll de { S with L:=S.L ++ [z] }:=by
 have hD:∀ vs,H' ll ≠ some (.tup vs):=fun vs e=>by rw [h.hl] at e; cases e
 obtain ⟨ta,ba,e1,e2,e3,e4,e5,e6,e7,e8,e9⟩:=h.he
 have nd:de ≠ ll:=fun e=>by rw [e,h.hl] at e1; cases e1
 exact ⟨h.smU h.m3,h.hp.keep h.n2 hD,h.ht.keep h.n3 hD,by rw [za,List.map_append]; rfl,⟨ta,ba,by rw [zi nd]; exact e1,e2,e3,e4,e5,e6,e7,e8.keep e4 hD,e9.keep e7 hD⟩,h.n1,h.n2,h.n3,h.m1,h.m2,h.m3,h.m4⟩
theorem FI.addP {us:List Addr} (h:FI H H' lp lt ll de S) (h1:H' lp = some (.lst (us.map V.ref))) (h2:Paired (TAt H') us S.P) (hu:TAt H' u r):FI H (upd H' lp (.lst (us.map V.ref ++ [.ref u]))) lp lt ll de { S with P:=S.P ++ [r] }:=by
 have hD:∀ vs,H' lp ≠ some (.tup vs):=fun vs e=>by rw [h1] at e; cases e
 obtain ⟨ta,ba,e1,e2,e3,e4,e5,e6,e7,e8,e9⟩:=h.he
 have nd:de ≠ lp:=fun e=>by rw [e,h1] at e1; cases e1
 exact ⟨h.smU h.m1,.snoc h1 h2 hu,h.ht.keep h.n1.symm hD,by rw [zi h.n2.symm]; exact h.hl,⟨ta,ba,by rw [zi nd]; exact e1,e2,e3,e4,e5,e6,e7,e8.keep e2 hD,e9.keep e5 hD⟩,h.n1,h.n2,h.n3,h.m1,h.m2,h.m3,h.m4⟩
theorem FI.addG {us:List Addr} (h:FI H H' lp lt ll de S) (h1:H' lt = some (.lst (us.map V.ref))) (h2:Paired (TAt H') us S.G) (hu:TAt H' u r):FI H (upd H' lt (.lst (us.map V.ref ++ [.ref u]))) lp lt ll de { S with G:=S.G ++ [r] }:=by
 have hD:∀ vs,H' lt ≠ some (.tup vs):=fun vs e=>by rw [h1] at e; cases e
 obtain ⟨ta,ba,e1,e2,e3,e4,e5,e6,e7,e8,e9⟩:=h.he
 have nd:de ≠ lt:=fun e=>by rw [e,h1] at e1; cases e1
 exact ⟨h.smU h.m2,h.hp.keep h.n1 hD,.snoc h1 h2 hu,by rw [zi h.n3.symm]; exact h.hl,⟨ta,ba,by rw [zi nd]; exact e1,e2,e3,e4,e5,e6,e7,e8.keep e3 hD,e9.keep e6 hD⟩,h.n1,h.n2,h.n3,h.m1,h.m2,h.m3,h.m4⟩
theorem FI.set {S':FS} {ta' ba':Addr} (h:FI H H' lp lt ll de S) (eP:S'.P = S.P) (eG:S'.G = S.G) (eL:S'.L = S.L) (n:ta' ≠ lp/\ta' ≠ lt/\ta' ≠ ll/\ba' ≠ lp/\ba' ≠ lt/\ba' ≠ ll) (hT:vM H' ta' S'.T) (hB:vM H' ba' S'.B):FI H (upd H' de (.dK (yJ ta' ba'))) lp lt ll de S':=by
 obtain ⟨ta,ba,e1,e2,e3,e4,e5,e6,e7,e8,e9⟩:=h.he
 have hD:∀ vs,H' de ≠ some (.tup vs):=fun vs e=>by rw [e1] at e; cases e
 have nl:∀ {l:Addr} {xs:List V},H' l = some (.lst xs)->l ≠ de:=fun e q=>by rw [q,e1] at e; cases e
 obtain ⟨us1,p1,_⟩:=h.hp
 obtain ⟨us2,p2,_⟩:=h.ht
 obtain ⟨us3,p3,_⟩:=id hT
 obtain ⟨us4,p4,_⟩:=id hB
 refine ⟨h.smU h.m4,?_,?_,?_,⟨ta',ba',za,n.1,n.2.1,n.2.2.1,n.2.2.2.1,n.2.2.2.2.1,n.2.2.2.2.2,hT.keep (nl p3) hD,hB.keep (nl p4) hD⟩,h.n1,h.n2,h.n3,h.m1,h.m2,h.m3,h.m4⟩
 ·rw [eP]; exact h.hp.keep (nl p1) hD
 ·rw [eG]; exact h.ht.keep (nl p2) hD
 ·rw [eL,zi (nl h.hl)]; exact h.hl
end
end K25
namespace L2
open PySem PySem.Spec PyProof.Rows
theorem zdo {n:Nat} (h:n<=1000):n<=sizeLine:=Nat.le_of_lt (zz h)
theorem vG {α : Type} {ys:List α} {i:Nat} {y : α} (keep : α->Bool) (hy:ys[i]? = some y):(ys.take (i + 1)).filter keep = (ys.take i).filter keep ++ (if keep y = true then [y] else []):=by
 have hi:i < ys.length:=(List.getElem?_eq_some_iff.mp hy).1
 have e:ys[i] = y:=(List.getElem?_eq_some_iff.mp hy).2
 rw [List.take_succ_eq_append_getElem hi,List.filter_append,e,List.filter_cons]
 rfl
theorem zdy {α : Type} {ys:List α} {i:Nat} (keep : α->Bool):((ys.take i).filter keep).length<=i:=by
 have:=List.length_filter_le keep (ys.take i)
 rw [List.length_take] at this
 omega
theorem j3 {α : Type} {K:Frag} {a:Addr} {xs:List V} {caps:List (Option Nat)} {g:TG} {tt:TT} {te:TE} {σ : L2.St} {H1:Hp} {Q:VK} {D:Addr} (ys:List α) (keep : α->Bool) (out : α->V) (hD:H1 D = none) (ha:SqL K H1 a xs) (hl:xs.length = ys.length) (hn:xs.length<=1000)
  (hs:∀ (i:Nat) (x:V) (y : α) (H:Hp) (N:VK) (S:Hp->Prop),xs[i]? = some x->ys[i]? = some y->zm H1 H->(∀ H',zm H H'->keep y = true->N (out y) H')->(∀ H',zm H H'->keep y = false->S H')->g x (yX caps σ) H fun σ2 H2=>tt σ2 H2 fun ok H3=>(ok = true->te σ2 H3 N)/\(ok = false->S H3))
  (hd:∀ H,zm H1 H->H D = some (.lst ((ys.filter keep).map out))->Q (.ref D) H):LCr (Itl K a) caps g tt te σ H1 Q D:=by
 refine uu (K:=K) (xs:=xs) (fun i zs H'=>zm H1 H'/\H' D = some (.lst zs)/\zs = ((ys.take i).filter keep).map out) ⟨zc hD _,za,rfl⟩ (fun i zs H' h=>h.1.seq ha) ?_ ?_
 ·rintro i x zs H' hlt hx ⟨sH,hDy,ez⟩
  obtain ⟨y,hy⟩:∃ y,ys[i]? = some y:=⟨_,List.getElem?_eq_getElem (by omega)⟩
  refine hs i x y H' _ _ hx hy sH (fun H2 s2 hk=>?_) (fun H2 s2 hk=>?_)
  ·refine lcN.mk hlt (zdo hn) (s2 _ _ hDy) (by rw [ez,List.length_map]; exact zdy _) ⟨fun b' u e=>?_,za,?_⟩
   ·rw [zi (zf e hD)]
    exact s2 _ _ (sH b' u e)
   ·rw [ez,vG keep hy,if_pos hk,List.map_append]
    rfl
  ·refine lcS.mk hlt ⟨sH.trans s2,s2 _ _ hDy,?_⟩
   rw [ez,vG keep hy,if_neg (by rw [hk]; exact Bool.false_ne_true),List.append_nil]
 ·rintro zs H2 ⟨s2,hDy,ez⟩
  rw [List.take_of_length_le (by omega)] at ez
  rw [ez] at hDy
  exact hd H2 s2 hDy
theorem jB {α : Type} {K:Frag} {a:Addr} {xs:List V} {caps:List (Option Nat)} {g:TG} {tt:TT} {te:TE} {σ : L2.St} {H1:Hp} {Q:VK} {D:Addr} (ys:List α) (keep : α->Bool) (out : α->V) (hD:H1 D = none) (ha:SqL K H1 a xs) (hl:xs.length = ys.length) (hn:xs.length<=1000)
  (hs:∀ (i:Nat) (x:V) (y : α) (p:Addr) (H:Hp) (N:VK) (S:Hp->Prop),xs[i]? = some x->ys[i]? = some y->H p = none->zm H1 H->(∀ H',zm H H'->keep y = true->N (out y) H')->(∀ H',zm H H'->keep y = false->S H')->g (.ref p) (yX caps σ) (upd H p (.tup [.int i,x])) fun σ2 H2=>tt σ2 H2 fun ok H3=>(ok = true->te σ2 H3 N)/\(ok = false->S H3))
  (hd:∀ H,zm H1 H->H D = some (.lst ((ys.filter keep).map out))->Q (.ref D) H):LCr (Ite K a) caps g tt te σ H1 Q D:=by
 refine zaP (K:=K) (xs:=xs) (fun i zs H'=>zm H1 H'/\H' D = some (.lst zs)/\zs = ((ys.take i).filter keep).map out) ⟨zc hD _,za,rfl⟩ (fun i zs H' h=>h.1.seq ha) ?_ ?_
 ·rintro i x p zs H' hlt hx ⟨sH,hDy,ez⟩ hp
  obtain ⟨y,hy⟩:∃ y,ys[i]? = some y:=⟨_,List.getElem?_eq_getElem (by omega)⟩
  refine hs i x y p H' _ _ hx hy hp sH (fun H2 s2 hk=>?_) (fun H2 s2 hk=>?_)
  ·refine lcN.mk hlt (zdo hn) (s2 _ _ hDy) (by rw [ez,List.length_map]; exact zdy _) ⟨fun b' u e=>?_,za,?_⟩
   ·rw [zi (zf e hD)]
    exact s2 _ _ (sH b' u e)
   ·rw [ez,vG keep hy,if_pos hk,List.map_append]
    rfl
  ·refine lcS.mk hlt ⟨sH.trans s2,s2 _ _ hDy,?_⟩
   rw [ez,vG keep hy,if_neg (by rw [hk]; exact Bool.false_ne_true),List.append_nil]
 ·rintro zs H2 ⟨s2,hDy,ez⟩
  rw [List.take_of_length_le (by omega)] at ez
  rw [ez] at hDy
  exact hd H2 s2 hDy
end L2
namespace K25
open PySem L2 PyProof.Rows
structure js (mg:Str->Option Value):Prop where
 len:mg "len" = none
 range:mg "range" = none
 min:mg "min" = none
 max:mg "max" = none
 en:mg "enumerate" = none
 list:mg "list" = none
 isi:mg "isinstance" = none
 bool:mg "bool" = none
 int:mg "int" = none
theorem wl {z:Str}:∀ {zs:List Str},inV (.str z) (zs.map V.str) = decide (z ∈ zs)
 | []=>by simp [inV]
 | y :: ys=>by
  have ih:=wl (z:=z) (zs:=ys)
  show (eqV (.str y) (.str z) || inV (.str z) (ys.map V.str)) = _
  rw [ih]
  have:eqV (.str y) (.str z) = decide (z = y):=by
   show (y == z) = _
   rw [Bool.eq_iff_iff,beq_iff_eq,decide_eq_true_eq]
   exact ⟨Eq.symm,Eq.symm⟩
  rw [this]
  simp
theorem xT:∀ {zs:List Str},(zs.map V.str).all xu = true
 | []=>rfl
 | _ :: ys=>by
  show (true && (ys.map V.str).all xu) = true
  rw [xT]
  rfl
def xH (c:Int):List Str:=(List.range 26).map (yU c)
theorem ze3 {c:Int} {i:Nat} {z:Str} (h:(xH c)[i]? = some z):i < 26/\z = yU c i:=by
 unfold xH at h
 rw [List.getElem?_map] at h
 by_cases hi:i < 26
 ·rw [List.getElem?_range hi] at h
  exact ⟨hi,(Option.some.inj h).symm⟩
 ·rw [List.getElem?_eq_none (by rw [List.length_range]; omega)] at h
  cases h
theorem zdZ {c:Int} {i:Nat} (h:i < 26):(xH c)[i]? = some (yU c i):=by
 unfold xH
 rw [List.getElem?_map,List.getElem?_range h]
 rfl
theorem vA (c:Int):(xH c).length = 26:=by unfold xH; rw [List.length_map,List.length_range]
theorem zck {c:Int} {z:Str} (h:z ∈ xH c):xh z = true:=by
 obtain ⟨k,_,rfl⟩:=List.mem_map.mp h
 exact qV c k
theorem ze2 (c:Int):(xH c).Nodup:=by
 unfold xH
 refine List.pairwise_map.mpr (List.Pairwise.imp_of_mem ?_ List.nodup_range)
 intro a b ha hb ne e
 exact ne (ze1 (List.mem_range.mp ha) (List.mem_range.mp hb) e)
def kd8 (n:Nat):Nat:=[1,0,1,3,3,2,4,1].getD n 0
theorem ziy (n:Nat):kd8 n < 5:=by
 have h:∀ n,n < 8->kd8 n < 5:=by decide
 by_cases hn:n < 8
 ·exact h n hn
 ·unfold kd8
  rw [List.getD_eq_getElem?_getD,List.getElem?_eq_none (by simp; omega)]
  exact Nat.succ_pos _
theorem ziz:∀ n,n < 8->atI [V.str "both",.str "seat",.str "both",.str "tag",.str "tag",.str "tail",.str "bag",.str "both"] ((n:Nat):Int) = some (.str (kw (kd8 n))):=by decide +kernel
theorem zcs (ta ba:Addr):vX [] (yJ ta ba) = yJ ta ba:=by
 have e:¬ ((Sum.inr (Str.ofString "tail"):Key) = Sum.inr (Str.ofString "bag")):=by decide +kernel
 unfold vX yJ
 simp only [List.foldl_cons,List.foldl_nil]
 unfold yr
 simp [e]
theorem TAt.same {H H':Hp} {u:Addr} {r:Rw} (h:TAt H u r) (s:zm H H'):TAt H' u r:=s _ _ h
def zcd (K:Frag):Sp:=fun vs H Q _=>∃ (a pa:Addr) (ns:List Int) (i most:Nat) (c:Int),vs = [.ref a,.int (i:Nat),.ref pa,.int (most:Nat)]/\SqL K H a (ns.map V.int)/\ns.length<=63/\3<=most/\most<=24/\H pa = some (.lst ((xH c).map V.str))/\
 ∀ (t la lb:Addr) (us:List Addr) (rows:List Rw) (bars:List Str) (H':Hp),zm H H'->H' t = some (.tup [.ref la,.ref lb])->H' la = some (.lst (us.map V.ref))->Paired (TAt H') us rows->H' lb = some (.lst (bars.map V.str))->yP rows bars->Q (.ref t) H'
section
variable {P:Program} {w:World} {K:Frag} {mg:Str->Option Value} {base:Heap} {f:Addr} {fd:FuncData}
theorem zjr:([Str.ofString "_law_k",Str.ofString "_law_name",Str.ofString "_law_more",Str.ofString "_law_told"]:List Str).Nodup:=by decide +kernel
theorem xE:zu ["_law_script","_law_at","_law_pool_here","_law_most","_law_places","_law_tags","_law_ends","_law_told","_law_more","_law_k","_law_cell_here","_law_sort","_law_name","_law_bars"] ["_law_script","_law_at","_law_pool_here","_law_most"] (ze qO):=⟨rfl,rfl,rfl,by decide +kernel,rfl,by decide +kernel,by decide +kernel⟩
theorem zg0 {g1 g2:Addr} {d1 d2:FuncData} (F:Fun K "_law_form" "_law_form" qO f fd) (U:js mg) (cC:zl P w K mg base 1 "_law_cell" g1 d1 ["_law_script","_law_at"] (zaC K)) (cM:zl P w K mg base 1 "_law_mix" g2 d2 ["_law_cell_here","_law_k"] qB):zC P w K mg base CX0 2 f fd ["_law_script","_law_at","_law_pool_here","_law_most"] (zcd K):=by
 refine F.ok xE (fun vs H Q E h=>?_) (fun cdv A outer s H vs Q E hr h=>?_)
 ·obtain ⟨a,pa,ns,i,most,c,rfl,_⟩:=h
  rfl
 obtain ⟨a,pa,ns,at0,most,c,rfl,hS,h63,m3,m24,hpa,q⟩:=h
 have hr1:ya 1 _:=hr
 have hu1:=zbO hr
 refine ⟨_,zd (zv (i:=4) xE.nd rfl (Or.inl rfl) (zM zb))
   (zd (zv (i:=5) xE.nd rfl (Or.inl rfl) (zM zb))
   (zd (zv (i:=6) xE.nd rfl (Or.inl rfl) (zgL (zbo zq (zM zb) (zbo zq (zM zb) zgF)) rfl rfl (by simp) (by decide)))
   (zd (zv (i:=7) xE.nd rfl (Or.inr rfl) (zM zb))
   (zd (zv (i:=8) xE.nd rfl (Or.inr rfl) (cF cC hr1 (ac (pv 0) (ac (zr yo (pv 1) zg) zb))))
   (zd (yE PassesOwn.never rfl (yu rfl U.range (ac (zr z5 (cF cC hr1 (ac (pv 0) (ac (pv 1) zb))) (zr yo (pv 3) zg)) zb)) (zk (i:=9) xE.nd rfl (Or.inl rfl))
   (zd (zv (i:=10) xE.nd rfl (Or.inl rfl) (cF cM hr1 (ac (zr yo (pv 8) (zr wj (pv 9) (cF cC hr1 (ac (pv 0) (ac (zr yo (pv 1) zg) zb))))) (ac (pv 9) zb))))
   (zd (zv (i:=11) xE.nd rfl (Or.inl rfl) (zI yf (zM (ac zq (ac zq (ac zq (ac zq (ac zq (ac zq (ac zq (ac zq zb))))))))) (zr z5 (pv 10) zg) (fun _ _=>rfl)))
   (zd (zv (i:=12) xE.nd rfl (Or.inl rfl) (zI yf (pv 2) (zr z5 (zr xq (pv 10) zg) (cB (zai rfl) U.min boot_min (ac zg (ac (zr wK (pv 3) zg) zb)))) (fun _ _=>rfl)))
   (zd (zJ (PW.pt (xw (zo y1 (pv 11) (zM (ac zq (ac zq zb))) (by with_unfolding_all rfl)) (yZ (zo y1 (pv 12) (pv 7) (by with_unfolding_all rfl))))) (zh (zv (i:=11) xE.nd rfl (Or.inl rfl) zq)) zA)
   (zd (zJ (zo y1 (pv 11) (zM (ac zq (ac zq zb))) (by with_unfolding_all rfl)) (zh (zE (yz PySem.F.plainAttrs_list PySem.F.slot_list_append PySem.F.type_list_append zG (pv 7) (ac (pv 12) zb)))) zA)
   (zh (zJ (zo ym (pv 11) zq (zx _)) (zh (zE (yz PySem.F.plainAttrs_list PySem.F.slot_list_append PySem.F.type_list_append zG (pv 5) (ac (zH (ac zq (ac (pv 12) (ac (xb ym (zr z5 (zr xq (pv 10) zg) zg) zg (zx _)) zb)))) zb)))) (zh (zJ (zo y1 (pv 11) (zM (ac zq (ac zq zb))) (by with_unfolding_all rfl)) (zh (zde hu1 (pv 6) (pv 11) (zM (ac (zH (ac (pv 11) (ac (pv 12) zb))) zb)) rfl)) (zh (zE (yz PySem.F.plainAttrs_list PySem.F.slot_list_append PySem.F.type_list_append zG (pv 4) (ac (zH (ac (pv 11) (ac (pv 12) (ac (xb ym (zr z5 (zr xq (pv 10) zg) zg) zg (zx _)) zb)))) zb))))))))))))))
   (zd (jQ (i:=13) ["_law_told","_law_more"] ["_law_k","_law_name","_law_more","_law_told"] [none,none,some 8,some 7] xE.nd rfl (Or.inl rfl) rfl ⟨rfl,rfl,rfl,rfl⟩ (xa rfl U.en (ac (pv 2) zb)) (yw (K:=K) (n:=2) 0 1) rfl rfl rfl
   (fun pins fp s H C=>⟨yc rfl (zt (zk (i:=0) zjr rfl (Or.inl rfl) (.inr rfl)) (zt (zk (i:=1) zjr rfl (Or.inl rfl) (.inr rfl)) zV)),y0 (PW.pt (xw (zo (r:=rIn K true) yI (pv 1) (pv 3) (by with_unfolding_all rfl)) (yZ (zo ym (zr z5 (cF cM hr1 (ac (pv 2) (ac (zr yo (pv 0) zg) zb))) zg) zg (zx _))))),pv 1⟩))
   (zh (zw (zH (ac (zr y8 (zr y8 (zr y8 (pv 4) (jy hu1 (pv 6) zq (fun _ _=>rfl))) (pv 5)) (jy hu1 (pv 6) zq (fun _ _=>rfl))) (ac (pv 13) zb))))))))))),?_⟩
 refine ⟨zz0,fun lp hlp=>?_⟩
 have s1:=zc hlp (.lst [])
 have g1:upd H lp (.lst []) lp = some (.lst []):=za
 show xY _ _ _ _ (upd H lp (.lst []))
 generalize upd H lp (.lst []) = H1 at s1 g1 |-
 refine ⟨zz0,fun lt hlt=>?_⟩
 have s2:=zc hlt (.lst [])
 have g2:upd H1 lt (.lst []) lt = some (.lst []):=za
 show xY _ _ _ _ (upd H1 lt (.lst []))
 generalize upd H1 lt (.lst []) = H2 at s2 g2 |-
 intro de hde
 have s3:=zc hde (.dK [])
 have g3:upd H2 de (.dK []) de = some (.dK []):=za
 generalize upd H2 de (.dK []) = H3 at s3 g3 |-
 refine ⟨zz0,fun ta hta=>?_⟩
 have s4:=zc hta (.lst [])
 have g4:upd H3 ta (.lst []) ta = some (.lst []):=za
 generalize upd H3 ta (.lst []) = H4 at s4 g4 |-
 refine ⟨zz0,fun ba hba=>?_⟩
 have s5:=zc hba (.lst [])
 have g5:upd H4 ba (.lst []) ba = some (.lst []):=za
 generalize upd H4 ba (.lst []) = H5 at s5 g5 |-
 refine ⟨s5 _ _ (s4 _ _ g3),yJ ta ba,rfl,(by show 2<=15; decide),?_⟩
 rw [zcs]
 have s5H:zm H H5:=s1.trans (s2.trans (s3.trans (s4.trans s5)))
 have v1:=s5 _ _ (s4 _ _ (s3 _ _ (s2 _ _ g1)))
 have v2:=s5 _ _ (s4 _ _ (s3 _ _ g2))
 have v4:=s5 _ _ g4
 have v3:=s5 _ _ (s4 _ _ g3)
 have hdeH:H de = none:=(s1.trans s2).free hde
 have nd:∀ {l:Addr} {xs:List V},H5 l = some (.lst xs)->l ≠ de:=fun e z=>by rw [z,v3] at e; cases e
 have s6:∀ b u,H b = some u->upd H5 de (.dK (yJ ta ba)) b = some u:=fun b u e=>by rw [zi (zf e hdeH)]; exact s5H _ _ e
 have w1:upd H5 de (.dK (yJ ta ba)) lp = some (.lst []):=by rw [zi (nd v1)]; exact v1
 have w2:upd H5 de (.dK (yJ ta ba)) lt = some (.lst []):=by rw [zi (nd v2)]; exact v2
 have w4:upd H5 de (.dK (yJ ta ba)) ta = some (.lst []):=by rw [zi (nd v4)]; exact v4
 have w5:upd H5 de (.dK (yJ ta ba)) ba = some (.lst []):=by rw [zi (nd g5)]; exact g5
 have w3:upd H5 de (.dK (yJ ta ba)) de = some (.dK (yJ ta ba)):=za
 show xY _ _ _ _ (upd H5 de (.dK (yJ ta ba)))
 generalize upd H5 de (.dK (yJ ta ba)) = H6 at s6 w1 w2 w3 w4 w5 |-
 refine ⟨zz0,fun ll hll=>?_⟩
 have s7:=zc hll (.lst [])
 have g7:upd H6 ll (.lst []) ll = some (.lst []):=za
 show xY _ _ _ _ (upd H6 ll (.lst []))
 generalize upd H6 ll (.lst []) = H7 at s7 g7 |-
 have I0:FI H H7 lp lt ll de ⟨[],[],[],[],[]⟩:=⟨fun b u e=>s7 _ _ (s6 b u e),⟨[],s7 _ _ w1,.nil⟩,⟨[],s7 _ _ w2,.nil⟩,g7,
  ⟨ta,ba,s7 _ _ w3,(zf (s3 _ _ (s2 _ _ g1)) hta).symm,(zf (s3 _ _ g2) hta).symm,zf w4 hll,(zf (s4 _ _ (s3 _ _ (s2 _ _ g1))) hba).symm,(zf (s4 _ _ (s3 _ _ g2)) hba).symm,zf w5 hll,⟨[],s7 _ _ w4,.nil⟩,⟨[],s7 _ _ w5,.nil⟩⟩,
  zf g1 hlt,zf w1 hll,zf w2 hll,hlp,s1.free hlt,zm.free (H':=H6) (fun b u e=>s6 b u e) hll,hdeH⟩
 refine ⟨_,rfl,_,rfl,_,_,rfl,rfl,a,ns,at0 + 1,rfl,I0.sm.seq hS,h63,fun more H8 s8 _=>?_⟩
 have I8:=I0.same s8
 refine ⟨_,rfl,_,rfl,a,ns,at0,rfl,I8.sm.seq hS,h63,fun c0 H9 s9 _=>?_⟩
 have I9:=I8.same s9
 have hm1:(0:Int) < (most:Int) + 1:=by omega
 have b0 : 0<=c0 % ((most:Int) + 1):=Int.emod_nonneg _ (by omega)
 have b1:c0 % ((most:Int) + 1) < (most:Int) + 1:=Int.emod_lt_of_pos _ hm1
 refine ⟨_,rfl,_,_,rfl,rfl,_,_,rfl,rfl,hm1,c0 % ((most:Int) + 1),rfl,by omega,by omega,?_⟩
 clear I0 I8 s8 s9
 generalize hn:(c0 % ((most:Int) + 1)).toNat = n
 have hn24:n<=most:=by omega
 refine xj (n:=n) (fun i σ H'=>∃ (S:FS) (v9 v10 v11 v12 v13:Option V),σ = [some (.ref a),some (.int (at0:Nat)),some (.ref pa),some (.int (most:Nat)),some (.ref lp),some (.ref lt),some (.ref de),some (.ref ll),some (.int more),v9,v10,v11,v12,v13]/\FI H H' lp lt ll de S/\FM i S)
  ⟨⟨[],[],[],[],[]⟩,_,_,_,_,_,rfl,I9,FM.zero⟩ ?_ ?_
 ·rintro i σ H1 hi ⟨S,v9,v10,v11,v12,v13,rfl,I1,M1⟩
  have hi':i < n:=hi
  refine ⟨_,rfl,_,rfl,_,rfl,_,rfl,_,_,rfl,rfl,a,ns,at0 + 2,rfl,I1.sm.seq hS,h63,fun c2 H2 s2 _=>?_⟩
  have I2:=I1.same s2
  refine ⟨_,_,rfl,rfl,.inl ⟨by omega,by omega⟩,_,_,rfl,rfl,_,rfl,_,_,rfl,?_⟩
  generalize xQ (more + ((0:Int) + (i:Int)) * c2) ((0:Int) + (i:Int)) = mm
  refine ⟨(by show 8<=sizeLine; decide),fun l8 hl8=>?_⟩
  have s3:=zc hl8 (.lst [.str "both",.str "seat",.str "both",.str "tag",.str "tag",.str "tail",.str "bag",.str "both"])
  have g3:upd H2 l8 (.lst [.str "both",.str "seat",.str "both",.str "tag",.str "tag",.str "tail",.str "bag",.str "both"]) l8 = some (.lst [.str "both",.str "seat",.str "both",.str "tag",.str "tag",.str "tail",.str "bag",.str "both"]):=za
  generalize upd H2 l8 (.lst [.str "both",.str "seat",.str "both",.str "tag",.str "tag",.str "tail",.str "bag",.str "both"]) = H3 at s3 g3 |-
  have I3:=I2.same s3
  have e0 : 0<=mm % 8:=Int.emod_nonneg _ (by decide)
  have e1:mm % 8 < 8:=Int.emod_lt_of_pos _ (by decide)
  obtain ⟨d,hd⟩:=Int.eq_ofNat_of_zero_le e0
  have hk0:=ziy d
  refine ⟨_,rfl,_,_,rfl,rfl,zp8,l8,_,_,.str (kw (kd8 d)),rfl,rfl,SqL.of g3,(by rw [hd]; exact ziz d (by omega)),?_⟩
  obtain ⟨dd,hdd,hd0,hd24⟩:∃ dd:Int,dd = (if (most:Int) - 2 < 24 then (most:Int) - 2 else 24)/\0 < dd/\dd<=24:=⟨_,rfl,by split <;> omega,by split <;> omega⟩
  have f0 : 0<=mm / 8 % dd:=Int.emod_nonneg _ (by omega)
  have f1:mm / 8 % dd < dd:=Int.emod_lt_of_pos _ hd0
  obtain ⟨j,hj⟩:=Int.eq_ofNat_of_zero_le f0
  have hj26:j < 26:=by omega
  have hpa3:=I3.sm _ _ hpa
  refine ⟨_,rfl,_,rfl,_,_,rfl,rfl,⟨by decide,by decide⟩,_,rfl,_,_,rfl,rfl,_,_,rfl,_,_,rfl,rfl,(by rw [<- hdd]; exact hd0),pa,_,_,.str (yU c j),rfl,rfl,SqL.of hpa3,(by rw [<- hdd,hj]; exact y4 (by rw [List.getElem?_map,zdZ hj26]; rfl)),?_⟩
  have hz:=qV c j
  generalize yU c j = z at hz |-
  generalize kd8 d = k0 at hk0 |-
  clear e0 e1 hd f0 f1 hj hd0 hd24 hdd hj26 s2 s3 g3 hl8 I1 I2
  try dsimp only
  refine yC (fun σ' H'=>∃ k:Nat,k < 5/\σ' = [some (.ref a),some (.int (at0:Nat)),some (.ref pa),some (.int (most:Nat)),some (.ref lp),some (.ref lt),some (.ref de),some (.ref ll),some (.int more),some (.int ((0:Int) + (i:Int))),some (.int mm),some (.str (kw k)),some (.str z),v13]/\FI H H' lp lt ll de S/\(z0 k = true->z ∉ S.L)) ?_ (fun key=>?_)
  rotate_left
  ·refine ⟨_,rfl,zz2,fun l hl=>?_⟩
   have s4:=zc hl (.lst [.str "both",.str "tag"])
   refine ⟨l,_,rfl,.inl (SqL.of za),rfl,rfl,_,rfl,?_⟩
   generalize upd H3 l (.lst [.str "both",.str "tag"]) = H4 at s4 |-
   have I4:=I3.same s4
   cases en:z0 k0 with
   | false=>
    refine j9 (show inV (.str (kw k0)) [.str "both",.str "tag"] = false from (qc k0 hk0).trans en) ?_
    refine y9 ?_
    exact key _ _ ⟨k0,hk0,rfl,I4,fun e=>by rw [en] at e; cases e⟩
   | true=>
    refine qv (show inV (.str (kw k0)) [.str "both",.str "tag"] = true from (qc k0 hk0).trans en) ?_
    refine ⟨_,rfl,_,rfl,ll,_,rfl,.inl (SqL.of I4.hl),rfl,xT,_,rfl,?_⟩
    by_cases hz1:z ∈ S.L
    ·refine qv (wl.trans (decide_eq_true hz1)) ?_
     exact key _ _ ⟨0,by decide,rfl,I4,fun e=>by cases e⟩
    ·refine j9 (wl.trans (decide_eq_false hz1)) ?_
     exact key _ _ ⟨k0,hk0,rfl,I4,fun _=>hz1⟩
  clear I3
  rintro σ4 H4 ⟨k,hk,rfl,I4,hn4⟩
  try dsimp only
  refine yC (fun σ' H'=>σ' = [some (.ref a),some (.int (at0:Nat)),some (.ref pa),some (.int (most:Nat)),some (.ref lp),some (.ref lt),some (.ref de),some (.ref ll),some (.int more),some (.int ((0:Int) + (i:Int))),some (.int mm),some (.str (kw k)),some (.str z),v13]/\FI H H' lp lt ll de (if z0 k = true then { S with L:=S.L ++ [z] } else S)) ?_ (fun key=>?_)
  rotate_left
  ·refine ⟨_,rfl,zz2,fun l hl=>?_⟩
   have s5:=zc hl (.lst [.str "both",.str "tag"])
   refine ⟨l,_,rfl,.inl (SqL.of za),rfl,rfl,_,rfl,?_⟩
   generalize upd H4 l (.lst [.str "both",.str "tag"]) = H5 at s5 |-
   have I5:=I4.same s5
   cases en:z0 k with
   | false=>
    refine j9 (show inV (.str (kw k)) [.str "both",.str "tag"] = false from (qc k hk).trans en) ?_
    exact key _ _ ⟨rfl,by rw [en,if_neg Bool.false_ne_true]; exact I5⟩
   | true=>
    refine qv (show inV (.str (kw k)) [.str "both",.str "tag"] = true from (qc k hk).trans en) ?_
    have lL:=M1.lL
    refine ⟨_,rfl,.inl ⟨rfl,_,SqL.of I5.hl⟩,_,rfl,ll,_,_,rfl,rfl,I5.hl,zz (by rw [List.length_map]; omega),?_⟩
    exact key _ _ ⟨rfl,by rw [en,if_pos rfl]; exact I5.addL⟩
  clear I4
  rintro σ5 H5 ⟨rfl,I5⟩
  have lP:S.P.length<=24:=by have:=M1.ln; omega
  have lG:S.G.length<=24:=by have:=M1.ln; omega
  have nextM:=fun b=>M1.add (b:=b) hk hz hn4
  rcases lt5 hk with rfl | rfl | rfl | rfl | rfl
  ·have I5:FI H H5 lp lt ll de S:=I5
   refine ⟨_,rfl,rfl,_,rfl,?_⟩
   refine dF (by decide +kernel) ?_
   refine ⟨_,rfl,zz2,fun l hl=>?_⟩
   have s6:=zc hl (.lst [.str "tail",.str "bag"])
   refine ⟨l,_,rfl,.inl (SqL.of za),rfl,rfl,_,rfl,?_⟩
   generalize upd H5 l (.lst [.str "tail",.str "bag"]) = H6 at s6 |-
   have I6:=I5.same s6
   refine j9 (by decide +kernel) ?_
   obtain ⟨us,h1,h2⟩:=I6.hp
   have hlu:us.length<=24:=by rw [h2.length]; exact lP
   refine ⟨_,rfl,.inl ⟨rfl,_,SqL.of h1⟩,_,rfl,_,rfl,_,rfl,_,_,rfl,rfl,⟨by decide,by decide⟩,_,_,rfl,rfl,zp2,rfl,zz3,fun u hu=>?_⟩
   generalize decide (V.int (mm / 200 % 2) = V.int 1) = fb
   have s7:=zc hu (.tup [.str "seat",.str z,.bl fb])
   have tu:TAt (upd H6 u (.tup [.str "seat",.str z,.bl fb])) u ⟨0,z,fb⟩:=za
   refine ⟨lp,_,_,rfl,rfl,s7 _ _ h1,zz (by rw [List.length_map]; omega),?_⟩
   exact ⟨S.add 0 z fb,_,_,_,_,_,rfl,(I6.same s7).addP (s7 _ _ h1) (z7 s7 h2) tu,nextM fb⟩
  ·have I5:FI H H5 lp lt ll de { S with L:=S.L ++ [z] }:=I5
   refine ⟨_,rfl,rfl,_,rfl,?_⟩
   refine dF (by decide +kernel) ?_
   refine ⟨_,rfl,zz2,fun l hl=>?_⟩
   have s6:=zc hl (.lst [.str "tail",.str "bag"])
   refine ⟨l,_,rfl,.inl (SqL.of za),rfl,rfl,_,rfl,?_⟩
   generalize upd H5 l (.lst [.str "tail",.str "bag"]) = H6 at s6 |-
   have I6:=I5.same s6
   refine j9 (by decide +kernel) ?_
   obtain ⟨us,h1,h2⟩:=I6.hp
   have hlu:us.length<=24:=by rw [h2.length]; exact lP
   refine ⟨_,rfl,.inl ⟨rfl,_,SqL.of h1⟩,_,rfl,_,rfl,_,rfl,_,_,rfl,rfl,⟨by decide,by decide⟩,_,_,rfl,rfl,zp2,rfl,zz3,fun u hu=>?_⟩
   generalize decide (V.int (mm / 200 % 2) = V.int 1) = fb
   have s7:=zc hu (.tup [.str "both",.str z,.bl fb])
   have tu:TAt (upd H6 u (.tup [.str "both",.str z,.bl fb])) u ⟨1,z,fb⟩:=za
   refine ⟨lp,_,_,rfl,rfl,s7 _ _ h1,zz (by rw [List.length_map]; omega),?_⟩
   exact ⟨S.add 1 z fb,_,_,_,_,_,rfl,(I6.same s7).addP (s7 _ _ h1) (z7 s7 h2) tu,nextM fb⟩
  ·have I5:FI H H5 lp lt ll de S:=I5
   refine ⟨_,rfl,rfl,_,rfl,?_⟩
   refine dF (by decide +kernel) ?_
   refine ⟨_,rfl,zz2,fun l hl=>?_⟩
   have s6:=zc hl (.lst [.str "tail",.str "bag"])
   refine ⟨l,_,rfl,.inl (SqL.of za),rfl,rfl,_,rfl,?_⟩
   generalize upd H5 l (.lst [.str "tail",.str "bag"]) = H6 at s6 |-
   have I6:=I5.same s6
   refine qv (by decide +kernel) ?_
   refine ⟨_,rfl,_,rfl,zz2,fun u hu=>?_⟩
   have s7:=zc hu (.tup [.str "tail",.str z])
   have tu:TAt (upd H6 u (.tup [.str "tail",.str z])) u ⟨2,z,true⟩:=za
   refine ⟨zz1,fun ln hln=>?_⟩
   have s8:=zc hln (.lst [.ref u])
   have I8:=I6.same (s7.trans s8)
   obtain ⟨ta',ba',e1,e2,e3,e4,e5,e6,e7,e8,e9⟩:=I8.he
   obtain ⟨us1,p1,_⟩:=(I6.same s7).hp
   obtain ⟨us2,p2,_⟩:=(I6.same s7).ht
   have p3:=(I6.same s7).hl
   refine ⟨_,rfl,_,rfl,de,_,rfl,zeG.k (k:=Sum.inr "tail") e1 (by show 2 < sizeLine; decide),?_⟩
   have hnew:vM (upd (upd H6 u (.tup [.str "tail",.str z])) ln (.lst [.ref u])) ln [⟨2,z,true⟩]:=⟨[u],za,.cons (tu.same s8) .nil⟩
   rw [ziH]
   exact ⟨S.add 2 z true,_,_,_,_,_,rfl,I8.set (S':=S.add 2 z true) rfl rfl rfl ⟨(zf p1 hln).symm,(zf p2 hln).symm,(zf p3 hln).symm,e5,e6,e7⟩ hnew e9,nextM true⟩
  ·have I5:FI H H5 lp lt ll de { S with L:=S.L ++ [z] }:=I5
   refine ⟨_,rfl,rfl,_,rfl,?_⟩
   refine dT rfl ?_
   have I6:=I5
   have H6:=H5
   obtain ⟨us,h1,h2⟩:=I6.ht
   have hlu:us.length<=24:=by rw [h2.length]; exact lG
   refine ⟨_,rfl,.inl ⟨rfl,_,SqL.of h1⟩,_,rfl,_,rfl,_,_,rfl,rfl,⟨by decide,by decide⟩,_,_,rfl,rfl,zp2,rfl,zz3,fun u hu=>?_⟩
   generalize decide (V.int (mm / 200 % 2) = V.int 1) = fb
   have s7:=zc hu (.tup [.str "tag",.str z,.bl fb])
   have tu:TAt (upd H5 u (.tup [.str "tag",.str z,.bl fb])) u ⟨3,z,fb⟩:=za
   refine ⟨lt,_,_,rfl,rfl,s7 _ _ h1,zz (by rw [List.length_map]; omega),?_⟩
   exact ⟨S.add 3 z fb,_,_,_,_,_,rfl,(I6.same s7).addG (s7 _ _ h1) (z7 s7 h2) tu,nextM fb⟩
  ·have I5:FI H H5 lp lt ll de S:=I5
   refine ⟨_,rfl,rfl,_,rfl,?_⟩
   refine dF (by decide +kernel) ?_
   refine ⟨_,rfl,zz2,fun l hl=>?_⟩
   have s6:=zc hl (.lst [.str "tail",.str "bag"])
   refine ⟨l,_,rfl,.inl (SqL.of za),rfl,rfl,_,rfl,?_⟩
   generalize upd H5 l (.lst [.str "tail",.str "bag"]) = H6 at s6 |-
   have I6:=I5.same s6
   refine qv (by decide +kernel) ?_
   refine ⟨_,rfl,_,rfl,zz2,fun u hu=>?_⟩
   have s7:=zc hu (.tup [.str "bag",.str z])
   have tu:TAt (upd H6 u (.tup [.str "bag",.str z])) u ⟨4,z,true⟩:=za
   refine ⟨zz1,fun ln hln=>?_⟩
   have s8:=zc hln (.lst [.ref u])
   have I8:=I6.same (s7.trans s8)
   obtain ⟨ta',ba',e1,e2,e3,e4,e5,e6,e7,e8,e9⟩:=I8.he
   obtain ⟨us1,p1,_⟩:=(I6.same s7).hp
   obtain ⟨us2,p2,_⟩:=(I6.same s7).ht
   have p3:=(I6.same s7).hl
   refine ⟨_,rfl,_,rfl,de,_,rfl,zeG.k (k:=Sum.inr "bag") e1 (by show 2 < sizeLine; decide),?_⟩
   have hnew:vM (upd (upd H6 u (.tup [.str "bag",.str z])) ln (.lst [.ref u])) ln [⟨4,z,true⟩]:=⟨[u],za,.cons (tu.same s8) .nil⟩
   rw [ziI]
   exact ⟨S.add 4 z true,_,_,_,_,_,rfl,I8.set (S':=S.add 4 z true) rfl rfl rfl ⟨e2,e3,e4,(zf p1 hln).symm,(zf p2 hln).symm,(zf p3 hln).symm⟩ e8 hnew,nextM true⟩
 ·rintro σ H1 ⟨S,v9,v10,v11,v12,v13,rfl,I1,M1⟩
  have hpa1:=I1.sm _ _ hpa
  refine ⟨_,rfl,pa,rfl,⟨_,SqL.of hpa1⟩,fun D hD=>?_⟩
  refine jB (K:=K) (xs:=(xH c).map V.str) ((List.range 26).map fun k=>(k,yU c k)) (fun p=>decide (p.2 ∉ S.L) && decide (xQ more ((p.1:Int) + 30) % 6 = 0)) (fun p=>V.str p.2) hD (SqL.of hpa1) (by rw [List.length_map,vA,List.length_map,List.length_range]) (by rw [List.length_map,vA]; decide) ?_ ?_
  ·rintro k x y p H2 N Sk hx hy hp sH qN qS
   obtain ⟨z,hz,rfl⟩:=strs_at hx
   obtain ⟨hk,rfl⟩:=ze3 hz
   rw [List.getElem?_map,List.getElem?_range hk] at hy
   cases hy
   have sp:=zc hp (.tup [.int (k:Nat),.str (yU c k)])
   refine ⟨p,_,rfl,SqT.of za,rfl,_,_,rfl,_,_,rfl,rfl,?_⟩
   have I3:=(I1.same sH).same sp
   generalize upd H2 p (.tup [.int (k:Nat),.str (yU c k)]) = H3 at sp I3 |-
   refine ⟨_,rfl,_,rfl,ll,_,rfl,.inl (SqL.of I3.hl),rfl,xT,_,rfl,?_⟩
   by_cases hz1:yU c k ∈ S.L
   ·refine j9 (by rw [if_pos rfl,wl,decide_eq_true hz1]; rfl) ?_
    refine ⟨fun e=>Bool.noConfusion e,fun _=>qS _ sp ?_⟩
    show (decide (yU c k ∉ S.L) && _) = false
    rw [decide_eq_false (fun h=>h hz1)]
    rfl
   ·refine qv (by rw [if_pos rfl,wl,decide_eq_false hz1]; rfl) ?_
    refine ⟨_,rfl,_,rfl,_,_,rfl,rfl,_,_,rfl,_,_,rfl,rfl,(by show (0:Int) < 6; decide),rfl,_,rfl,?_⟩
    refine ⟨fun e=>⟨_,rfl,qN _ sp ?_⟩,fun e=>qS _ sp ?_⟩
    ·show (decide (yU c k ∉ S.L) && decide (xQ more ((k:Int) + 30) % 6 = 0)) = true
     rw [decide_eq_true hz1,Bool.true_and]
     exact decide_eq_true (V.int.inj (of_decide_eq_true e))
    ·show (decide (yU c k ∉ S.L) && decide (xQ more ((k:Int) + 30) % 6 = 0)) = false
     rw [decide_eq_true hz1,Bool.true_and]
     exact decide_eq_false fun h=>of_decide_eq_false e (congrArg V.int h)
  ·intro H2 s2 hDv
   obtain ⟨bars,hbars⟩:∃ bars:List Str,bars = ((((List.range 26).map fun k=>(k,yU c k)).filter (fun p=>decide (p.2 ∉ S.L) && decide (xQ more ((p.1:Int) + 30) % 6 = 0))).map (·.2)):=⟨_,rfl⟩
   have hDv:H2 D = some (.lst (bars.map V.str)):=by rw [hDv,hbars,List.map_map]; rfl
   have sub:List.Sublist bars (xH c):=by
    rw [hbars]
    have:=(List.filter_sublist (l:=(List.range 26).map fun k=>(k,yU c k)) (p:=fun p=>decide (p.2 ∉ S.L) && decide (xQ more ((p.1:Int) + 30) % 6 = 0))).map (·.2)
    rw [List.map_map] at this
    exact this
   have lb:bars.length<=60:=by
    have:=sub.length_le
    rw [vA] at this
    omega
   have V1:yP S.rows bars:=M1.valid (by omega) lb (fun z hz=>zck (sub.subset hz)) ((ze2 c).sublist sub) (fun z hz=>by
    rw [hbars] at hz
    obtain ⟨p,hp,rfl⟩:=List.mem_map.mp hz
    have:=(List.mem_filter.mp hp).2
    rw [Bool.and_eq_true] at this
    exact of_decide_eq_true this.1)
   clear hbars
   have I2:=I1.same s2
   obtain ⟨us1,h11,h12⟩:=I2.hp
   obtain ⟨us3,h31,h32⟩:=I2.ht
   obtain ⟨ta',ba',e1,e2,e3,e4,e5,e6,e7,⟨us2,h21,h22⟩,⟨us4,h41,h42⟩⟩:=I2.he
   have lP:=M1.ln
   have l1:us1.length = S.P.length:=h12.length
   have l2:us2.length = S.T.length:=h22.length
   have l3:us3.length = S.G.length:=h32.length
   have l4:us4.length = S.B.length:=h42.length
   refine ⟨_,rfl,_,rfl,de,.ref ta',rfl,.inl ⟨_,.inr "tail",.inl e1,rfl,(zhd ta' ba').symm⟩,lp,ta',_,_,rfl,rfl,h11,h21,z8 (by rw [List.length_map,List.length_map]; omega),fun x1 hx1=>?_⟩
   rw [<- List.map_append]
   have s3:=zc hx1 (.lst ((us1 ++ us2).map V.ref))
   have g3:upd H2 x1 (.lst ((us1 ++ us2).map V.ref)) x1 = some (.lst ((us1 ++ us2).map V.ref)):=za
   generalize upd H2 x1 (.lst ((us1 ++ us2).map V.ref)) = H3 at s3 g3 |-
   refine ⟨_,rfl,x1,lt,_,_,rfl,rfl,g3,s3 _ _ h31,z8 (by rw [List.length_map,List.length_map,List.length_append]; omega),fun x2 hx2=>?_⟩
   rw [<- List.map_append]
   have s4:=zc hx2 (.lst ((us1 ++ us2 ++ us3).map V.ref))
   have g4:upd H3 x2 (.lst ((us1 ++ us2 ++ us3).map V.ref)) x2 = some (.lst ((us1 ++ us2 ++ us3).map V.ref)):=za
   generalize upd H3 x2 (.lst ((us1 ++ us2 ++ us3).map V.ref)) = H4 at s4 g4 |-
   have s24:=s3.trans s4
   refine ⟨_,rfl,de,.ref ba',rfl,.inl ⟨_,.inr "bag",.inl (s24 _ _ e1),rfl,(zhe ta' ba').symm⟩,x2,ba',_,_,rfl,rfl,g4,s24 _ _ h41,z8 (by rw [List.length_map,List.length_map,List.length_append,List.length_append]; omega),fun x3 hx3=>?_⟩
   rw [<- List.map_append]
   have s5:=zc hx3 (.lst ((us1 ++ us2 ++ us3 ++ us4).map V.ref))
   have g5:upd H4 x3 (.lst ((us1 ++ us2 ++ us3 ++ us4).map V.ref)) x3 = some (.lst ((us1 ++ us2 ++ us3 ++ us4).map V.ref)):=za
   generalize upd H4 x3 (.lst ((us1 ++ us2 ++ us3 ++ us4).map V.ref)) = H5 at s5 g5 |-
   have s25:=s24.trans s5
   refine ⟨_,rfl,zz2,fun t ht=>?_⟩
   have s6:=zc ht (.tup [.ref x3,.ref D])
   have s26:=s25.trans s6
   exact q t x3 D _ S.rows bars _ (I2.sm.trans s26) za (s6 _ _ g5) (z7 s26 (yV (yV (yV h12 h22) h32) h42)) (s26 _ _ hDv) V1
end
section
variable {K:Frag} {c:C5}
theorem zis {K:Frag} {a:Addr} {us:List Addr} {rows:List Rw} {caps:List (Option Nat)} {g:TG} {tt:TT} {te:TE} {σ : L2.St} {H1:Hp} {Q:VK} {D:Addr} (R R':Hp->Addr->Rw->Prop)
  (sR:∀ {H H' v r},R H v r->zm H H'->R H' v r) (sR':∀ {H H' v r},R' H v r->zm H H'->R' H' v r) (uR':∀ {H v r D ys o},R' H v r->H D = some (.lst ys)->R' (upd H D o) v r)
  (ha:H1 a = some (.lst (us.map V.ref))) (hu:Paired (R H1) us rows) (hn:rows.length<=500) (hD:H1 D = none)
  (hs:∀ (i:Nat) u r H (Qf:VK) (Qs:Hp->Prop),us[i]? = some u->rows[i]? = some r->zm H1 H->R H u r->(∀ v H',zm H H'->R' H' v r->Qf (.ref v) H')->
   g (.ref u) (yX caps σ) H fun σ2 H2=>tt σ2 H2 fun ok H3=>(ok = true->te σ2 H3 Qf)/\(ok = false->Qs H3))
  (hd:∀ vs H,zm H1 H->H D = some (.lst (vs.map V.ref))->Paired (R' H) vs rows->Q (.ref D) H):LCr (Itl K a) caps g tt te σ H1 Q D:=by
 have hl:us.length = rows.length:=hu.length
 refine uu (K:=K) (xs:=us.map V.ref) (fun i ys H'=>∃ vs,ys = vs.map V.ref/\zm H1 H'/\H' D = some (.lst ys)/\Paired (R' H') vs (rows.take i)) ⟨[],rfl,zc hD _,za,.nil⟩ (fun i ys H' ⟨_,_,h,_⟩=>SqL.of (h _ _ ha)) ?_ ?_
 ·rintro i x ys H' hlt hx ⟨vs,rfl,sH,hDy,fv⟩
  obtain ⟨u,hu',rfl⟩:=xn hx
  obtain ⟨r,hr',tr⟩:=yv hu hu'
  have nl:(vs.map V.ref).length<=i:=by
   rw [List.length_map,fv.length,List.length_take]
   omega
  have hi:i < rows.length:=(List.getElem?_eq_some_iff.mp hr').1
  have er:rows[i] = r:=by rw [List.getElem?_eq_getElem hi] at hr'; exact Option.some.inj hr'
  refine hs i u r H' _ _ hu' hr' sH (sR tr sH) (fun v H2 s2 r2=>?_)
  have s3:zm H1 (upd H2 D (.lst (vs.map V.ref ++ [.ref v]))):=fun b o z=>by
   rw [zi (zf z hD)]
   exact s2 _ _ (sH b o z)
  refine lcN.mk hlt (z8 (by rw [List.length_map,hl]; omega)) (s2 _ _ hDy) nl ⟨vs ++ [v],by rw [List.map_append]; rfl,s3,za,?_⟩
  rw [List.take_succ_eq_append_getElem hi,er]
  exact Paired.snoc (Paired.imp' (fun w r' z=>uR' (sR' z s2) (s2 _ _ hDy)) fv) (uR' r2 (s2 _ _ hDy))
 ·rintro ys H ⟨vs,rfl,sH,hDy,fv⟩
  rw [List.length_map,hl,List.take_length] at fv
  exact hd vs H sH hDy fv
theorem PAt.upd {c:C5} {H:Hp} {v D:Addr} {r:Rw} {ys:List V} {o:HO} (h:PAt c H v r) (hD:H D = some (.lst ys)):PAt c (upd H D o) v r:=by
 obtain ⟨dx,h⟩:=h
 refine ⟨dx,?_⟩
 rw [zi (fun e=>by rw [e,hD] at h; cases h)]
 exact h
end
section
variable {K:Frag} {ok:Addr->Prop} {H:Hp} {n:Nat}
end
def zax (c:C5) (CF:Addr):Sp:=fun vs H Q _=>∃ (t la lb:Addr) (us:List Addr) (rows:List Rw) (bars:List Str),vs = [.ref t]/\H t = some (.tup [.ref la,.ref lb])/\H la = some (.lst (us.map V.ref))/\Paired (TAt H) us rows/\H lb = some (.lst (bars.map V.str))/\yP rows bars/\
 ∀ (f:Addr) (H':Hp),zm H H'->H f = none->vm c CF H' f rows bars->Q (.ref f) H'
section
variable {P:Program} {w:World} {K:Frag} {mg:Str->Option Value} {base:Heap} {f CF N:Addr} {fd:FuncData} {c:C5} {m:MA}
theorem zir:([Str.ofString "_law_one"]:List Str).Nodup:=by decide +kernel
theorem zgx:zu ["_law_told"] ["_law_told"] (ze uT):=⟨rfl,rfl,rfl,by decide +kernel,rfl,by decide +kernel,by decide +kernel⟩
theorem zfv {gF g1:Addr} {eF e1:FuncData} (F:Fun K "_law_made" "_law_made" uT f fd) (hlst:mg "list" = none) (mCF:mg "Form" = some (.ref CF)) (MF:Mk K CF gF) (GF:zC P w K mg base CX0 3 gF eF ["self","parameters","bars"] (zeL c CF)) (bF:zS K eF ["self","parameters","bars"] []) (cP:za5 P w K mg base 5 "parameter_of" g1 e1 ["told"] (zeJ K c N)):zC P w K mg base CX0 6 f fd ["_law_told"] (zax c CF):=by
 refine F.ok zgx (fun vs H Q E h=>?_) (fun cdv A outer s H vs Q E hr h=>?_)
 ·obtain ⟨t,la,lb,us,rows,bars,rfl,_⟩:=h
  rfl
 obtain ⟨t,la,lb,us,rows,bars,rfl,ht,hla,hu,hlb,V1,q⟩:=h
 have hr4:ya 4 _:=hr.mono (by decide)
 refine ⟨_,zh (zw (zdf MF GF hr4 rfl mCF bF .nil y7 (ac (xI [] ["_law_one"] [none] rfl ⟨rfl,rfl,rfl,rfl⟩ (yH (zI zQ (pv 0) zg (fun _ _=>rfl))) (yx 0) rfl rfl rfl
   (fun pins fp s H C=>⟨zk (i:=0) zir rfl (Or.inl rfl) (.inr rfl),xp,cE (E:=fun _ _ _=>False) cP zji hr (ac (pv 0) zb)⟩)) (ac (cTy y3 hlst PyProof.Rows.boot_list (ac (zI zQ (pv 0) zg (fun _ _=>rfl)) zb)) zb)))),?_⟩
 have l24:=V1.l24
 have l60:=V1.l60
 refine ⟨_,rfl,t,_,0,.ref la,rfl,rfl,SqT.of ht,rfl,la,rfl,⟨_,SqL.of hla⟩,fun D hD=>?_⟩
 refine zis TAt (PAt c) TAt.same PAt.same PAt.upd hla hu (by omega) hD (fun i u r H' Qf Qs hu' hr' sH tr qf=>?_) fun ps H1 u1 e1 p1=>?_
 ·have rk:=V1.ok r (List.mem_of_getElem? hr')
  exact ⟨fun _=>⟨_,rfl,u,r.k,.str r.z,r.b,rfl,rk.1,tr,.inl ⟨r.z,rfl,zbA rk.2⟩,fun _ o dx H5 s5 ho=>qf o H5 s5 ⟨dx,ho⟩,fun e=>absurd (show xh r.z = false from e) (by rw [rk.2]; decide)⟩,fun e=>Bool.noConfusion e⟩
 refine ⟨_,rfl,t,_,1,.ref lb,rfl,rfl,SqT.of (u1 _ _ ht),rfl,lb,_,rfl,.inl (SqL.of (u1 _ _ hlb)),fun l2 hl2=>?_⟩
 have s2:=zc hl2 (.lst (bars.map V.str))
 have g2:upd H1 l2 (.lst (bars.map V.str)) l2 = some (.lst (bars.map V.str)):=za
 generalize upd H1 l2 (.lst (bars.map V.str)) = H2 at s2 g2 |-
 intro x dx hx hdx hne
 have smk:zm H2 (upd (upd H2 dx (.own x)) x (.ins CF dx [])):=yh hx hdx
 have hx1:upd (upd H2 dx (.own x)) x (.ins CF dx []) x = some (.ins CF dx []):=za
 generalize upd (upd H2 dx (.own x)) x (.ins CF dx []) = H3 at smk hx1 |-
 have s12:=u1.trans s2
 refine ⟨x,D,dx,.ref l2,ps,rows,bars,rfl,hx1,smk _ _ (s2 _ _ e1),xx (s2.trans smk) p1,.inr ⟨l2,rfl,smk _ _ g2⟩,V1,fun H4 sx F4 L4=>?_⟩
 refine ⟨rfl,q x H4 (fun b' u e=>sx b' u (smk _ _ (s12 _ _ e)) (zf (s12 _ _ e) hx)) (s12.free hx) ⟨F4.at,by omega,by omega,V1.ok⟩⟩
end
end K25
namespace L2
open PySem PySem.Spec PyProof.Rows
def zjg:R2:=fun x y H Q=>∃ (a c:Addr) (xs ys:List V),x = .ref a/\y = .ref c/\H a = some (.lst xs)/\H c = some (.lst ys)/\xs.length ≠ ys.length/\Q (.bl true) H
theorem uq {X:Cx} (hu:X.A.units < cLine):OpR X (compareOp .NotEq) zjg:=by
 intro pins s σ H x y v u Q I rx ry h
 obtain ⟨a,c,xs,ys,rfl,rfl,ha,hc,hn,q⟩:=h
 cases rx
 cases ry
 obtain ⟨its,r,pl,_⟩:=I.list (SqL.of ha)
 obtain ⟨its2,r2,pl2,_⟩:=I.list (SqL.of hc)
 have e1:=r.length
 have e2:=r2.length
 exact SeqAt.RcNeAt.lists_lengths pl.isList pl2.isList (by simp only [List.size_toArray,bne_iff_ne]; omega) hu X.prog X.w X.xe _ ⟨.bl true,H,I,rfl,q⟩
end L2
namespace K25
open PySem L2 PyProof.Rows
theorem yN {xs:List V} {n:Nat}:xN xs none (some (n:Int)) = xs.take n:=by
 unfold xN
 rw [HT.zjO,HT.zjc,List.drop_zero,Nat.sub_zero]
 by_cases h:n<=xs.length
 ·rw [Nat.min_eq_left h]
 ·rw [Nat.min_eq_right (by omega),List.take_of_length_le (Nat.le_refl _),List.take_of_length_le (by omega)]
theorem wI {α β : Type} {R : α->β->Prop} {a:List α} {c:List β} (h:Paired R a c):∀ n,Paired R (a.take n) (c.take n):=by
 induction h with
 | nil=>intro n; rw [List.take_nil,List.take_nil]; exact .nil
 | cons r _ ih=>
  intro n
  cases n with
  | zero=>exact .nil
  | succ n=>exact .cons r (ih n)
theorem yG {xs:List V} {n:Nat}:xN xs (some (n:Int)) none = xs.drop n:=by
 unfold xN
 rw [HT.zjO,HT.zjc]
 by_cases h:n<=xs.length
 ·rw [Nat.min_eq_left h]
  exact List.take_of_length_le (by rw [List.length_drop]; exact Nat.le_refl _)
 ·rw [Nat.min_eq_right (by omega),List.drop_of_length_le (Nat.le_refl _),List.drop_of_length_le (by omega)]
  simp
theorem wJ {α β : Type} {R : α->β->Prop} {a:List α} {c:List β} (h:Paired R a c):∀ n,Paired R (a.drop n) (c.drop n):=by
 induction h with
 | nil=>intro n; rw [List.drop_nil,List.drop_nil]; exact .nil
 | cons r t ih=>
  intro n
  cases n with
  | zero=>exact .cons r t
  | succ n=>exact ih n
def yD (m:Int) (ts:List Int) (ps:List (Str × Int)):yt × List Int × List (Str × Int):=
 if m % 4 = 0/\ts ≠ [] then (.one (ts.headD 0),ts.drop 1,ps)
 else if m % 4 = 1 then (.row (ts.take (m / 4 % 4).toNat),ts.drop (m / 4 % 4).toNat,ps)
 else if m % 4 = 2/\ps ≠ [] then (.named (ps.headD ("",0)).1 (ps.headD ("",0)).2,ts,ps.drop 1)
 else (.book (ps.take (m / 4 % 4).toNat),ts,ps.drop (m / 4 % 4).toNat)
def xR (cell:Int):Nat->List yt->List Int->List (Str × Int)->List yt × List Int × List (Str × Int)
 | 0,ct,ts,ps=>(ct,ts,ps)
 | n + 1,ct,ts,ps=>if ts.length + ps.length > 0 then xR cell n (ct ++ [(yD (xQ cell ct.length) ts ps).1]) (yD (xQ cell ct.length) ts ps).2.1 (yD (xQ cell ct.length) ts ps).2.2 else (ct,ts,ps)
def zbc (r:List yt × List Int × List (Str × Int)):List yt:=
 if r.2.1.length + r.2.2.length > 0 then r.1 ++ [.row (r.2.1.take 30),.row (r.2.1.drop 30),.book (r.2.2.take 30),.book (r.2.2.drop 30)] else r.1
def wk (cell:Int) (ts:List Int) (ps:List (Str × Int)):List yt:=zbc (xR cell 26 [] ts ps)
theorem zgq (m:Int) (ts:List Int) (ps:List (Str × Int)):itT (yD m ts ps).1 ++ (yD m ts ps).2.1 = ts:=by
 unfold yD
 split
 next h=>
  cases ts with
  | nil=>exact absurd rfl h.2
  | cons t ts=>rfl
 ·split
  ·exact List.take_append_drop _ _
  ·split <;> rfl
theorem zgr (m:Int) (ts:List Int) (ps:List (Str × Int)):itP (yD m ts ps).1 ++ (yD m ts ps).2.2 = ps:=by
 unfold yD
 split
 ·rfl
 ·split
  ·rfl
  ·split
   next h=>
    cases ps with
    | nil=>exact absurd rfl h.2
    | cons p ps=>rfl
   ·exact List.take_append_drop _ _
theorem j0 (cell:Int):∀ (n:Nat) (ct:List yt) (ts:List Int) (ps:List (Str × Int)),yb (xR cell n ct ts ps).1 ++ (xR cell n ct ts ps).2.1 = yb ct ++ ts/\yq (xR cell n ct ts ps).1 ++ (xR cell n ct ts ps).2.2 = yq ct ++ ps
 | 0,_,_,_=>⟨rfl,rfl⟩
 | n + 1,ct,ts,ps=>by
  unfold xR
  split
  ·obtain ⟨h1,h2⟩:=j0 cell n (ct ++ [(yD (xQ cell ct.length) ts ps).1]) (yD (xQ cell ct.length) ts ps).2.1 (yD (xQ cell ct.length) ts ps).2.2
   rw [h1,h2,zel,zem,List.append_assoc,List.append_assoc,zgq,zgr]
   exact ⟨rfl,rfl⟩
  ·exact ⟨rfl,rfl⟩
theorem jn (cell:Int) (ts:List Int) (ps:List (Str × Int)):yb (wk cell ts ps) = ts/\yq (wk cell ts ps) = ps:=by
 obtain ⟨h1,h2⟩:=j0 cell 26 [] ts ps
 unfold wk zbc
 generalize xR cell 26 [] ts ps = r at h1 h2
 split
 ·refine ⟨Eq.trans ?_ h1,Eq.trans ?_ h2⟩
  ·unfold yb
   simp [itT]
  ·unfold yq
   simp [itP]
 next h=>
  have e1:r.2.1 = []:=List.eq_nil_of_length_eq_zero (by omega)
  have e2:r.2.2 = []:=List.eq_nil_of_length_eq_zero (by omega)
  rw [e1,List.append_nil] at h1
  rw [e2,List.append_nil] at h2
  exact ⟨h1,h2⟩
structure IV (K:Frag) (H0 H':Hp) (l a b:Addr) (vs ys:List V) (ct:List yt) (ts:List Int) (ps:List (Str × Int)):Prop where
 sm:zm H0 H'
 hl:H' l = some (.lst vs)
 hv:Paired (zF K (fun x=>x ≠ l/\H0 x = none) H' 3) vs (ct.map xD)
 ha:H' a = some (.lst (ts.map V.int))
 hb:H' b = some (.lst ys)
 hy:Paired (zF K (fun x=>x ≠ l/\H0 x = none) H' 1) ys (ps.map ye)
 na:a ≠ l
 nb:b ≠ l
 nl:H0 l = none
section
variable {K:Frag} {H0 H' H'':Hp} {l a b:Addr} {vs ys:List V} {ct:List yt} {ts:List Int} {ps:List (Str × Int)}
theorem IV.same (h:IV K H0 H' l a b vs ys ct ts ps) (s:zm H' H''):IV K H0 H'' l a b vs ys ct ts ps:=
 ⟨h.sm.trans s,s _ _ h.hl,zcD s h.hv,s _ _ h.ha,s _ _ h.hb,yi s h.hy,h.na,h.nb,h.nl⟩
theorem IV.push {x:V} {it:yt} (h:IV K H0 H' l a b vs ys ct ts ps) (hx:zF K (fun x=>x ≠ l/\H0 x = none) H' 3 x (xD it)):IV K H0 (upd H' l (.lst (vs ++ [x]))) l a b (vs ++ [x]) ys (ct ++ [it]) ts ps:=by
 refine ⟨fun b u e=>by rw [zi (zf e h.nl)]; exact h.sm _ _ e,za,?_,by rw [zi h.na]; exact h.ha,by rw [zi h.nb]; exact h.hb,?_,h.na,h.nb,h.nl⟩
 ·rw [List.map_append]
  exact Paired.snoc (Paired.imp' (fun _ _ z=>xv h.hl (fun b o=>⟨o,o.1⟩) z) h.hv) (xv h.hl (fun b o=>⟨o,o.1⟩) hx)
 ·exact Paired.imp' (fun _ _ z=>xv h.hl (fun b o=>⟨o,o.1⟩) z) h.hy
theorem IV.setA {a':Addr} {ts':List Int} (h:IV K H0 H' l a b vs ys ct ts ps) (ha:H' a' = some (.lst (ts'.map V.int))) (n:a' ≠ l):IV K H0 H' l a' b vs ys ct ts' ps:=⟨h.sm,h.hl,h.hv,ha,h.hb,h.hy,n,h.nb,h.nl⟩
theorem IV.setB {b':Addr} {ys':List V} {ps':List (Str × Int)} (h:IV K H0 H' l a b vs ys ct ts ps) (hb:H' b' = some (.lst ys')) (hy:Paired (zF K (fun x=>x ≠ l/\H0 x = none) H' 1) ys' (ps'.map ye)) (n:b' ≠ l):IV K H0 H' l a b' vs ys' ct ts ps':=⟨h.sm,h.hl,h.hv,h.ha,hb,hy,h.na,n,h.nl⟩
end
def itW (K:Frag) (H0:Hp) (cell:Int) (l:Addr) (R:List yt × List Int × List (Str × Int)) (m:Nat) (σ : L2.St) (H':Hp):Prop:=
 ∃ (a b:Addr) (vs ys:List V) (ct:List yt) (ts:List Int) (ps:List (Str × Int)) (v4 v5:Option V),σ = [some (.ref a),some (.ref b),some (.int cell),some (.ref l),v4,v5]/\IV K H0 H' l a b vs ys ct ts ps/\ct.length + m = 26/\xR cell m ct ts ps = R/\ts.length<=400/\ps.length<=400
def zay (K:Frag):Sp:=fun vs H Q _=>∃ (a b:Addr) (cell:Int) (ys:List V) (ts:List Int) (ps:List (Str × Int)),vs = [.ref a,.ref b,.int cell]/\H a = some (.lst (ts.map V.int))/\H b = some (.lst ys)/\Paired (zF K T' H 1) ys (ps.map ye)/\ts.length<=400/\ps.length<=400/\
 ∀ (l:Addr) (zs:List V) (H':Hp),zm H H'->H l = none->H' l = some (.lst zs)->Paired (zF K (fun x=>x ≠ l/\H x = none) H' 3) zs ((wk cell ts ps).map xD)->Q (.ref l) H'
section
variable {P:Program} {w:World} {K:Frag} {mg:Str->Option Value} {base:Heap} {f:Addr} {fd:FuncData}
theorem zd4 {ok ok':Addr->Prop} {H:Hp} {ys:List V} {ps:List (Str × Int)} (h:Paired (zF K ok H 1) ys (ps.map ye)):Paired (zF K ok' H 1) ys (ps.map ye):=by
 induction ps generalizing ys with
 | nil=>cases h; exact .nil
 | cons p ps ih=>
  cases h with
  | cons h r=>
   obtain ⟨b,rfl,hb⟩:=vB h
   exact .cons (.tup hb (.cons .str (.cons .int .nil))) (ih r)
theorem xL:zu ["_law_things","_law_pairs","_law_cell_here","_law_call","_law_number","_law_many"] ["_law_things","_law_pairs","_law_cell_here"] (ze uU):=⟨rfl,rfl,rfl,by decide +kernel,rfl,by decide +kernel,by decide +kernel⟩
theorem zfx {g1:Addr} {d1:FuncData} (F:Fun K "_law_items" "_law_items" uU f fd) (U:js mg) (cM:zl P w K mg base 1 "_law_mix" g1 d1 ["_law_cell_here","_law_k"] qB):zC P w K mg base CX0 2 f fd ["_law_things","_law_pairs","_law_cell_here"] (zay K):=by
 refine F.ok xL (fun vs H Q E h=>?_) (fun cdv A outer s H vs Q E hr h=>?_)
 ·obtain ⟨a,b,cell,ys,ts,ps,rfl,_⟩:=h
  rfl
 obtain ⟨a,b,cell,ys,ts,ps,rfl,ha,hb,hy,l1,l2,q⟩:=h
 have hU:=hr.units
 have hU0:=hr.units0
 refine ⟨_,zd (zv (i:=3) xL.nd rfl (Or.inl rfl) (zM zb))
   (zd (zeY PassesOwn.never (PW.pt (xw (zo jk (cB zB U.len PySem.boot_len (ac (pv 3) zb)) zg (zx _)) (yZ (zo zbv (zr yo (cB zB U.len PySem.boot_len (ac (pv 0) zb)) (cB zB U.len PySem.boot_len (ac (pv 1) zb))) zg (zx _))))) (zd (zv (i:=4) xL.nd rfl (Or.inl rfl) (cF cM hr (ac (pv 2) (ac (cB zB U.len PySem.boot_len (ac (pv 3) zb)) zb))))
   (zd (zv (i:=5) xL.nd rfl (Or.inl rfl) (zr z5 (zr xq (pv 4) zg) zg))
   (zh (zJ (PW.pt (xw (zo ym (zr z5 (pv 4) zg) zg (zx _)) (yZ (zo (OpR.or (u9 hU) (uq hU0)) (pv 0) (zM zb) (zx _))))) (zd (zE (yz PySem.F.plainAttrs_list PySem.F.slot_list_append PySem.F.type_list_append zG (pv 3) (ac (zH (ac zq (ac (zI yf (pv 0) zg (fun _ _=>rfl)) zb))) zb)))
   (zh (zv (i:=0) xL.nd rfl (Or.inl rfl) (zY yj (pv 0) (z9 zg) yp))))
   (zh (zJ (zo ym (zr z5 (pv 4) zg) zg (zx _)) (zd (zE (yz PySem.F.plainAttrs_list PySem.F.slot_list_append PySem.F.type_list_append zG (pv 3) (ac (zH (ac zq (ac (zY yj (pv 0) yp (z9 (pv 5))) zb))) zb)))
   (zh (zv (i:=0) xL.nd rfl (Or.inl rfl) (zY yj (pv 0) (z9 (pv 5)) yp))))
   (zh (zJ (PW.pt (xw (zo ym (zr z5 (pv 4) zg) zg (zx _)) (yZ (zo (OpR.or (u9 hU) (uq hU0)) (pv 1) (zM zb) (zx _))))) (zd (zE (yz PySem.F.plainAttrs_list PySem.F.slot_list_append PySem.F.type_list_append zG (pv 3) (ac (zH (ac zq (ac (zI zQ (zI yf (pv 1) zg (fun _ _=>rfl)) zg (fun _ _=>rfl)) (ac (zI zQ (zI yf (pv 1) zg (fun _ _=>rfl)) zg (fun _ _=>rfl)) zb)))) zb)))
   (zh (zv (i:=1) xL.nd rfl (Or.inl rfl) (zY yj (pv 1) (z9 zg) yp))))
   (zd (zE (yz PySem.F.plainAttrs_list PySem.F.slot_list_append PySem.F.type_list_append zG (pv 3) (ac (zH (ac zq (ac (zY yj (pv 1) yp (z9 (pv 5))) zb))) zb)))
   (zh (zv (i:=1) xL.nd rfl (Or.inl rfl) (zY yj (pv 1) (z9 (pv 5)) yp)))))))))))))
   (zd (zJ (zo zbv (zr yo (cB zB U.len PySem.boot_len (ac (pv 0) zb)) (cB zB U.len PySem.boot_len (ac (pv 1) zb))) zg (zx _)) (zh (zv (i:=3) xL.nd rfl (Or.inl rfl) (zr y8 (pv 3) (zM (ac (zH (ac zq (ac (zY yj (pv 0) yp (z9 zg)) zb))) (ac (zH (ac zq (ac (zY yj (pv 0) (z9 zg) yp) zb))) (ac (zH (ac zq (ac (zY yj (pv 1) yp (z9 zg)) zb))) (ac (zH (ac zq (ac (zY yj (pv 1) (z9 zg) yp) zb))) zb)))))))) zA)
   (zh (zw (pv 3))))),?_⟩
 refine ⟨zz0,fun l hl=>?_⟩
 have s1:=zc hl (.lst [])
 have I0:IV K H (upd H l (.lst [])) l a b [] ys [] ts ps:=⟨s1,za,.nil,s1 _ _ ha,s1 _ _ hb,yi s1 (zd4 hy),zf ha hl,zf hb hl,hl⟩
 try dsimp only [yg]
 generalize upd H l (.lst []) = H1 at s1 I0 |-
 refine yC (fun σ' H'=>∃ (a b:Addr) (vs ys:List V) (ct:List yt) (ts':List Int) (ps':List (Str × Int)) (v4 v5:Option V),σ' = [some (.ref a),some (.ref b),some (.int cell),some (.ref l),v4,v5]/\IV K H H' l a b vs ys ct ts' ps'/\xR cell 26 [] ts ps = (ct,ts',ps')/\ct.length<=26/\ts'.length<=400/\ps'.length<=400) ?_ (fun key=>?_)
 rotate_left
 ·refine ⟨itW K H cell l (xR cell 26 [] ts ps),⟨26,a,b,[],ys,[],ts,ps,_,_,rfl,I0,rfl,rfl,l1,l2⟩,?_⟩
  clear I0 s1
  rintro m σ H2 ⟨a',b',vs',ys',ct,ts',ps',v4,v5,rfl,I2,hm,hR,l1',l2'⟩
  have lvs:vs'.length = ct.length:=by rw [I2.hv.length,List.length_map]
  have lys:ys'.length = ps'.length:=by rw [I2.hy.length,List.length_map]
  have fin:(m = 0\/ts'.length + ps'.length = 0)->xR cell 26 [] ts ps = (ct,ts',ps'):=fun h=>by
   rw [<- hR]
   cases m with
   | zero=>rfl
   | succ m=>
    show (if ts'.length + ps'.length > 0 then _ else _) = _
    rw [if_neg (by rcases h with h | h <;> omega)]
  refine ⟨_,rfl,l,_,rfl,.inl (SqL.of I2.hl),_,_,rfl,rfl,_,rfl,?_⟩
  by_cases h26:vs'.length < 26
  rotate_left
  ·refine dF (by show ¬ (vs'.length:Int) < 26; omega) ?_
   refine y9 ?_
   exact key _ _ ⟨a',b',vs',ys',ct,ts',ps',_,_,rfl,I2,fin (.inl (by omega)),by omega,l1',l2'⟩
  refine dT (by show (vs'.length:Int) < 26; omega) ?_
  refine ⟨_,rfl,a',_,rfl,.inl (SqL.of I2.ha),_,rfl,b',_,rfl,.inl (SqL.of I2.hb),_,_,rfl,rfl,_,_,rfl,rfl,_,rfl,?_⟩
  by_cases h0:ts'.length + ps'.length > 0
  rotate_left
  ·refine dF (by rw [List.length_map]; show ¬ (0:Int) < _; omega) ?_
   exact key _ _ ⟨a',b',vs',ys',ct,ts',ps',_,_,rfl,I2,fin (.inr (by omega)),by omega,l1',l2'⟩
  refine dT (by rw [List.length_map]; show (0:Int) < _; omega) ?_
  obtain ⟨m',rfl⟩:∃ m',m = m' + 1:=⟨m - 1,by omega⟩
  refine ⟨itW K H cell l (xR cell 26 [] ts ps) m',fun σ' H' w=>⟨m',Nat.lt_succ_self _,w⟩,?_⟩
  refine ⟨_,rfl,_,rfl,l,_,rfl,.inl (SqL.of I2.hl),cell,_,rfl,?_⟩
  rw [lvs]
  have hnext:xR cell m' (ct ++ [(yD (xQ cell ct.length) ts' ps').1]) (yD (xQ cell ct.length) ts' ps').2.1 (yD (xQ cell ct.length) ts' ps').2.2 = xR cell 26 [] ts ps:=by
   rw [<- hR]
   show _ = (if ts'.length + ps'.length > 0 then _ else _)
   rw [if_pos h0]
  generalize xQ cell (ct.length:Int) = mm at hnext |-
  refine ⟨_,rfl,_,_,rfl,rfl,⟨by decide,by decide⟩,_,_,rfl,rfl,zp4,?_⟩
  have q0 : 0<=mm / 4 % 4:=Int.emod_nonneg _ (by decide)
  have q1:mm / 4 % 4 < 4:=Int.emod_lt_of_pos _ (by decide)
  have r0 : 0<=mm % 4:=Int.emod_nonneg _ (by decide)
  have r1:mm % 4 < 4:=Int.emod_lt_of_pos _ (by decide)
  dsimp only [yg]
  generalize hq:mm / 4 % 4 = qq at q0 q1 |-
  obtain ⟨n,rfl⟩:=Int.eq_ofNat_of_zero_le q0
  refine ⟨_,rfl,_,_,rfl,rfl,zp4,rfl,_,rfl,?_⟩
  by_cases m0:mm % 4 = 0
  ·refine dT (congrArg V.int m0) ?_
   refine ⟨_,rfl,zz0,fun e0 he0=>?_⟩
   have s3:=zc he0 (.lst [])
   have g3:upd H2 e0 (.lst []) e0 = some (.lst []):=za
   generalize upd H2 e0 (.lst []) = H3 at s3 g3 |-
   have I3:=I2.same s3
   by_cases ht:ts' = []
   ·refine .inl ⟨a',e0,0,.lst [],fun _=>True,fun _=>True,rfl,rfl,by decide,zF.lst True.intro I3.ha (by rw [ht]; exact .nil),zF.lst True.intro g3 .nil,_,rfl,?_⟩
    refine y9 ?_
    refine ⟨_,rfl,_,_,rfl,rfl,zp4,rfl,_,rfl,?_⟩
    refine dF (fun e=>by have:=V.int.inj e; omega) ?_
    refine ⟨_,rfl,_,_,rfl,rfl,zp4,rfl,_,rfl,?_⟩
    refine dF (fun e=>by have:=V.int.inj e; omega) ?_
    refine y9 ?_
    have es:yD mm ts' ps' = (.book (ps'.take n),ts',ps'.drop n):=by unfold yD; rw [hq,Int.toNat_natCast,if_neg (fun h=>h.2 ht),if_neg (by omega),if_neg (fun h=>by omega)]
    refine ⟨_,rfl,.inl ⟨rfl,_,SqL.of I3.hl⟩,_,rfl,_,rfl,_,rfl,b',_,rfl,SqL.of I3.hb,fun p hp=>?_⟩
    rw [yN]
    have r1:=zc hp (.lst (ys'.take n))
    have e1:upd H3 p (.lst (ys'.take n)) p = some (.lst (ys'.take n)):=za
    have np:p ≠ l:=(zf I3.hl hp).symm
    have np0:H p = none:=I3.sm.free hp
    have J1:=I3.same r1
    generalize upd H3 p (.lst (ys'.take n)) = G1 at r1 e1 J1 |-
    refine ⟨zz2,fun u hu=>?_⟩
    have r2:=zc hu (.tup [.str "book",.ref p])
    have e2:upd G1 u (.tup [.str "book",.ref p]) u = some (.tup [.str "book",.ref p]):=za
    have J2:=J1.same r2
    have e3:=r2 _ _ e1
    generalize upd G1 u (.tup [.str "book",.ref p]) = G2 at r2 e2 J2 e3 |-
    refine ⟨l,_,_,rfl,rfl,J2.hl,zz (by omega),?_⟩
    have J3:=J2.push (x:=.ref u) (it:=.book (ps'.take n)) (.tup (SqT.of e2) (.cons .str (.cons (.lst ⟨np,np0⟩ e3 (by rw [List.map_take]; exact wI J2.hy n)) .nil)))
    show xY _ _ _ _ (upd G2 l (.lst (vs' ++ [.ref u])))
    generalize upd G2 l (.lst (vs' ++ [.ref u])) = G3 at J3 |-
    refine ⟨_,rfl,_,rfl,_,rfl,b',_,rfl,SqL.of J3.hb,fun p2 hp2=>?_⟩
    rw [yG]
    have r4:=zc hp2 (.lst (ys'.drop n))
    have J4:=(J3.same r4).setB (b':=p2) (ys':=ys'.drop n) (ps':=ps'.drop n) za (by rw [List.map_drop]; exact wJ (J3.same r4).hy n) (zf J3.hl hp2).symm
    exact ⟨a',p2,_,_,_,ts',ps'.drop n,_,_,rfl,J4,by rw [List.length_append,List.length_singleton]; omega,by rw [<- hnext,es],l1',by rw [List.length_drop]; omega⟩
   ·have tne:(ts'.map V.int).length ≠ ([]:List V).length:=fun e=>ht (List.eq_nil_of_length_eq_zero (by simpa using e))
    refine .inr ⟨a',e0,_,_,rfl,rfl,I3.ha,g3,tne,_,rfl,?_⟩
    refine vI ?_
    cases ts' with
    | nil=>exact absurd rfl ht
    | cons x ts'=>
    have es:yD mm (x :: ts') ps' = (.one x,ts',ps'):=by unfold yD; rw [if_pos ⟨m0,ht⟩]; rfl
    refine ⟨_,rfl,.inl ⟨rfl,_,SqL.of I3.hl⟩,_,rfl,a',_,0,.int x,rfl,rfl,SqL.of I3.ha,y4 (j:=0) rfl,zz2,fun u hu=>?_⟩
    have r2:=zc hu (.tup [.str "one",.int x])
    have e2:upd H3 u (.tup [.str "one",.int x]) u = some (.tup [.str "one",.int x]):=za
    have J2:=I3.same r2
    generalize upd H3 u (.tup [.str "one",.int x]) = G2 at r2 e2 J2 |-
    refine ⟨l,_,_,rfl,rfl,J2.hl,zz (by omega),?_⟩
    have J3:=J2.push (x:=.ref u) (it:=.one x) (.tup (SqT.of e2) (.cons .str (.cons .int .nil)))
    show xY _ _ _ _ (upd G2 l (.lst (vs' ++ [.ref u])))
    generalize upd G2 l (.lst (vs' ++ [.ref u])) = G3 at J3 |-
    refine ⟨_,rfl,_,rfl,a',_,rfl,SqL.of J3.ha,fun p2 hp2=>?_⟩
    rw [show xN ((x :: ts').map V.int) (some 1) none = ts'.map V.int from yG (n:=1)]
    have r4:=zc hp2 (.lst (ts'.map V.int))
    have J4:=(J3.same r4).setA (a':=p2) (ts':=ts') za (zf J3.hl hp2).symm
    exact ⟨p2,b',_,_,_,ts',ps',_,_,rfl,J4,by rw [List.length_append,List.length_singleton]; omega,by rw [<- hnext,es],by rw [List.length_cons] at l1'; omega,l2'⟩
  refine dF (fun e=>m0 (V.int.inj e)) ?_
  refine y9 ?_
  refine ⟨_,rfl,_,_,rfl,rfl,zp4,rfl,_,rfl,?_⟩
  by_cases m1:mm % 4 = 1
  ·refine dT (congrArg V.int m1) ?_
   have es:yD mm ts' ps' = (.row (ts'.take n),ts'.drop n,ps'):=by unfold yD; rw [hq,Int.toNat_natCast,if_neg (fun h=>m0 h.1),if_pos m1]
   refine ⟨_,rfl,.inl ⟨rfl,_,SqL.of I2.hl⟩,_,rfl,_,rfl,_,rfl,a',_,rfl,SqL.of I2.ha,fun p hp=>?_⟩
   rw [yN,<- List.map_take]
   have r1:=zc hp (.lst ((ts'.take n).map V.int))
   have e1:upd H2 p (.lst ((ts'.take n).map V.int)) p = some (.lst ((ts'.take n).map V.int)):=za
   have np:p ≠ l:=(zf I2.hl hp).symm
   have np0:H p = none:=I2.sm.free hp
   have J1:=I2.same r1
   generalize upd H2 p (.lst ((ts'.take n).map V.int)) = G1 at r1 e1 J1 |-
   refine ⟨zz2,fun u hu=>?_⟩
   have r2:=zc hu (.tup [.str "row",.ref p])
   have e2:upd G1 u (.tup [.str "row",.ref p]) u = some (.tup [.str "row",.ref p]):=za
   have J2:=J1.same r2
   have e3:=r2 _ _ e1
   generalize upd G1 u (.tup [.str "row",.ref p]) = G2 at r2 e2 J2 e3 |-
   refine ⟨l,_,_,rfl,rfl,J2.hl,zz (by omega),?_⟩
   have J3:=J2.push (x:=.ref u) (it:=.row (ts'.take n)) (.tup (SqT.of e2) (.cons .str (.cons (.lst ⟨np,np0⟩ e3 (yM _)) .nil)))
   show xY _ _ _ _ (upd G2 l (.lst (vs' ++ [.ref u])))
   generalize upd G2 l (.lst (vs' ++ [.ref u])) = G3 at J3 |-
   refine ⟨_,rfl,_,rfl,_,rfl,a',_,rfl,SqL.of J3.ha,fun p2 hp2=>?_⟩
   rw [yG,<- List.map_drop]
   have r4:=zc hp2 (.lst ((ts'.drop n).map V.int))
   have J4:=(J3.same r4).setA (a':=p2) (ts':=ts'.drop n) za (zf J3.hl hp2).symm
   exact ⟨p2,b',_,_,_,ts'.drop n,ps',_,_,rfl,J4,by rw [List.length_append,List.length_singleton]; omega,by rw [<- hnext,es],by rw [List.length_drop]; omega,l2'⟩
  refine dF (fun e=>m1 (V.int.inj e)) ?_
  refine ⟨_,rfl,_,_,rfl,rfl,zp4,rfl,_,rfl,?_⟩
  by_cases m2:mm % 4 = 2
  ·refine dT (congrArg V.int m2) ?_
   refine ⟨_,rfl,zz0,fun e0 he0=>?_⟩
   have s3:=zc he0 (.lst [])
   have g3:upd H2 e0 (.lst []) e0 = some (.lst []):=za
   generalize upd H2 e0 (.lst []) = H3 at s3 g3 |-
   have I3:=I2.same s3
   by_cases hp0:ps' = []
   ·have hy0:ys' = []:=List.eq_nil_of_length_eq_zero (by rw [lys,hp0]; rfl)
    refine .inl ⟨b',e0,0,.lst [],fun _=>True,fun _=>True,rfl,rfl,by decide,zF.lst True.intro I3.hb (by rw [hy0]; exact .nil),zF.lst True.intro g3 .nil,_,rfl,?_⟩
    refine y9 ?_
    have es:yD mm ts' ps' = (.book (ps'.take n),ts',ps'.drop n):=by unfold yD; rw [hq,Int.toNat_natCast,if_neg (fun h=>m0 h.1),if_neg m1,if_neg (fun h=>h.2 hp0)]
    refine ⟨_,rfl,.inl ⟨rfl,_,SqL.of I3.hl⟩,_,rfl,_,rfl,_,rfl,b',_,rfl,SqL.of I3.hb,fun p hp=>?_⟩
    rw [yN]
    have r1:=zc hp (.lst (ys'.take n))
    have e1:upd H3 p (.lst (ys'.take n)) p = some (.lst (ys'.take n)):=za
    have np:p ≠ l:=(zf I3.hl hp).symm
    have np0:H p = none:=I3.sm.free hp
    have J1:=I3.same r1
    generalize upd H3 p (.lst (ys'.take n)) = G1 at r1 e1 J1 |-
    refine ⟨zz2,fun u hu=>?_⟩
    have r2:=zc hu (.tup [.str "book",.ref p])
    have e2:upd G1 u (.tup [.str "book",.ref p]) u = some (.tup [.str "book",.ref p]):=za
    have J2:=J1.same r2
    have e3:=r2 _ _ e1
    generalize upd G1 u (.tup [.str "book",.ref p]) = G2 at r2 e2 J2 e3 |-
    refine ⟨l,_,_,rfl,rfl,J2.hl,zz (by omega),?_⟩
    have J3:=J2.push (x:=.ref u) (it:=.book (ps'.take n)) (.tup (SqT.of e2) (.cons .str (.cons (.lst ⟨np,np0⟩ e3 (by rw [List.map_take]; exact wI J2.hy n)) .nil)))
    show xY _ _ _ _ (upd G2 l (.lst (vs' ++ [.ref u])))
    generalize upd G2 l (.lst (vs' ++ [.ref u])) = G3 at J3 |-
    refine ⟨_,rfl,_,rfl,_,rfl,b',_,rfl,SqL.of J3.hb,fun p2 hp2=>?_⟩
    rw [yG]
    have r4:=zc hp2 (.lst (ys'.drop n))
    have J4:=(J3.same r4).setB (b':=p2) (ys':=ys'.drop n) (ps':=ps'.drop n) za (by rw [List.map_drop]; exact wJ (J3.same r4).hy n) (zf J3.hl hp2).symm
    exact ⟨a',p2,_,_,_,ts',ps'.drop n,_,_,rfl,J4,by rw [List.length_append,List.length_singleton]; omega,by rw [<- hnext,es],l1',by rw [List.length_drop]; omega⟩
   ·have tne:ys'.length ≠ ([]:List V).length:=fun e=>hp0 (List.eq_nil_of_length_eq_zero (by rw [<- lys]; exact e))
    refine .inr ⟨b',e0,_,_,rfl,rfl,I3.hb,g3,tne,_,rfl,?_⟩
    refine vI ?_
    cases ps' with
    | nil=>exact absurd rfl hp0
    | cons x ps'=>
    have es:yD mm ts' (x :: ps') = (.named x.1 x.2,ts',ps'):=by unfold yD; rw [if_neg (fun h=>m0 h.1),if_neg m1,if_pos ⟨m2,hp0⟩]; rfl
    have hy3:=I3.hy
    cases ys' with
    | nil=>cases hy3
    | cons y ys'=>
    cases hy3 with
    | cons hy1 hyr=>
    obtain ⟨pb,rfl,hpb⟩:=vB hy1
    refine ⟨_,rfl,.inl ⟨rfl,_,SqL.of I3.hl⟩,_,rfl,b',_,0,.ref pb,rfl,rfl,SqL.of I3.hb,y4 (j:=0) rfl,pb,_,0,.str x.1,rfl,rfl,hpb,rfl,_,rfl,b',_,0,.ref pb,rfl,rfl,SqL.of I3.hb,y4 (j:=0) rfl,pb,_,1,.int x.2,rfl,rfl,hpb,rfl,zz3,fun u hu=>?_⟩
    have r2:=zc hu (.tup [.str "named",.str x.1,.int x.2])
    have e2:upd H3 u (.tup [.str "named",.str x.1,.int x.2]) u = some (.tup [.str "named",.str x.1,.int x.2]):=za
    have J2:=I3.same r2
    generalize upd H3 u (.tup [.str "named",.str x.1,.int x.2]) = G2 at r2 e2 J2 |-
    refine ⟨l,_,_,rfl,rfl,J2.hl,zz (by omega),?_⟩
    have J3:=J2.push (x:=.ref u) (it:=.named x.1 x.2) (.tup (SqT.of e2) (.cons .str (.cons .str (.cons .int .nil))))
    show xY _ _ _ _ (upd G2 l (.lst (vs' ++ [.ref u])))
    generalize upd G2 l (.lst (vs' ++ [.ref u])) = G3 at J3 |-
    refine ⟨_,rfl,_,rfl,b',_,rfl,SqL.of J3.hb,fun p2 hp2=>?_⟩
    rw [show xN (V.ref pb :: ys') (some 1) none = ys' from yG (n:=1)]
    have r4:=zc hp2 (.lst ys')
    have hy4:=(J3.same r4).hy
    have J4:=(J3.same r4).setB (b':=p2) (ys':=ys') (ps':=ps') za (by cases hy4 with | cons _ r=>exact r) (zf J3.hl hp2).symm
    exact ⟨a',p2,_,_,_,ts',ps',_,_,rfl,J4,by rw [List.length_append,List.length_singleton]; omega,by rw [<- hnext,es],l1',by rw [List.length_cons] at l2'; omega⟩
  refine dF (fun e=>m2 (V.int.inj e)) ?_
  refine y9 ?_
  have es:yD mm ts' ps' = (.book (ps'.take n),ts',ps'.drop n):=by unfold yD; rw [hq,Int.toNat_natCast,if_neg (fun h=>m0 h.1),if_neg m1,if_neg (fun h=>m2 h.1)]
  refine ⟨_,rfl,.inl ⟨rfl,_,SqL.of I2.hl⟩,_,rfl,_,rfl,_,rfl,b',_,rfl,SqL.of I2.hb,fun p hp=>?_⟩
  rw [yN]
  have r1:=zc hp (.lst (ys'.take n))
  have e1:upd H2 p (.lst (ys'.take n)) p = some (.lst (ys'.take n)):=za
  have np:p ≠ l:=(zf I2.hl hp).symm
  have np0:H p = none:=I2.sm.free hp
  have J1:=I2.same r1
  generalize upd H2 p (.lst (ys'.take n)) = G1 at r1 e1 J1 |-
  refine ⟨zz2,fun u hu=>?_⟩
  have r2:=zc hu (.tup [.str "book",.ref p])
  have e2:upd G1 u (.tup [.str "book",.ref p]) u = some (.tup [.str "book",.ref p]):=za
  have J2:=J1.same r2
  have e3:=r2 _ _ e1
  generalize upd G1 u (.tup [.str "book",.ref p]) = G2 at r2 e2 J2 e3 |-
  refine ⟨l,_,_,rfl,rfl,J2.hl,zz (by omega),?_⟩
  have J3:=J2.push (x:=.ref u) (it:=.book (ps'.take n)) (.tup (SqT.of e2) (.cons .str (.cons (.lst ⟨np,np0⟩ e3 (by rw [List.map_take]; exact wI J2.hy n)) .nil)))
  show xY _ _ _ _ (upd G2 l (.lst (vs' ++ [.ref u])))
  generalize upd G2 l (.lst (vs' ++ [.ref u])) = G3 at J3 |-
  refine ⟨_,rfl,_,rfl,_,rfl,b',_,rfl,SqL.of J3.hb,fun p2 hp2=>?_⟩
  rw [yG]
  have r4:=zc hp2 (.lst (ys'.drop n))
  have J4:=(J3.same r4).setB (b':=p2) (ys':=ys'.drop n) (ps':=ps'.drop n) za (by rw [List.map_drop]; exact wJ (J3.same r4).hy n) (zf J3.hl hp2).symm
  exact ⟨a',p2,_,_,_,ts',ps'.drop n,_,_,rfl,J4,by rw [List.length_append,List.length_singleton]; omega,by rw [<- hnext,es],l1',by rw [List.length_drop]; omega⟩
 rintro σ2 H2 ⟨a',b',vs',ys',ct,ts',ps',v4,v5,rfl,I2,hR,l26,l1',l2'⟩
 have lvs:vs'.length = ct.length:=by rw [I2.hv.length,List.length_map]
 have lys:ys'.length = ps'.length:=by rw [I2.hy.length,List.length_map]
 have eI:wk cell ts ps = zbc (ct,ts',ps'):=by unfold wk; rw [hR]
 refine ⟨_,rfl,a',_,rfl,.inl (SqL.of I2.ha),_,rfl,b',_,rfl,.inl (SqL.of I2.hb),_,_,rfl,rfl,_,_,rfl,rfl,_,rfl,?_⟩
 by_cases h0:ts'.length + ps'.length > 0
 rotate_left
 ·refine dF (by rw [List.length_map]; show ¬ (0:Int) < _; omega) ?_
  refine ⟨_,rfl,q l vs' H2 I2.sm I2.nl I2.hl ?_⟩
  rw [eI]
  unfold zbc
  rw [if_neg h0]
  exact I2.hv
 refine dT (by rw [List.length_map]; show (0:Int) < _; omega) ?_
 have c1:xN (ts'.map V.int) none (some 30) = (ts'.take 30).map V.int:=by rw [List.map_take]; exact yN (n:=30)
 have c2:xN (ts'.map V.int) (some 30) none = (ts'.drop 30).map V.int:=by rw [List.map_drop]; exact yG (n:=30)
 have c3:xN ys' none (some 30) = ys'.take 30:=yN (n:=30)
 have c4:xN ys' (some 30) none = ys'.drop 30:=yG (n:=30)
 refine ⟨_,rfl,_,rfl,_,rfl,a',_,rfl,SqL.of I2.ha,fun p1 hp1=>?_⟩
 rw [c1]
 have r1:=zc hp1 (.lst ((ts'.take 30).map V.int))
 have e1:upd H2 p1 (.lst ((ts'.take 30).map V.int)) p1 = some (.lst ((ts'.take 30).map V.int)):=za
 have n1:p1 ≠ l/\H p1 = none:=⟨(zf I2.hl hp1).symm,I2.sm.free hp1⟩
 have I1a:=I2.same r1
 generalize upd H2 p1 (.lst ((ts'.take 30).map V.int)) = H1a at r1 e1 I1a |-
 refine ⟨zz2,fun u1 hu1=>?_⟩
 have t1:=zc hu1 (.tup [.str "row",.ref p1])
 have w1:upd H1a u1 (.tup [.str "row",.ref p1]) u1 = some (.tup [.str "row",.ref p1]):=za
 have e1:=t1 _ _ e1
 have I1b:=I1a.same t1
 generalize upd H1a u1 (.tup [.str "row",.ref p1]) = H1b at t1 e1 w1 I1b |-
 refine ⟨_,rfl,_,rfl,a',_,rfl,SqL.of I1b.ha,fun p2 hp2=>?_⟩
 rw [c2]
 have r2:=zc hp2 (.lst ((ts'.drop 30).map V.int))
 have e2:upd H1b p2 (.lst ((ts'.drop 30).map V.int)) p2 = some (.lst ((ts'.drop 30).map V.int)):=za
 have n2:p2 ≠ l/\H p2 = none:=⟨(zf I1b.hl hp2).symm,I1b.sm.free hp2⟩
 have I2a:=I1b.same r2
 generalize upd H1b p2 (.lst ((ts'.drop 30).map V.int)) = H2a at r2 e2 I2a |-
 refine ⟨zz2,fun u2 hu2=>?_⟩
 have t2:=zc hu2 (.tup [.str "row",.ref p2])
 have w2:upd H2a u2 (.tup [.str "row",.ref p2]) u2 = some (.tup [.str "row",.ref p2]):=za
 have e2:=t2 _ _ e2
 have I2b:=I2a.same t2
 generalize upd H2a u2 (.tup [.str "row",.ref p2]) = H2b at t2 e2 w2 I2b |-
 refine ⟨_,rfl,_,rfl,b',_,rfl,SqL.of I2b.hb,fun p3 hp3=>?_⟩
 rw [c3]
 have r3:=zc hp3 (.lst (ys'.take 30))
 have e3:upd H2b p3 (.lst (ys'.take 30)) p3 = some (.lst (ys'.take 30)):=za
 have n3:p3 ≠ l/\H p3 = none:=⟨(zf I2b.hl hp3).symm,I2b.sm.free hp3⟩
 have I3a:=I2b.same r3
 generalize upd H2b p3 (.lst (ys'.take 30)) = H3a at r3 e3 I3a |-
 refine ⟨zz2,fun u3 hu3=>?_⟩
 have t3:=zc hu3 (.tup [.str "book",.ref p3])
 have w3:upd H3a u3 (.tup [.str "book",.ref p3]) u3 = some (.tup [.str "book",.ref p3]):=za
 have e3:=t3 _ _ e3
 have I3b:=I3a.same t3
 generalize upd H3a u3 (.tup [.str "book",.ref p3]) = H3b at t3 e3 w3 I3b |-
 refine ⟨_,rfl,_,rfl,b',_,rfl,SqL.of I3b.hb,fun p4 hp4=>?_⟩
 rw [c4]
 have r4:=zc hp4 (.lst (ys'.drop 30))
 have e4:upd H3b p4 (.lst (ys'.drop 30)) p4 = some (.lst (ys'.drop 30)):=za
 have n4:p4 ≠ l/\H p4 = none:=⟨(zf I3b.hl hp4).symm,I3b.sm.free hp4⟩
 have I4a:=I3b.same r4
 generalize upd H3b p4 (.lst (ys'.drop 30)) = H4a at r4 e4 I4a |-
 refine ⟨zz2,fun u4 hu4=>?_⟩
 have t4:=zc hu4 (.tup [.str "book",.ref p4])
 have w4:upd H4a u4 (.tup [.str "book",.ref p4]) u4 = some (.tup [.str "book",.ref p4]):=za
 have e4:=t4 _ _ e4
 have I4b:=I4a.same t4
 generalize upd H4a u4 (.tup [.str "book",.ref p4]) = H4b at t4 e4 w4 I4b |-
 have z4:zm H4b H4b:=zm.refl _
 have z3:zm H3b H4b:=r4.trans t4
 have z2:zm H2b H4b:=r3.trans (t3.trans z3)
 have z1:zm H1b H4b:=r2.trans (t2.trans z2)
 have hfour:Paired (zF K (fun x=>x ≠ l/\H x = none) H4b 3) [.ref u1,.ref u2,.ref u3,.ref u4] (([.row (ts'.take 30),.row (ts'.drop 30),.book (ps'.take 30),.book (ps'.drop 30)]:List yt).map xD):=by
  refine .cons (.tup (SqT.of (z1 _ _ w1)) (.cons .str (.cons (.lst n1 (z1 _ _ e1) (yM _)) .nil))) (.cons (.tup (SqT.of (z2 _ _ w2)) (.cons .str (.cons (.lst n2 (z2 _ _ e2) (yM _)) .nil))) (.cons (.tup (SqT.of (z3 _ _ w3)) (.cons .str (.cons (.lst n3 (z3 _ _ e3) ?_) .nil))) (.cons (.tup (SqT.of w4) (.cons .str (.cons (.lst n4 e4 ?_) .nil))) .nil)))
  ·rw [List.map_take]; exact wI I4b.hy 30
  ·rw [List.map_drop]; exact wJ I4b.hy 30
 refine ⟨zz4,fun l4 hl4=>?_⟩
 have s5:=zc hl4 (.lst [.ref u1,.ref u2,.ref u3,.ref u4])
 have g5:upd H4b l4 (.lst [.ref u1,.ref u2,.ref u3,.ref u4]) l4 = some (.lst [.ref u1,.ref u2,.ref u3,.ref u4]):=za
 have I5:=I4b.same s5
 have hf5:=Paired.imp' (fun _ _ z=>zF.same s5 z) hfour
 generalize upd H4b l4 (.lst [.ref u1,.ref u2,.ref u3,.ref u4]) = H5 at s5 g5 I5 hf5 |-
 refine ⟨l,l4,_,_,rfl,rfl,I5.hl,g5,z8 (by show vs'.length + 4<=1000; omega),fun r hr'=>?_⟩
 have s6:=zc hr' (.lst (vs' ++ [.ref u1,.ref u2,.ref u3,.ref u4]))
 refine ⟨_,rfl,q r _ _ (I5.sm.trans s6) (I5.sm.free hr') za ?_⟩
 rw [eI]
 unfold zbc
 rw [if_pos h0]
 show Paired _ _ ((ct ++ _).map xD)
 rw [List.map_append]
 have nr:∀ b,(b ≠ l/\H b = none)->H5 b ≠ none->b ≠ r/\H b = none:=fun b o e=>⟨fun z=>e (by rw [z]; exact hr'),o.2⟩
 exact yV (Paired.imp' (fun _ _ z=>(vp nr z).same s6) I5.hv) (Paired.imp' (fun _ _ z=>(vp nr z).same s6) hf5)
end
def zgi (cell:Int):List Int:=(List.range (cell % 9).toNat).map fun (k:Nat)=>wf cell (k:Int)
def zdm (more:Int) (pool:List Str) (span:Nat) (k:Nat):Str:=pool.getD (xQ more (k:Int) % (span:Int)).toNat ""
def ja (more:Int) (pool:List Str) (span:Nat):List Str:=(List.range (more % 8).toNat).map (zdm more pool span)
def zhg (zs:List Str):List Str:=((zs.zipIdx).filter fun p=>decide (p.1 ∉ zs.take p.2)).map (·.1)
def vV (more:Int) (pool:List Str) (span:Nat):List Str:=if more / 8 % 3 = 0 then zhg (ja more pool span) else ja more pool span
def zeF (more:Int) (pool:List Str) (span:Nat):List (Str × Int):=(vV more pool span).zipIdx.map fun p=>(p.1,wf more (p.2:Int))
theorem vW (more:Int) (pool:List Str) (span:Nat):(ja more pool span).length<=7:=by
 unfold ja
 rw [List.length_map,List.length_range]
 have h0 : 0<=more % 8:=Int.emod_nonneg _ (by decide)
 have h1:more % 8 < 8:=Int.emod_lt_of_pos _ (by decide)
 omega
theorem zgb (zs:List Str):(zhg zs).length<=zs.length:=by
 unfold zhg
 rw [List.length_map]
 refine Nat.le_trans (List.length_filter_le _ _) ?_
 rw [List.length_zipIdx]
 exact Nat.le_refl _
theorem jX (more:Int) (pool:List Str) (span:Nat):(vV more pool span).length<=7:=by
 unfold vV
 split
 ·exact Nat.le_trans (zgb _) (vW _ _ _)
 ·exact vW _ _ _
theorem zgh (cell:Int):(zgi cell).length<=8:=by
 unfold zgi
 rw [List.length_map,List.length_range]
 have h0 : 0<=cell % 9:=Int.emod_nonneg _ (by decide)
 have h1:cell % 9 < 9:=Int.emod_lt_of_pos _ (by decide)
 omega
theorem zgj (more:Int) (pool:List Str) (span:Nat):(zeF more pool span).length<=7:=by
 unfold zeF
 rw [List.length_map,List.length_zipIdx]
 exact jX _ _ _
def zeM (K:Frag):Sp:=fun vs H Q _=>∃ (cell more:Int) (pa:Addr) (span:Nat) (pool:List Str),vs = [.int cell,.int more,.ref pa,.int (span:Nat)]/\H pa = some (.lst (pool.map V.str))/\0 < span/\span<=pool.length/\Builtin.Int.intBits cell<=1048600/\Builtin.Int.intBits more<=1048600/\
 ∀ (p:Addr) (H':Hp),zm H H'->Two K H H' p (zgi cell) (zeF more pool span)->Q (.ref p) H'
section
variable {P:Program} {w:World} {K:Frag} {mg:Str->Option Value} {base:Heap} {f:Addr} {fd:FuncData}
theorem zko:([Str.ofString "_law_k",Str.ofString "_law_cell_here"]:List Str).Nodup:=by decide +kernel
theorem zkn:([Str.ofString "_law_k",Str.ofString "_law_more",Str.ofString "_law_pool_here",Str.ofString "_law_span"]:List Str).Nodup:=by decide +kernel
theorem zjw:([Str.ofString "_law_k",Str.ofString "_law_name",Str.ofString "_law_names"]:List Str).Nodup:=by decide +kernel
theorem zjv:([Str.ofString "_law_k",Str.ofString "_law_name",Str.ofString "_law_more"]:List Str).Nodup:=by decide +kernel
theorem zc9:zu ["_law_cell_here","_law_more","_law_pool_here","_law_span","_law_things","_law_names"] ["_law_cell_here","_law_more","_law_pool_here","_law_span"] (ze zdW):=⟨rfl,rfl,rfl,by decide +kernel,rfl,by decide +kernel,by decide +kernel⟩
theorem ziq {g1 g2:Addr} {d1 d2:FuncData} (F:Fun K "_law_any" "_law_any" zdW f fd) (U:js mg) (cM:zl P w K mg base 1 "_law_mix" g1 d1 ["_law_cell_here","_law_k"] qB) (cT:zl P w K mg base 2 "_law_thing" g2 d2 ["_law_cell_here","_law_k"] zaq):zC P w K mg base CX0 3 f fd ["_law_cell_here","_law_more","_law_pool_here","_law_span"] (zeM K):=by
 refine F.ok zc9 (fun vs H Q E h=>?_) (fun cdv A outer s H vs Q E hr h=>?_)
 ·obtain ⟨cell,more,pa,span,pool,rfl,_⟩:=h
  rfl
 obtain ⟨cell,more,pa,span,pool,rfl,hpa,sp0,spl,b1,b2,q⟩:=h
 have hr1:ya 1 _:=hr.mono (by decide)
 refine ⟨_,zd (jQ (i:=4) ["_law_cell_here"] ["_law_k","_law_cell_here"] [none,some 0] zc9.nd rfl (Or.inl rfl) rfl ⟨rfl,rfl,rfl,rfl⟩ (yu rfl U.range (ac (zr z5 (pv 0) zg) zb)) (yx 0) rfl rfl rfl
    (fun pins fp s H C=>⟨zk (i:=0) zko rfl (Or.inl rfl) (.inr rfl),xp,cF cT hr (ac (pv 1) (ac (pv 0) zb))⟩))
  (zd (zv (i:=5) zc9.nd rfl (Or.inr rfl) (xI ["_law_span","_law_pool_here","_law_more"] ["_law_k","_law_more","_law_pool_here","_law_span"] [none,some 1,some 2,some 3] rfl ⟨rfl,rfl,rfl,rfl⟩ (yu rfl U.range (ac (zr z5 (pv 1) zg) zb)) (yx 0) rfl rfl rfl
    (fun pins fp s H C=>⟨zk (i:=0) zkn rfl (Or.inl rfl) (.inr rfl),xp,zI (r:=zh6 K) yf (pv 2) (zr z5 (cF cM hr1 (ac (pv 1) (ac (pv 0) zb))) (pv 3)) (fun _ _=>rfl)⟩)))
  (zd (zJ (zo ym (zr z5 (zr xq (pv 1) zg) zg) zg (zx _)) (zh (zv (i:=5) zc9.nd rfl (Or.inr rfl) (xI ["_law_names"] ["_law_k","_law_name","_law_names"] [none,none,some 5] rfl ⟨rfl,rfl,rfl,rfl⟩ (xa rfl U.en (ac (pv 5) zb)) (yw (K:=K) (n:=2) 0 1) rfl rfl rfl
    (fun pins fp s H C=>⟨yc rfl (zt (zk (i:=0) zjw rfl (Or.inl rfl) (.inr rfl)) (zt (zk (i:=1) zjw rfl (Or.inl rfl) (.inr rfl)) zV)),y0 (zo (r:=rIn K true) yI (pv 1) (zY (r:=zje K) yj (pv 2) yp (z9 (pv 0))) (by with_unfolding_all rfl)),pv 1⟩)))) zA)
  (zh (zw (zH (ac (pv 4) (ac (xI ["_law_more"] ["_law_k","_law_name","_law_more"] [none,none,some 1] rfl ⟨rfl,rfl,rfl,rfl⟩ (xa rfl U.en (ac (pv 5) zb)) (yw (K:=K) (n:=2) 0 1) rfl rfl rfl
    (fun pins fp s H C=>⟨yc rfl (zt (zk (i:=0) zjv rfl (Or.inl rfl) (.inr rfl)) (zt (zk (i:=1) zjv rfl (Or.inl rfl) (.inr rfl)) zV)),xp,zH (ac (pv 1) (ac (cF cT hr (ac (pv 2) (ac (pv 0) zb))) zb))⟩)) zb))))))),?_⟩
 have c0 : 0<=cell % 9:=Int.emod_nonneg _ (by decide)
 have c1:cell % 9 < 9:=Int.emod_lt_of_pos _ (by decide)
 have m0 : 0<=more % 8:=Int.emod_nonneg _ (by decide)
 have m1:more % 8 < 8:=Int.emod_lt_of_pos _ (by decide)
 refine ⟨_,rfl,_,_,rfl,rfl,(by show (0:Int) < 9; decide),cell % 9,rfl,by omega,by omega,fun D1 hD1=>?_⟩
 refine vh (n:=(cell % 9).toNat) (fun i ys H'=>zm H H'/\H' D1 = some (.lst ys)/\ys = ((List.range i).map fun (k:Nat)=>wf cell (k:Int)).map V.int) ⟨zc hD1 _,za,rfl⟩ ?_ ?_
 ·rintro i ys H' hi ⟨sH,hDy,ey⟩
  refine ⟨fun _=>?_,fun e=>Bool.noConfusion e⟩
  refine ⟨_,rfl,_,rfl,cell,_,rfl,b1,?_⟩
  refine lcN.mk hi (z8 (by omega)) hDy (by rw [ey,List.length_map,List.length_map,List.length_range]; exact Nat.le_refl _) ⟨fun b' u e=>by rw [zi (zf e hD1)]; exact sH _ _ e,za,?_⟩
  rw [ey,List.range_succ,List.map_append,List.map_append,Int.zero_add]
  rfl
 rintro ys1 H1 ⟨s1,hD1v,ey1⟩
 have hD1v:H1 D1 = some (.lst ((zgi cell).map V.int)):=by rw [hD1v,ey1]; rfl
 clear ey1
 refine ⟨_,rfl,_,_,rfl,rfl,zp8,more % 8,rfl,by omega,by omega,fun D2 hD2=>?_⟩
 have hpa1:=s1 _ _ hpa
 refine vh (n:=(more % 8).toNat) (fun i ys H'=>zm H1 H'/\H' D2 = some (.lst ys)/\ys = ((List.range i).map (zdm more pool span)).map V.str) ⟨zc hD2 _,za,rfl⟩ ?_ ?_
 ·rintro i ys H' hi ⟨sH,hDy,ey⟩
  refine ⟨fun _=>?_,fun e=>Bool.noConfusion e⟩
  have d0 : 0<=xQ more ((0:Int) + (i:Int)) % (span:Int):=Int.emod_nonneg _ (by omega)
  have d1:xQ more ((0:Int) + (i:Int)) % (span:Int) < (span:Int):=Int.emod_lt_of_pos _ (by omega)
  obtain ⟨j,hj⟩:=Int.eq_ofNat_of_zero_le d0
  have hjl:j < pool.length:=by omega
  have en:zdm more pool span i = pool[j]:=by
   unfold zdm
   rw [Int.zero_add] at hj
   rw [hj,Int.toNat_natCast,List.getD_eq_getElem?_getD,List.getElem?_eq_getElem hjl]
   rfl
  refine ⟨_,rfl,_,rfl,_,rfl,more,_,rfl,_,rfl,_,_,rfl,rfl,(by omega),pa,_,_,.str pool[j],rfl,rfl,SqL.of (sH _ _ hpa1),(by rw [hj]; exact y4 (by rw [List.getElem?_map,List.getElem?_eq_getElem hjl]; rfl)),?_⟩
  refine lcN.mk hi (z8 (by omega)) hDy (by rw [ey,List.length_map,List.length_map,List.length_range]; exact Nat.le_refl _) ⟨fun b' u e=>by rw [zi (zf e hD2)]; exact sH _ _ e,za,?_⟩
  rw [ey,List.range_succ,List.map_append,List.map_append,<- en]
  rfl
 rintro ys2 H2 ⟨s2,hD2v,ey2⟩
 have hD2v:H2 D2 = some (.lst ((ja more pool span).map V.str)):=by rw [hD2v,ey2]; rfl
 clear ey2
 have ln1:=vW more pool span
 dsimp only [yg]
 refine yC (fun σ' H'=>∃ D3,σ' = [some (.int cell),some (.int more),some (.ref pa),some (.int (span:Nat)),some (.ref D1),some (.ref D3)]/\zm H2 H'/\H1 D3 = none/\H' D3 = some (.lst ((vV more pool span).map V.str))) ?_ (fun key=>?_)
 rotate_left
 ·refine ⟨_,rfl,_,_,rfl,rfl,⟨by decide,by decide⟩,_,_,rfl,rfl,(by show (0:Int) < 3; decide),rfl,_,rfl,?_⟩
  by_cases h3:more / 8 % 3 = 0
  ·refine dT (congrArg V.int h3) ?_
   refine ⟨_,rfl,D2,rfl,⟨_,SqL.of hD2v⟩,fun D3 hD3=>?_⟩
   generalize hz:ja more pool span = zs at hD2v ln1
   refine jB (K:=K) (xs:=zs.map V.str) zs.zipIdx (fun p=>decide (p.1 ∉ zs.take p.2)) (fun p=>V.str p.1) hD3 (SqL.of hD2v) (by rw [List.length_map,List.length_zipIdx]) (by rw [List.length_map]; omega) ?_ ?_
   ·rintro i x y p H' N S hx hy hp sH qN qS
    obtain ⟨z,hz',rfl⟩:=strs_at hx
    rw [List.getElem?_zipIdx,hz'] at hy
    cases hy
    have sp:=zc hp (.tup [.int (i:Nat),.str z])
    have hD2':=sp _ _ (sH _ _ hD2v)
    refine ⟨p,_,rfl,SqT.of za,rfl,_,_,rfl,_,_,rfl,rfl,?_⟩
    generalize upd H' p (.tup [.int (i:Nat),.str z]) = H3 at sp hD2' |-
    refine ⟨_,rfl,_,rfl,_,rfl,_,rfl,D2,_,rfl,SqL.of hD2',fun l hl=>?_⟩
    rw [yN,<- List.map_take]
    have s4:=zc hl (.lst ((zs.take i).map V.str))
    refine ⟨l,_,rfl,.inl (SqL.of za),rfl,xT,_,rfl,?_⟩
    have sp4:=sp.trans s4
    generalize upd H3 l (.lst ((zs.take i).map V.str)) = H4 at s4 sp4 |-
    rw [if_pos rfl,wl]
    refine ⟨fun e=>⟨_,rfl,qN _ sp4 ?_⟩,fun e=>qS _ sp4 ?_⟩
    ·show decide (z ∉ zs.take (0 + i)) = true
     rw [Nat.zero_add]
     rw [Bool.not_eq_true',decide_eq_false_iff_not] at e
     exact decide_eq_true e
    ·show decide (z ∉ zs.take (0 + i)) = false
     rw [Nat.zero_add]
     rw [Bool.not_eq_false',decide_eq_true_eq] at e
     exact decide_eq_false fun h=>h e
   ·intro H' sH hDv
    refine key _ _ ⟨D3,rfl,sH,s2.free hD3,?_⟩
    rw [hDv]
    unfold vV
    rw [if_pos h3,hz]
    unfold zhg
    rw [List.map_map]
    rfl
  ·refine dF (fun e=>h3 (V.int.inj e)) ?_
   refine key _ _ ⟨D2,rfl,zm.refl _,hD2,?_⟩
   rw [hD2v]
   unfold vV
   rw [if_neg h3]
 rintro σ3 H3 ⟨D3,rfl,s3,nD3,hD3v⟩
 have ln2:=jX more pool span
 refine ⟨_,rfl,_,rfl,D3,rfl,⟨_,SqL.of hD3v⟩,fun D4 hD4=>?_⟩
 generalize hz:vV more pool span = zs at hD3v ln2
 refine zfR (K:=K) (m:=1) (xs:=zs.map V.str) (fun i=>ye (zs.getD i "",wf more (i:Int))) hD4 (SqL.of hD3v) (by rw [List.length_map]; omega) (fun i x p H' Qf Qs hx hp sH qf=>?_) (fun vs H' sH hDv hp=>?_)
 ·obtain ⟨z,hz',rfl⟩:=strs_at hx
  have sp:=zc hp (.tup [.int (i:Nat),.str z])
  refine ⟨p,_,rfl,SqT.of za,rfl,_,_,rfl,_,_,rfl,rfl,fun _=>?_,fun e=>Bool.noConfusion e⟩
  generalize upd H' p (.tup [.int (i:Nat),.str z]) = H4 at sp |-
  refine ⟨_,rfl,_,rfl,_,rfl,more,_,rfl,b2,zz2,fun u hu=>?_⟩
  have s5:=zc hu (.tup [.str z,.int (wf more (i:Nat))])
  refine qf _ _ (sp.trans s5) (.tup (SqT.of za) ?_)
  have ez:zs.getD i "" = z:=by rw [List.getD_eq_getElem?_getD,hz']; rfl
  rw [ez]
  exact .cons .str (.cons .int .nil)
 ·refine ⟨zz2,fun t ht=>?_⟩
  have s5:=zc ht (.tup [.ref D1,.ref D4])
  have s13:zm H1 H3:=s2.trans s3
  have sA:zm H1 H':=s13.trans sH
  have n14:D1 ≠ D4:=zf (s13 _ _ hD1v) hD4
  refine q t _ (s1.trans (sA.trans s5)) ⟨D1,D4,vs,hD1,s1.free (s13.free hD4),n14,s1.free (sA.free ht),za,s5 _ _ (sA _ _ hD1v),s5 _ _ hDv,?_⟩
  have e:(zeF more pool span).map ye = (List.range (zs.map V.str).length).map fun i=>ye (zs.getD i "",wf more (i:Int)):=by
   unfold zeF
   rw [hz,List.length_map]
   refine List.ext_getElem? fun i=>?_
   rw [List.getElem?_map,List.getElem?_map,List.getElem?_map,List.getElem?_zipIdx]
   by_cases hi:i < zs.length
   ·rw [List.getElem?_range hi,List.getElem?_eq_getElem hi]
    show some (ye (zs[i],wf more ((0 + i:Nat):Int))) = some (ye (zs.getD i "",_))
    rw [Nat.zero_add,List.getD_eq_getElem?_getD,List.getElem?_eq_getElem hi]
    rfl
   ·rw [List.getElem?_eq_none (by omega),List.getElem?_eq_none (by rw [List.length_range]; omega)]
    rfl
  rw [e]
  exact Paired.imp' (fun _ _ z=>(vp (fun _ _ _=>True.intro) z).same s5) hp
end
end K25
namespace L2
open PySem PySem.Spec PyProof.Rows PySem.Builtin
section
variable {prog:Program} {w:World} {A:Around} {E:Value->Shared->Prop} {s:Shared} {it l ea C t:Addr} {od:Option Addr} {tb:Value} {i:Nat} {items:Array Value} {Q:Option Value->Shared->Prop}
end
section
variable {prog:Program} {w:World} {A:Around} {E:Value->Shared->Prop} {s:Shared} {ea C tt:Addr} {od:Option Addr} {tb:Value}
end
end L2
namespace L2
open PySem PySem.Spec PyProof.Rows
def zgl (lo c:Int) (n:Nat):It:=⟨fun i _=>i < n,fun i H x H'=>H' = H/\x = .int (lo + i * c),fun i _=>n<=i⟩
theorem zbb {P:Program} {w:World} {K:Frag} {tg:Expr} (it:Addr) (lo c:Int) (n:Nat):za3 P w K tg (zgl lo c n) [it] it (fun i h=>IsRangeIter h it (lo + (i:Nat) * c) ((n:Int) - (i:Nat)) c) where
 mem:=by simp
 obj:=fun i h st b hb=>by
  have e:b = it:=by simpa using hb
  subst e
  exact ⟨_,st,fun v z=>by
   have z':Data.fields _ = Data.cell v:=z
   cases z'⟩
 keep:=fun i h h' st k=>k it (by simp) _ st
 item:=by
  intro X hP hw hK hc i pins s σ H E I hf st hg
  subst hP hw hK
  obtain ⟨f0,f1,f2,f3,f4,f5⟩:=hf it (by simp)
  have W:=Walks.range (prog:=X.prog) (w:=X.w) (I.ok.hd hc) it lo c n
  refine W.item i s _ _ hg st fun v h' tk hv st' kk=>?_
  obtain ⟨t,rfl⟩:=hv
  have I1:Inv X pins σ H { s with heap:=h',toks:=tk }:=I.turned (fun b o hb e=>kk b o (by simpa using hb) e) f0 f1 f3 f4 f5
  exact ⟨_,rfl,zdr (s:={ s with heap:=h',toks:=tk }) (n:="range_iterator") st' rfl rfl (by decide) ⟨.int (lo + i * c),H,I1,⟨t,rfl⟩,⟨rfl,rfl⟩,st',fun b hb=>(hf b hb).1⟩⟩
 done:=by
  intro X hP hw hK hc i pins s σ H E I hf st hg
  subst hP hw hK
  obtain ⟨f0,f1,f2,f3,f4,f5⟩:=hf it (by simp)
  exact wpAny_pyNext_range_end (I.ok.hd hc) st (by have:n<=i:=hg; omega) fun h' eb=>⟨rfl,I.turned (t':=s.toks) (fun b o hb e=>eb b o hb e) f0 f1 f3 f4 f5⟩
 self:=fun _ _ _ _ _ st h=>wpAny_pyIter_rangeiter st h
def rsz (a b c:Nat):Nat:=if a < b then (b - a - 1) / c + 1 else 0
theorem zeU {a b c:Nat} (hc : 0 < c):Builtin.Range.rangeSize (a:Int) (b:Int) (c:Int) = (rsz a b c:Nat):=by
 unfold Builtin.Range.rangeSize rsz
 rw [if_pos (by omega)]
 by_cases h:a < b
 ·rw [if_pos (by omega),if_pos h]
  have:(b:Int) - (a:Int) - 1 = ((b - a - 1:Nat):Int):=by omega
  rw [this]
  rfl
 ·rw [if_neg (by omega),if_neg h]
  rfl
theorem zh4 {a b c:Nat} (hb:b<=1000):rsz a b c<=1001:=by
 unfold rsz
 split
 ·have:=Nat.div_le_self (b - a - 1) c
  omega
 ·omega
theorem zbg {a b c:Nat} (ha:a<=1000) (hb:b<=1000) (hc : 0 < c) (hc':c<=1000):Builtin.Range.small (a:Int) (b:Int) (c:Int) = true:=by
 unfold Builtin.Range.small
 rw [zeU hc]
 have:=zh4 (a:=a) (c:=c) hb
 simp only [Builtin.Range.rangeFitsLong,Bool.and_eq_true,Bool.or_eq_true,decide_eq_true_eq,beq_iff_eq,show (c:Int) > 0 by omega,if_true]
 omega
section
variable {X:Cx} {tg:Expr}
def zjA (ta:TA):TI:=fun σ H R=>ta σ H fun vs H1=>∃ a b c:Nat,vs = [.int (a:Nat),.int (b:Nat),.int (c:Nat)]/\a<=1000/\b<=1000/\0 < c/\c<=1000/\R (zgl (a:Nat) (c:Nat) (rsz a b c)) H1
theorem zd0 {a b c:Expr} {ta:TA} {p pos:Pos} (hg:Gl X "range") (hm:X.mg "range" = none) (ha:PA X [a,b,c] ta) (hs:starEach [a,b,c] X.env = [(false,eval a X.env),(false,eval b X.env),(false,eval c X.env)]:=by rfl) (hs2:starEach [b,c] X.env = [(false,eval b X.env),(false,eval c X.env)]:=by rfl) :
  PI X tg (.Call (.Name "range" p) [a,b,c] [] pos) (zjA ta):=by
 refine ⟨?_⟩
 intro pins s σ H R I h
 refine Call_ (vg I hg hm boot_range (PyProof.Rows.callWith_type1 (thn (ha pos pins s σ H _ I h) fun us s1 ⟨vs,H1,I1,r1,q1⟩=>?_) (by rw [hs,hs2]) (by rw [hs2]; rfl)))
 obtain ⟨i,j,k,e,q1,q2,q3,q4,q⟩:=q1
 subst e
 cases r1 with
 | cons r rr=>
  cases rr with
  | cons r' rr=>
   cases rr with
   | cons r'' rr=>
    cases rr
    obtain ⟨t,rfl⟩:=r
    obtain ⟨t',rfl⟩:=r'
    obtain ⟨t'',rfl⟩:=r''
    refine call_range_3 (by omega) ?_ (Or.inl (PyProof.noPylong_small (by omega)))
    refine wpAny_pyIter_range (IsRange.new ..) (zbg q1 q2 q3 q4) ?_
    have I2:Inv X pins σ H1 { s1 with heap:=s1.heap.push { cls:=.type "range",data:=.fields #[.int (i:Nat) t,.int (j:Nat) t',.int (k:Nat) t''] },toks:=s1.toks }:=I1.kept fun b o e=>Heap.get?_push_of_some _ e
    refine ⟨(s1.heap.push { cls:=.type "range",data:=.fields #[.int (i:Nat) t,.int (j:Nat) t',.int (k:Nat) t''] }).objs.size,[(s1.heap.push { cls:=.type "range",data:=.fields #[.int (i:Nat) t,.int (j:Nat) t',.int (k:Nat) t''] }).objs.size],_,_,H1,rfl,
     I2.kept (t':=s1.toks) fun b o e=>Heap.get?_push_of_some _ e,zbb _ (i:Nat) (k:Nat) (rsz i j k),?_,fun b hb=>?_,q⟩
    ·have e1:(i:Int) + ((0:Nat):Int) * (k:Int) = (i:Int):=by simp
     have e2:((rsz i j k:Nat):Int) - ((0:Nat):Int) = Builtin.Range.rangeSize (i:Int) (j:Int) (k:Int):=by rw [zeU q3]; simp
     show IsRangeIter _ _ ((i:Int) + ((0:Nat):Int) * (k:Int)) (((rsz i j k:Nat):Int) - ((0:Nat):Int)) (k:Int)
     rw [e1,e2]
     exact Heap.get?_push_size _ rfl
    ·have e:b = (s1.heap.push { cls:=.type "range",data:=.fields #[.int (i:Nat) t,.int (j:Nat) t',.int (k:Nat) t''] }).objs.size:=by simpa using hb
     subst e
     exact I2.fpOk (Nat.le_refl _) (I2.hok.fresh (Nat.le_refl _))
end
theorem zcM {lo c:Int} {n:Nat} {g:TG} {tb:TS} {D:jh} {σ : St} {H:Hp} (Pv:Nat->St->Hp->Prop) (h0:Pv 0 σ H)
  (hs:∀ i σ H,i < n->Pv i σ H->g (.int (lo + i * c)) σ H fun σ2 H2=>tb { D with nx:=Pv (i + 1),ct:=Pv (i + 1),bk:=D.nx } σ2 H2) (hd:∀ σ H,Pv n σ H->D.nx σ H) :
  ∃ W:Nat->Nat->St->Hp->Prop,(∃ m,W 0 m σ H)/\∀ i m σ H,W i m σ H->
   ((zgl lo c n).stop i H/\D.nx σ H)\/((zgl lo c n).go i H/\∃ N:St->Hp->Prop,(∀ σ' H',N σ' H'->∃ m',m' < m/\W (i + 1) m' σ' H')/\∀ x H',(zgl lo c n).yld i H x H'->g x σ H' fun σ2 H2=>tb { D with nx:=N,ct:=N,bk:=D.nx } σ2 H2):=by
 refine ⟨fun i m σ H=>m = n - i/\i<=n/\Pv i σ H,⟨n,by simp,Nat.zero_le _,h0⟩,?_⟩
 rintro i m σ H ⟨rfl,hi,p⟩
 by_cases hlt:i < n
 ·refine .inr ⟨hlt,Pv (i + 1),fun σ' H' p'=>⟨n - (i + 1),by omega,rfl,hlt,p'⟩,fun x H' y=>?_⟩
  obtain ⟨e,y⟩:=y
  subst e y
  exact hs i σ _ hlt p
 ·have e:i = n:=by omega
  subst e
  exact .inl ⟨Nat.le_refl _,hd σ H p⟩
theorem zcV {α : Type} {R:Addr->α->Prop} {us:List Addr} {rows:List α} (h:Paired R us rows) (keep : α->Bool):∃ vs:List Addr,((us.zip rows).filter fun p=>keep p.2).map (fun p=>V.ref p.1) = vs.map V.ref/\Paired R vs (rows.filter keep):=by
 induction h with
 | nil=>exact ⟨[],rfl,.nil⟩
 | cons r t ih=>
  rename_i u y us ys
  obtain ⟨vs,e,p⟩:=ih
  rw [List.zip_cons_cons,List.filter_cons,List.filter_cons]
  cases hk:keep y with
  | true=>
   refine ⟨u :: vs,?_,?_⟩
   ·rw [if_pos rfl,List.map_cons,e]
    rfl
   ·rw [if_pos rfl]
    exact .cons r p
  | false=>exact ⟨vs,by rw [if_neg Bool.false_ne_true,e],by rw [if_neg Bool.false_ne_true]; exact p⟩
theorem zfP {α : Type} {K:Frag} {a:Addr} {us:List Addr} {rows:List α} {caps:List (Option Nat)} {g:TG} {tt:TT} {te:TE} {σ : L2.St} {H1:Hp} {Q:VK} {D:Addr} (R:Hp->Addr->α->Prop) (keep : α->Bool) (out:Addr->α->V) (hD:H1 D = none) (ha:H1 a = some (.lst (us.map V.ref))) (hu:Paired (R H1) us rows) (hn:rows.length<=1000)
  (hs:∀ (i:Nat) (u:Addr) (y : α) (H:Hp) (N:VK) (S:Hp->Prop),us[i]? = some u->rows[i]? = some y->R H1 u y->zm H1 H->(∀ H',zm H H'->keep y = true->N (out u y) H')->(∀ H',zm H H'->keep y = false->S H')->g (.ref u) (yX caps σ) H fun σ2 H2=>tt σ2 H2 fun ok H3=>(ok = true->te σ2 H3 N)/\(ok = false->S H3))
  (hd:∀ H,zm H1 H->H D = some (.lst (((us.zip rows).filter fun p=>keep p.2).map fun p=>out p.1 p.2))->Q (.ref D) H):LCr (Itl K a) caps g tt te σ H1 Q D:=by
 have hl:us.length = rows.length:=hu.length
 have lz:(us.zip rows).length = rows.length:=by rw [List.length_zip,hl,Nat.min_self]
 refine j3 (K:=K) (xs:=us.map V.ref) (us.zip rows) (fun p=>keep p.2) (fun p=>out p.1 p.2) hD (SqL.of ha) (by rw [List.length_map,lz,hl]) (by rw [List.length_map,hl]; exact hn) (fun i x y H N S hx hy sH n1 s1=>?_) hd
 have hi:i < rows.length:=by rw [<- lz]; exact (List.getElem?_eq_some_iff.mp hy).1
 have e1:(us.zip rows)[i]? = some (us[i],rows[i]):=by
  rw [List.getElem?_eq_getElem (by omega),List.getElem_zip]
 rw [e1] at hy
 cases hy
 have hu1:us[i]? = some us[i]:=List.getElem?_eq_getElem (by omega)
 rw [List.getElem?_map,hu1] at hx
 cases hx
 obtain ⟨d,hd',hr⟩:=Paired.get hu hu1
 have e2:rows[i]? = some rows[i]:=List.getElem?_eq_getElem hi
 rw [e2] at hd'
 cases hd'
 exact hs i us[i] rows[i] H N S hu1 e2 hr sH n1 s1
section
variable {X:Cx} {pins:List (Addr × Obj)} {σ : St} {e o:Expr} {es:List Expr} {ta:TE} {t:TA} {E:XK} {m:Str} {pos apos:Pos} {k:Nat} {f C:Addr} {fd:FuncData} {ps:List Str} {sp:Sp}
end
section
variable {X:Cx} {elts:List Expr} {x1:Nat} {tpos:Pos}
end
section
variable {P:Program} {w:World} {A:Around} {R:Result->Shared->Prop} {I:Addr} {fp wr:List Addr} {G:Array GenState->Array GenState->Prop} {n:Nat} {Pr:Nat->Value->Prop} {Sg:Nat->Shared->Prop}
end
def zj3 (n:Bool):R2:=fun x y H Q=>∃ (a c:Addr) (xs:List V),x = .ref a/\y = .ref c/\H a = some (.lst xs)/\H c = some (.lst [])/\Q (.bl (n != xs.isEmpty)) H
theorem zfk {X:Cx} (hu:X.A.units + 64 < cLine):OpR X (compareOp .Eq) (zj3 false):=by
 intro pins s σ H x y v u Q I rx ry h
 obtain ⟨a,c,xs,rfl,rfl,ha,hc,q⟩:=h
 cases xs with
 | nil=>exact jU hu pins s σ H _ _ v u Q I rx ry ⟨a,c,0,.lst [],fun _=>True,fun _=>True,rfl,rfl,by decide,zF.lst True.intro ha .nil,zF.lst True.intro hc .nil,q⟩
 | cons z zs=>exact zbw (by omega) pins s σ H _ _ v u Q I rx ry ⟨a,c,_,_,rfl,rfl,ha,hc,by simp,q⟩
end L2
namespace K25
open PySem L2 PyProof.Rows
theorem zf1 {k:Nat} (h:k < 5):xc k = decide (grp k = 0):=by rcases lt5 h with rfl | rfl | rfl | rfl | rfl <;> rfl
theorem zjj:∀ (rows:List Rw) {l l':Nat},l'<=l->zW l rows = true->zW l' rows = true
 | [],_,_,_,_=>rfl
 | r :: rs,l,l',hl,h=>by
  have h':(!yB l (grp r.k) && zW (grp r.k) rs) = true:=h
  show (!yB l' (grp r.k) && zW (grp r.k) rs) = true
  rw [Bool.and_eq_true,Bool.not_eq_true'] at h' |-
  refine ⟨?_,h'.2⟩
  have hb:=h'.1
  unfold yB at hb |-
  simp only [Bool.or_eq_false_iff,decide_eq_false_iff_not,Bool.and_eq_false_iff,beq_eq_false_iff_ne] at hb |-
  omega
theorem zbt:∀ (rows:List Rw) {l:Nat},0 < l->(∀ r ∈ rows,r.ok)->zW l rows = true->∀ r ∈ rows,xc r.k = false
 | [],_,_,_,_,r,hr=>by cases hr
 | x :: xs,l,hl,hok,h,r,hr=>by
  have h':(!yB l (grp x.k) && zW (grp x.k) xs) = true:=h
  rw [Bool.and_eq_true,Bool.not_eq_true'] at h'
  have hb:=h'.1
  unfold yB at hb
  simp only [Bool.or_eq_false_iff,decide_eq_false_iff_not] at hb
  have hg : 0 < grp x.k:=by omega
  rcases List.mem_cons.mp hr with rfl | hr
  ·rw [zf1 (hok _ List.mem_cons_self).1,decide_eq_false (by omega)]
  ·exact zbt xs hg (fun r hr=>hok r (List.mem_cons_of_mem _ hr)) h'.2 r hr
theorem ze5 {rows:List Rw} (h:∀ r ∈ rows,xc r.k = false):plN rows = 0:=by
 unfold plN
 rw [List.length_eq_zero_iff,List.filter_eq_nil_iff]
 exact fun r hr=>by rw [h r hr]; decide
theorem zbe:∀ rows:List Rw,(∀ r ∈ rows,r.ok)->zW 0 rows = true->∃ A B,rows = A ++ B/\A.length = plN rows/\(∀ r ∈ A,grp r.k = 0)/\zW 0 B = true
 | [],_,_=>⟨[],[],rfl,rfl,(fun r hr=>by cases hr),rfl⟩
 | r :: rs,hok,h=>by
  have h':(!yB 0 (grp r.k) && zW (grp r.k) rs) = true:=h
  rw [Bool.and_eq_true,Bool.not_eq_true'] at h'
  by_cases hg:grp r.k = 0
  ·have h2:=h'.2
   rw [hg] at h2
   obtain ⟨A,B,e,hl,hA,hB⟩:=zbe rs (fun x hx=>hok x (List.mem_cons_of_mem _ hx)) h2
   refine ⟨r :: A,B,by rw [e]; rfl,?_,fun x hx=>?_,hB⟩
   ·have hp:xc r.k = true:=by rw [zf1 (hok r List.mem_cons_self).1,hg]; rfl
    unfold plN at hl |-
    rw [List.filter_cons,if_pos hp,List.length_cons,List.length_cons,hl]
   ·rcases List.mem_cons.mp hx with rfl | hx
    ·exact hg
    ·exact hA x hx
  ·refine ⟨[],r :: rs,rfl,?_,(fun x hx=>by cases hx),h⟩
   rw [ze5]
   ·rfl
   ·intro x hx
    rcases List.mem_cons.mp hx with rfl | hx
    ·rw [zf1 (hok _ List.mem_cons_self).1,decide_eq_false hg]
    ·exact zbt rs (by omega) (fun x hx=>hok x (List.mem_cons_of_mem _ hx)) h'.2 x hx
theorem zcX {κ : Type} [DecidableEq κ] {kvs:List (κ × V)} {k k' : κ} {v:V}:zL (yr kvs k v) k' = if k' = k then some v else zL kvs k':=za8 kvs k k' v
theorem vd (r:Rw) (rs:List Rw):nms (r :: rs) = (if z0 r.k = true then [r.z] else []) ++ nms rs:=by
 have:=wL [r] rs
 rw [jz] at this
 exact this
theorem uz {z:Str}:∀ (rows:List Rw) (i:Nat) (acc:List (Key × V)),z ∉ nms rows->zL (yl i acc rows) (.inr z) = zL acc (.inr z)
 | [],_,_,_=>rfl
 | r :: rs,i,acc,h=>by
  rw [vd] at h
  have h2:z ∉ nms rs:=fun e=>h (List.mem_append_right _ e)
  show zL (yl (i + 1) _ rs) (.inr z) = _
  rw [uz rs (i + 1) _ h2]
  split
  next e=>
   rw [zcX,if_neg]
   intro e2
   rw [if_pos e] at h
   exact h (by rw [Sum.inr.inj e2]; exact List.mem_append_left _ (List.mem_singleton.mpr rfl))
  ·rfl
theorem xW {r:Rw} (hb:z0 r.k = true):∀ (rows:List Rw) (i j:Nat) (acc:List (Key × V)),rows[j]? = some r->(nms rows).Nodup->zL (yl i acc rows) (.inr r.z) = some (.int ((i + j:Nat):Int))
 | [],_,_,_,h,_=>by simp at h
 | y :: ys,i,0,acc,h,nd=>by
  have e:y = r:=by simpa using h
  subst e
  rw [vd,if_pos hb] at nd
  have hz:y.z ∉ nms ys:=(List.nodup_cons.mp nd).1
  show zL (yl (i + 1) (if z0 y.k = true then yr acc (.inr y.z) (.int i) else acc) ys) (.inr y.z) = _
  rw [uz ys (i + 1) _ hz,if_pos hb,zcX,if_pos rfl]
  rfl
 | y :: ys,i,j + 1,acc,h,nd=>by
  rw [vd] at nd
  have nd2:=(List.nodup_append.mp nd).2.1
  show zL (yl (i + 1) _ ys) (.inr r.z) = _
  rw [xW hb ys (i + 1) j _ (by simpa using h) nd2,show i + 1 + j = i + (j + 1) by omega]
theorem zgn {a b:List (Str × Nat)} {z:Str} {v:V} (h:zL (kvP a) (.inr z) = some v):zL (kvP (a ++ b)) (.inr z) = some v:=by
 unfold zL at h |-
 unfold kvP at h |-
 rw [List.map_append,List.find?_append]
 cases e:(a.map fun p=>((Sum.inr p.1:Key),V.int (p.2:Nat))).find? fun kv=>decide (kv.1 = .inr z) with
 | none=>rw [e] at h; cases h
 | some kv=>rw [e] at h; exact h
theorem zgm {a:List (Str × Nat)} {z:Str} {i:Nat} (h:(a.any fun p=>decide (p.1 = z)) = false):zL (kvP (a ++ [(z,i)])) (.inr z) = some (.int (i:Nat)):=by
 have e0:zL (kvP a) (.inr z) = none:=by
  rw [<- wb] at h
  exact Option.not_isSome_iff_eq_none.mp (by rw [h]; exact Bool.false_ne_true)
 unfold zL at e0 |-
 unfold kvP at e0 |-
 rw [List.map_append,List.find?_append]
 cases e:(a.map fun p=>((Sum.inr p.1:Key),V.int (p.2:Nat))).find? fun kv=>decide (kv.1 = .inr z) with
 | none=>
  rw [Option.none_or,List.map_cons,List.find?_cons,decide_eq_true rfl]
  rfl
 | some kv=>rw [e] at e0; cases e0
theorem zan {z:Str} {v:V}:∀ (zs:List Str) (i:Nat) (acc:List (Str × Nat)),zL (kvP acc) (.inr z) = some v->zL (kvP (fpF i acc zs)) (.inr z) = some v
 | [],_,_,h=>h
 | y :: ys,i,acc,h=>by
  show zL (kvP (fpF (i + 1) (if (acc.any fun p=>decide (p.1 = y)) = true then acc else acc ++ [(y,i)]) ys)) _ = _
  split
  ·exact zan ys (i + 1) acc h
  ·exact zan ys (i + 1) _ (zgn h)
theorem zhl {acc:List (Str × Nat)} {z:Str}:(acc.any fun p=>decide (p.1 = z)) = decide (z ∈ acc.map (·.1)):=by
 rw [Bool.eq_iff_iff,List.any_eq_true,decide_eq_true_eq,List.mem_map]
 exact ⟨fun ⟨p,h1,h2⟩=>⟨p,h1,of_decide_eq_true h2⟩,fun ⟨p,h1,h2⟩=>⟨p,h1,decide_eq_true h2⟩⟩
theorem zfL {rows:List Rw} {z:Str} (h:z ∈ nms rows):∃ (l:Nat) (r:Rw),rows[l]? = some r/\z0 r.k = true/\r.z = z:=by
 unfold nms at h
 obtain ⟨r,hr,rfl⟩:=List.mem_map.mp h
 rw [List.mem_filter] at hr
 obtain ⟨l,hl⟩:=List.mem_iff_getElem?.mp hr.1
 exact ⟨l,r,hl,hr.2,rfl⟩
theorem zhE {rows:List Rw} {bars:List Str} {many:Nat} {z:Str} (h:z ∉ bars) (hk:z ∉ nms rows):yd rows bars many z = if (zy 4 0 rows).isSome = true then none else some ("strange" : Str):=by
 have hv:=uz (z:=z) rows 0 [] hk
 have e1:yd.lastD' z rows = none:=by unfold yd.lastD'; rw [hv]; rfl
 unfold yd
 rw [if_neg h,e1]
theorem zaX:∀ (a b:List Str) (j:Nat) (acc:List (Str × Nat)),fpF j acc (a ++ b) = fpF (j + a.length) (fpF j acc a) b
 | [],_,_,_=>rfl
 | z :: zs,b,j,acc=>by
  show fpF (j + 1) _ (zs ++ b) = fpF (j + (zs.length + 1)) (fpF (j + 1) _ zs) b
  rw [zaX zs b (j + 1),show j + 1 + zs.length = j + (zs.length + 1) by omega]
theorem zhC:∀ (zs:List Str) (j:Nat) (acc:List (Str × Nat)),(∀ p ∈ acc,p.2 < j)->∀ p ∈ fpF j acc zs,p.2 < j + zs.length
 | [],_,_,h,p,hp=>h p hp
 | z :: zs,j,acc,h,p,hp=>by
  have h2:=zhC zs (j + 1) _ (fun q hq=>?_) p hp
  ·rw [List.length_cons]; omega
  ·split at hq
   ·have:=h q hq; omega
   ·rcases List.mem_append.mp hq with hq | hq
    ·have:=h q hq; omega
    ·rw [List.mem_singleton.mp hq]; exact Nat.lt_succ_self _
theorem zb7 {zs:List Str} {i:Nat} {z:Str} (h:zs[i]? = some z):zs.take (i + 1) = zs.take i ++ [z]:=by
 have hi:i < zs.length:=(List.getElem?_eq_some_iff.mp h).1
 have e:zs[i] = z:=(List.getElem?_eq_some_iff.mp h).2
 rw [List.take_succ_eq_append_getElem hi,e]
theorem zds {zs:List Str} {i:Nat} {z:Str} (h:zs[i]? = some z):fpF 0 [] (zs.take (i + 1)) = if ((fpF 0 [] (zs.take i)).any fun p=>decide (p.1 = z)) = true then fpF 0 [] (zs.take i) else fpF 0 [] (zs.take i) ++ [(z,i)]:=by
 have hi:i < zs.length:=(List.getElem?_eq_some_iff.mp h).1
 rw [zb7 h,zaX]
 have el : 0 + (zs.take i).length = i:=by rw [List.length_take]; omega
 rw [el]
 rfl
theorem zaY {zs:List Str} {i:Nat} {z:Str} (h:zs[i]? = some z):decide (zL (kvP (fpZ zs)) (.inr z) = some (.int (i:Nat))) = !((fpF 0 [] (zs.take i)).any fun p=>decide (p.1 = z)):=by
 have hi:i < zs.length:=(List.getElem?_eq_some_iff.mp h).1
 have e:fpZ zs = fpF (i + 1) (fpF 0 [] (zs.take (i + 1))) (zs.drop (i + 1)):=by
  unfold fpZ
  conv=>lhs; rw [<- List.take_append_drop (i + 1) zs,zaX]
  rw [show 0 + (zs.take (i + 1)).length = i + 1 by rw [List.length_take]; omega]
 cases hb:(fpF 0 [] (zs.take i)).any fun p=>decide (p.1 = z) with
 | true=>
  have hs:(zL (kvP (fpF 0 [] (zs.take i))) (.inr z)).isSome = true:=by rw [wb]; exact hb
  obtain ⟨v,hv⟩:=Option.isSome_iff_exists.mp hs
  obtain ⟨z',j,ez,ev,hm⟩:=jC hv
  have hj:=zhC (zs.take i) 0 [] (fun p hp=>by cases hp) _ hm
  rw [List.length_take] at hj
  have h2:=zds h
  rw [hb,if_pos rfl] at h2
  have h3:=zan (z:=z) (v:=v) (zs.drop (i + 1)) (i + 1) (fpF 0 [] (zs.take (i + 1))) (by rw [h2]; exact hv)
  rw [e,h3,ev]
  refine decide_eq_false fun e2=>?_
  have:(j:Int) = (i:Int):=V.int.inj (Option.some.inj e2)
  have hj':j < 0 + min i zs.length:=hj
  omega
 | false=>
  have h2:=zds h
  rw [hb,if_neg (by decide)] at h2
  have h3:=zan (z:=z) (v:=.int (i:Nat)) (zs.drop (i + 1)) (i + 1) (fpF 0 [] (zs.take (i + 1))) (by rw [h2]; exact zgm hb)
  rw [e,h3]
  exact decide_eq_true rfl
def uG (rows:List Rw) (bars:List Str) (many:Nat) (z:Str):Str:=(yd rows bars many z).getD ""
theorem za7 {rows:List Rw} {bars:List Str} {many:Nat} {z:Str} (nd:(nms rows).Nodup) (h:z ∉ bars) {l:Nat} {r:Rw} (hl:rows[l]? = some r) (hb:z0 r.k = true) (he:r.z = z):uG rows bars many z = if l < min many (plN rows) then "again" else "":=by
 have hv:=xW hb rows 0 l [] hl nd
 rw [he] at hv
 have e1:yd.lastD' z rows = some l:=by unfold yd.lastD'; rw [hv,Nat.zero_add]; rfl
 unfold uG yd
 rw [if_neg h,e1]
 show (if l < plN rows/\l < many then some ("again" : Str) else none).getD "" = _
 by_cases hc:l < plN rows/\l < many
 ·rw [if_pos hc,if_pos (by omega)]; rfl
 ·rw [if_neg hc,if_neg (by omega)]; rfl
theorem zdH {rows:List Rw} {bars:List Str} {many:Nat} {z:Str}:yd rows bars many z = if uG rows bars many z = "" then none else some (uG rows bars many z):=by
 unfold uG
 cases h:yd rows bars many z with
 | none=>rfl
 | some x=>
  have hx:x ≠ "":=by
   unfold yd at h
   split at h
   ·cases h; decide +kernel
   ·split at h
    ·split at h
     ·cases h
     ·cases h; decide +kernel
    ·split at h
     ·cases h; decide +kernel
     ·cases h
  rw [if_neg (show ¬ (some x).getD "" = "" from hx)]
  rfl
theorem vE {r:Rw} {i many:Nat} {fk:List (Key × V)}:zU r i many fk = (!fr r.k r.b && !(xc r.k && decide (i < many)) && !(z0 r.k && (zL fk (.inr r.z)).isSome)):=by
 unfold zU vT
 by_cases h1:xc r.k = true/\i < many
 ·rw [if_pos h1,h1.1,decide_eq_true h1.2]
  have e:L2.eqT [.str "place",.int (i:Nat)] [.str "free"] = false:=rfl
  rw [e]
  simp
 ·rw [if_neg h1]
  have hn:(xc r.k && decide (i < many)) = false:=by
   cases hp:xc r.k with
   | false=>rfl
   | true=>exact decide_eq_false fun h=>h1 ⟨hp,h⟩
  rw [hn]
  by_cases h2:z0 r.k = true/\(zL fk (.inr r.z)).isSome = true
  ·rw [if_pos h2,h2.1,h2.2]
   have e:∀ v,L2.eqT [.str "name",v] [.str "free"] = false:=fun v=>by unfold L2.eqT; simp
   rw [e]
   simp
  ·rw [if_neg h2]
   have hn2:(z0 r.k && (zL fk (.inr r.z)).isSome) = false:=by
    cases hp:z0 r.k with
    | false=>rfl
    | true=>
     cases hq:(zL fk (.inr r.z)).isSome with
     | false=>rfl
     | true=>exact absurd ⟨hp,hq⟩ h2
   rw [hn2]
   have e:L2.eqT [.str "free"] [.str "free"] = true:=by unfold L2.eqT; simp [List.range_succ,eqV]
   rw [e]
   simp
theorem ze4 {rows:List Rw} (hok:∀ r ∈ rows,r.ok) (ho:zW 0 rows = true) {i:Nat} {r:Rw} (h:rows[i]? = some r):xc r.k = decide (i < plN rows):=by
 obtain ⟨A,B,e,hl,hA,hB⟩:=zbe rows hok ho
 have hn:plN rows = plN A + plN B:=by
  unfold plN
  rw [e,List.filter_append,List.length_append]
 have hA2:plN A = A.length:=by
  unfold plN
  rw [List.filter_eq_self.mpr fun x hx=>?_]
  rw [zf1 (hok x (by rw [e]; exact List.mem_append_left _ hx)).1,hA x hx]
  rfl
 have hB2:plN B = 0:=by omega
 have hB3:∀ x ∈ B,xc x.k = false:=fun x hx=>by
  unfold plN at hB2
  rw [List.length_eq_zero_iff,List.filter_eq_nil_iff] at hB2
  have:=hB2 x hx
  simpa using this
 by_cases hi:i < plN rows
 ·rw [decide_eq_true hi]
  rw [e,List.getElem?_append_left (by omega)] at h
  have hm:=List.mem_of_getElem? h
  rw [zf1 (hok r (by rw [e]; exact List.mem_append_left _ hm)).1,hA r hm]
  rfl
 ·rw [decide_eq_false hi]
  rw [e,List.getElem?_append_right (by omega)] at h
  exact hB3 r (List.mem_of_getElem? h)
end K25
namespace L2
open PySem PySem.Spec PyProof.Rows
section
variable {X:Cx}
end
section
variable {prog:Program} {w:World} {A:Around} {E:Value->Shared->Prop} {s:Shared}
end
section
variable {X:Cx}
end
theorem zK.intsAre:∀ {ns:List Int} {us:List Value},zK (ns.map V.int) us->IntsAre us ns
 | [],_,h=>by cases h; exact .nil
 | n :: ns,_,h=>by
  cases h with
  | cons r t=>
   obtain ⟨k,rfl⟩:=r
   exact .cons n k (zK.intsAre t)
theorem IntsAre.vals:∀ {us:List Value} {ns:List Int},IntsAre us ns->zK (ns.map V.int) us
 | _,_,.nil=>.nil
 | _,_,.cons n t h=>.cons ⟨t,rfl⟩ (IntsAre.vals h)
section
variable {X:Cx}
theorem uD:xk X (.builtin "sorted") (fun xs H Q=>∃ (p:Addr) (ns:List Int),xs = [.ref p]/\SqL X.K H p (ns.map V.int)/\ns.length < 64/\∀ (ns':List Int) (l:Addr),ns'.Perm ns->ns'.Pairwise (·<=·)->H l = none->Q (.ref l) (upd H l (.lst (ns'.map V.int)))):=by
 intro pins s σ H xs us Q I r h
 obtain ⟨p,ns,rfl,hS,h64,q⟩:=h
 obtain ⟨u,rfl,ru⟩:=wO r
 cases ru
 obtain ⟨its,rv,hp,hz⟩:=I.list hS
 have hlen:its.length = ns.length:=by rw [<- rv.length,List.length_map]
 refine sorted_ints hp.isList (zK.intsAre rv) (by omega) fun out ns' hI hperm hsort=>?_
 obtain ⟨e,he⟩:=sortedAll_at s.heap its out
 refine ⟨.ref (s.heap.objs.size + 1),_,I.laid (t':=s.toks) (o:=.lst (ns'.map V.int)) (fun b o hb=>sortedAll_old hb) (Nat.le_succ _) ⟨?_,out.toList,e,IntsAre.vals hI,by simpa using he⟩,rfl,q ns' _ hperm hsort (I.hok.fresh (Nat.le_succ _))⟩
 rw [List.length_map,hperm.length_eq]
 have : 1000<=sizeLine:=by decide
 omega
end
end L2
namespace K25
open PySem L2 PyProof.Rows
theorem wZ:∀ {a b:List Int},a.Perm b->a.Pairwise (·<=·)->b.Pairwise (·<=·)->a = b
 | [],b,h,_,_=>(List.nil_perm.mp h).symm ▸ rfl
 | x :: xs,[],h,_,_=>by have:=h.length_eq; simp at this
 | x :: xs,y :: ys,h,ha,hb=>by
  have hx:x ∈ y :: ys:=h.mem_iff.mp List.mem_cons_self
  have hy:y ∈ x :: xs:=h.mem_iff.mpr List.mem_cons_self
  have e:x = y:=by
   have h1:y<=x:=by
    rcases List.mem_cons.mp hx with e | hx
    ·omega
    ·exact (List.pairwise_cons.mp hb).1 x hx
   have h2:x<=y:=by
    rcases List.mem_cons.mp hy with e | hy
    ·omega
    ·exact (List.pairwise_cons.mp ha).1 y hy
   omega
  subst e
  rw [wZ (List.Perm.cons_inv h) (List.pairwise_cons.mp ha).2 (List.pairwise_cons.mp hb).2]
theorem xM {zs:List Str} {z:Str}:(zL (kvP (fpZ zs)) (.inr z)).isSome = decide (z ∈ zs):=by
 rw [wb,Bool.eq_iff_iff,decide_eq_true_eq]
 constructor
 ·intro h
  have key:∀ (zs:List Str) (i:Nat) (acc:List (Str × Nat)),((fpF i acc zs).any fun p=>decide (p.1 = z)) = true->(acc.any fun p=>decide (p.1 = z)) = true\/z ∈ zs:=by
   intro zs
   induction zs with
   | nil=>exact fun i acc h=>.inl h
   | cons y ys ih=>
    intro i acc h
    rcases ih (i + 1) _ h with h | h
    ·split at h
     ·exact .inl h
     ·rw [List.any_append,Bool.or_eq_true] at h
      rcases h with h | h
      ·exact .inl h
      ·right
       simp at h
       rw [h]
       exact List.mem_cons_self
    ·exact .inr (List.mem_cons_of_mem _ h)
  rcases key zs 0 [] h with h | h
  ·simp at h
  ·exact h
 ·exact fun h=>zcL zs 0 [] h
theorem zdw {zs:List Str} {z:Str}:z ∈ (fpZ zs).map (·.1) ↔ z ∈ zs:=by
 have h1:((fpZ zs).any fun p=>decide (p.1 = z)) = decide (z ∈ zs):=by rw [<- wb,xM]
 rw [zhl,Bool.eq_iff_iff,decide_eq_true_eq,decide_eq_true_eq] at h1
 exact h1
theorem vo {rows:List Rw} {bars:List Str} {many:Nat} {zs:List Str}:uH rows bars many (fpZ zs) = [] ↔ ∀ z ∈ zs,yd rows bars many z = none:=by
 unfold uH
 rw [List.filterMap_eq_nil_iff]
 constructor
 ·intro h z hz
  obtain ⟨p,hp,rfl⟩:=List.mem_map.mp (zdw.mpr hz)
  have:=h p hp
  rwa [Option.map_eq_none_iff] at this
 ·intro h p hp
  rw [Option.map_eq_none_iff]
  exact h _ (zdw.mp (List.mem_map.mpr ⟨p,hp,rfl⟩))
theorem uB {fk:List (Key × V)}:∀ (zs:List Str) (i:Nat),xX fk i zs = [] ↔ ∀ j z,zs[j]? = some z->zL fk (.inr z) = some (.int ((i + j:Nat):Int))
 | [],i=>by simp [xX]
 | y :: ys,i=>by
  show (if zL fk (.inr y) = some (.int (i:Nat)) then [] else [(("doubled" : Str),i)]) ++ xX fk (i + 1) ys = [] ↔ _
  rw [List.append_eq_nil_iff,uB ys (i + 1)]
  constructor
  ·rintro ⟨h1,h2⟩ j z hj
   cases j with
   | zero=>
    have:y = z:=by simpa using hj
    subst this
    split at h1
    next e=>exact e
    ·cases h1
   | succ j=>
    have:=h2 j z (by simpa using hj)
    rw [this]
    congr 3
    omega
  ·intro h
   refine ⟨?_,fun j z hj=>?_⟩
   ·have h0:=h 0 y rfl
    rw [Nat.add_zero] at h0
    rw [if_pos h0]
   ·have:=h (j + 1) z (by simpa using hj)
    rw [this]
    congr 3
    omega
theorem fpT {zs:List Str} {z:Str}:((fpF 0 [] zs).any fun p=>decide (p.1 = z)) = decide (z ∈ zs):=by
 have:=xM (zs:=zs) (z:=z)
 rw [wb] at this
 exact this
theorem wc {zs:List Str}:xX (kvP (fpZ zs)) 0 zs = [] ↔ zs.Nodup:=by
 rw [uB,List.nodup_iff_pairwise_ne]
 constructor
 ·intro h
  rw [List.pairwise_iff_getElem]
  intro i j hi hj hij e
  have h1:=zaY (zs:=zs) (i:=j) (z:=zs[j]) (List.getElem?_eq_getElem hj)
  have h2:=h j _ (List.getElem?_eq_getElem hj)
  rw [Nat.zero_add] at h2
  rw [decide_eq_true h2,fpT] at h1
  have hm:zs[j] ∈ zs.take j:=by
   rw [<- e]
   rw [List.mem_iff_getElem]
   exact ⟨i,by rw [List.length_take]; omega,by rw [List.getElem_take]⟩
  rw [decide_eq_true hm] at h1
  cases h1
 ·intro h j z hj
  have h1:=zaY hj
  rw [fpT] at h1
  have hn:z ∉ zs.take j:=by
   intro hm
   obtain ⟨i,hi,e⟩:=List.mem_iff_getElem.mp hm
   rw [List.length_take] at hi
   rw [List.getElem_take] at e
   have hjl:j < zs.length:=(List.getElem?_eq_some_iff.mp hj).1
   have:=(List.pairwise_iff_getElem.mp h) i j (by omega) hjl (by omega)
   rw [List.getElem?_eq_getElem hjl] at hj
   exact this (e.trans (Option.some.inj hj).symm)
  rw [decide_eq_false hn] at h1
  rw [Nat.zero_add]
  exact of_decide_eq_true h1
theorem wA {rows:List Rw} {many:Nat}:wa rows many = [] ↔ ((zy 2 0 rows).isSome = true\/many<=plN rows):=by
 unfold wa
 split
 next h=>simp [h]
 next h=>
  rw [List.map_eq_nil_iff,List.range_eq_nil]
  constructor
  ·intro e; right; omega
  ·rintro (e | e)
   ·exact absurd e h
   ·omega
theorem wC {many:Nat} {fk:List (Key × V)}:∀ (rows:List Rw) (i:Nat),yA many fk i rows = [] ↔ ∀ j r,rows[j]? = some r->zU r (i + j) many fk = false
 | [],i=>by simp [yA]
 | y :: ys,i=>by
  show (if zU y i many fk = true then [(("lacking" : Str),i)] else []) ++ yA many fk (i + 1) ys = [] ↔ _
  rw [List.append_eq_nil_iff,wC ys (i + 1)]
  constructor
  ·rintro ⟨h1,h2⟩ j z hj
   cases j with
   | zero=>
    have:y = z:=by simpa using hj
    subst this
    split at h1
    ·cases h1
    next e=>exact Bool.eq_false_iff.mpr e
   | succ j=>
    have:=h2 j z (by simpa using hj)
    rw [show i + (j + 1) = i + 1 + j by omega]
    exact this
  ·intro h
   refine ⟨?_,fun j z hj=>?_⟩
   ·have:=h 0 y rfl
    rw [Nat.add_zero] at this
    rw [if_neg (by rw [this]; decide)]
   ·have:=h (j + 1) z (by simpa using hj)
    rw [show i + 1 + j = i + (j + 1) by omega]
    exact this
theorem zf6 {rows:List Rw} {bars names:List Str} {many:Nat} (h1:names.Nodup) (h2:(zy 2 0 rows).isSome = true\/many<=plN rows) (h3:∀ z ∈ names,yd rows bars many z = none) (h4:∀ (i:Nat) (r:Rw),rows[i]? = some r->fr r.k r.b = true\/(xc r.k = true/\i < many)\/(z0 r.k = true/\r.z ∈ names)):zR rows bars many names = []:=by
 unfold zR
 rw [List.append_eq_nil_iff,List.append_eq_nil_iff,List.append_eq_nil_iff,wc,wA,vo,wC]
 refine ⟨⟨⟨h1,h2⟩,h3⟩,fun i r hr=>?_⟩
 rw [vE,xM,Nat.zero_add]
 rcases h4 i r hr with h | ⟨h,h'⟩ | ⟨h,h'⟩
 ·rw [h]; rfl
 ·rw [h,decide_eq_true h']; simp
 ·rw [h,decide_eq_true h']; simp
inductive En where
 | one (wd:Str) (n:Nat)
 | many (wd:Str) (ns:List Nat)
 | free
def xr (ns:List Nat):List Int:=ns.map fun (j:Nat)=>(j:Int)
def enD:En->Dt
 | .one wd n=>.tup [.str wd,.int (n:Nat)]
 | .many wd ns=>.tup [.str wd,.lst ((xr ns).map Dt.int)]
 | .free=>.tup [.str "free"]
def zb4 (K:Frag) (ok:Addr->Prop) (H:Hp) (x:V):En->Prop
 | .one wd n=>∃ u,x = .ref u/\SqT K H u [.str wd,.int (n:Nat)]
 | .many wd ns=>∃ u l,x = .ref u/\SqT K H u [.str wd,.ref l]/\ok l/\H l = some (.lst ((xr ns).map V.int))
 | .free=>∃ u,x = .ref u/\SqT K H u [.str "free"]
theorem zb4.same {K:Frag} {ok:Addr->Prop} {H H':Hp} {x:V} {e:En} (h:zb4 K ok H x e) (s:zm H H'):zb4 K ok H' x e:=by
 cases e with
 | one wd n=>obtain ⟨u,e,h⟩:=h; exact ⟨u,e,s.sqT h⟩
 | many wd ns=>obtain ⟨u,l,e,h,o,hl⟩:=h; exact ⟨u,l,e,s.sqT h,o,s _ _ hl⟩
 | free=>obtain ⟨u,e,h⟩:=h; exact ⟨u,e,s.sqT h⟩
theorem zhf {K:Frag} {ok:Addr->Prop} {H:Hp} {x:V} {e:En} (h:zF K ok H 2 x (enD e)):zb4 K ok H x e:=by
 cases e with
 | one wd n=>
  obtain ⟨a,xs,rfl,hS,r⟩:=xl h
  cases r with
  | cons h1 r=>
   cases r with
   | cons h2 r=>
    cases r
    obtain rfl:=xm h1
    obtain rfl:=wW h2
    exact ⟨a,rfl,hS⟩
 | many wd ns=>
  obtain ⟨a,xs,rfl,hS,r⟩:=xl h
  cases r with
  | cons h1 r=>
   cases r with
   | cons h2 r=>
    cases r
    obtain rfl:=xm h1
    rcases h2 with h2 | ⟨a2,xs2,ds2,e1,e2,_⟩ | ⟨a2,xs2,ds2,rfl,e2,o,hl,r2⟩
    ·rename_i b
     cases b <;> exact h2.elim
    ·cases e2
    ·cases e2
     exact ⟨a,a2,rfl,hS,o,by rw [hl,uK r2]⟩
 | free=>
  obtain ⟨a,xs,rfl,hS,r⟩:=xl h
  cases r with
  | cons h1 r=>
   cases r
   obtain rfl:=xm h1
   exact ⟨a,rfl,hS⟩
def plL (rows:List Rw) (M:Nat):List Nat:=(List.range (M - plN rows)).map fun i=>plN rows + i
def enF (rows:List Rw) (M:Nat) (zs:List Str) (i:Nat):En:=
 if zy 2 0 rows = some i then .many "places" (plL rows M)
 else if zy 4 0 rows = some i then .many "names" (xJ rows (fpZ zs))
 else match rows[i]? with
  | some r=>if xc r.k = true/\i < M then .one "place" i else if z0 r.k = true/\r.z ∈ zs then .one "name" (zs.findIdx fun y=>decide (y = r.z)) else .free
  | none=>.free
theorem zbQ:∀ (zs:List Str) (i:Nat) (acc:List (Str × Nat)),(∀ z ∈ zs,(acc.any fun p=>decide (p.1 = z)) = false)->zs.Nodup->fpF i acc zs = acc ++ zs.zipIdx i
 | [],_,acc,_,_=>by
  show acc = acc ++ []
  rw [List.append_nil]
 | z :: zs,i,acc,h,nd=>by
  show fpF (i + 1) _ zs = _
  rw [h z List.mem_cons_self,if_neg Bool.false_ne_true,zbQ zs (i + 1) _ (fun y hy=>?_) (List.nodup_cons.mp nd).2,List.append_assoc]
  ·rfl
  ·rw [List.any_append,h y (List.mem_cons_of_mem _ hy),Bool.false_or]
   have:z ≠ y:=fun e=>(List.nodup_cons.mp nd).1 (e ▸ hy)
   simp [this]
theorem zad {zs:List Str} (h:zs.Nodup):fpZ zs = zs.zipIdx:=by
 unfold fpZ
 rw [zbQ zs 0 [] (fun _ _=>rfl) h]
 rfl
theorem zaU {zs:List Str} {z:Str} (h:z ∈ zs):zs[zs.findIdx fun y=>decide (y = z)]? = some z:=by
 have hl:(zs.findIdx fun y=>decide (y = z)) < zs.length:=List.findIdx_lt_length_of_exists ⟨z,h,decide_eq_true rfl⟩
 rw [List.getElem?_eq_getElem hl]
 have:=List.findIdx_getElem (p:=fun y=>decide (y = z)) (xs:=zs) (w:=hl)
 rw [of_decide_eq_true this]
theorem zeb {zs:List Str} (h:zs.Nodup) {i j:Nat} {z:Str} (hi:zs[i]? = some z) (hj:zs[j]? = some z):i = j:=by
 have li:=(List.getElem?_eq_some_iff.mp hi).1
 have lj:=(List.getElem?_eq_some_iff.mp hj).1
 have e:zs[i] = zs[j]:=by rw [(List.getElem?_eq_some_iff.mp hi).2,(List.getElem?_eq_some_iff.mp hj).2]
 have hp:=List.pairwise_iff_getElem.mp (List.nodup_iff_pairwise_ne.mp h)
 rcases Nat.lt_trichotomy i j with h1 | h1 | h1
 ·exact absurd e (hp i j li lj h1)
 ·exact h1
 ·exact absurd e.symm (hp j i lj li h1)
theorem ziG {rows:List Rw} {M:Nat} {zs:List Str} {i:Nat} (hi:i < rows.length) (nd:zs.Nodup):zbR rows M (fpZ zs) i = enD (enF rows M zs i):=by
 unfold zbR enF
 split
 ·show Dt.tup [.str "places",.lst ((L2.yW (plN rows) (M - plN rows)).map Dt.int)] = Dt.tup [.str "places",.lst ((xr (plL rows M)).map Dt.int)]
  unfold xr plL L2.yW
  simp only [List.map_map]
  rfl
 ·split
  ·rfl
  ·rw [List.getElem?_eq_getElem hi]
   show Dt.tup ((vT rows[i] i M (kvP (fpZ zs))).map vD) = enD (if xc rows[i].k = true/\i < M then .one "place" i else if z0 rows[i].k = true/\rows[i].z ∈ zs then .one "name" (zs.findIdx fun y=>decide (y = rows[i].z)) else .free)
   unfold vT
   by_cases h1:xc rows[i].k = true/\i < M
   ·rw [if_pos h1,if_pos h1]; rfl
   ·rw [if_neg h1,if_neg h1]
    by_cases h2:z0 rows[i].k = true/\rows[i].z ∈ zs
    ·have h3:z0 rows[i].k = true/\(zL (kvP (fpZ zs)) (.inr rows[i].z)).isSome = true:=⟨h2.1,by rw [xM]; exact decide_eq_true h2.2⟩
     rw [if_pos h3,if_pos h2]
     have hv:=(uB zs 0).mp (wc.mpr nd) _ _ (zaU h2.2)
     rw [hv,Nat.zero_add]
     rfl
    ·have h3:¬ (z0 rows[i].k = true/\(zL (kvP (fpZ zs)) (.inr rows[i].z)).isSome = true):=fun h=>h2 ⟨h.1,by have:=h.2; rw [xM] at this; exact of_decide_eq_true this⟩
     rw [if_neg h3,if_neg h2]; rfl
theorem zbN {rows:List Rw} {bars:List Str} (V1:yP rows bars) {p:Str × Nat}:ve rows p = true ↔ p.1 ∉ nms rows:=by
 unfold ve
 constructor
 ·intro h hm
  obtain ⟨l,r,hl,hb,he⟩:=zfL hm
  have:=xW hb rows 0 l [] hl (List.nodup_append.mp V1.nd).1
  rw [he] at this
  rw [this] at h
  cases h
 ·intro h
  rw [uz rows 0 [] h]
  rfl
theorem zec {rows:List Rw} {zs:List Str} (nd:zs.Nodup):(xJ rows (fpZ zs)).Sublist (List.range zs.length):=by
 unfold xJ
 rw [zad nd,List.range_eq_range',<- List.zipIdx_map_snd 0 zs]
 exact List.Sublist.map _ List.filter_sublist
theorem zed {rows:List Rw} {bars zs:List Str} (V1:yP rows bars) (nd:zs.Nodup) {j:Nat}:j ∈ xJ rows (fpZ zs) ↔ ∃ z,zs[j]? = some z/\z ∉ nms rows:=by
 unfold xJ
 rw [zad nd,List.mem_map]
 constructor
 ·rintro ⟨p,hp,rfl⟩
  obtain ⟨h1,h2⟩:=List.mem_filter.mp hp
  refine ⟨p.1,?_,(zbN V1).mp h2⟩
  obtain ⟨i,hi⟩:=List.mem_iff_getElem?.mp h1
  rw [List.getElem?_zipIdx] at hi
  cases hr:zs[i]? with
  | none=>rw [hr] at hi; cases hi
  | some r=>
   rw [hr] at hi
   have:(r,0 + i) = p:=Option.some.inj hi
   subst this
   rw [Nat.zero_add]
   exact hr
 ·rintro ⟨z,hz,hn⟩
  refine ⟨(z,j),List.mem_filter.mpr ⟨?_,(zbN V1).mpr hn⟩,rfl⟩
  refine List.mem_of_getElem? (i:=j) ?_
  rw [List.getElem?_zipIdx,hz]
  simp
theorem zfg:∀ (rs:List Rw) {l:Nat},zW l rs = true->∀ x ∈ rs,l<=grp x.k
 | [],_,_,x,hx=>by cases hx
 | y :: ys,l,h,x,hx=>by
  have h':(!yB l (grp y.k) && zW (grp y.k) ys) = true:=h
  rw [Bool.and_eq_true,Bool.not_eq_true'] at h'
  have hb:l<=grp y.k:=by
   have:=h'.1
   unfold yB at this
   rw [Bool.or_eq_false_iff,decide_eq_false_iff_not] at this
   omega
  rcases List.mem_cons.mp hx with rfl | hx
  ·exact hb
  ·have:=zfg ys h'.2 x hx
   omega
theorem zig (rs:List Rw) {l:Nat} (hl:l = 1\/l = 3) (h:zW l rs = true) (x:Rw) (hx:x ∈ rs):l < grp x.k:=by
 cases rs with
 | nil=>cases hx
 | cons y ys=>
  have h':(!yB l (grp y.k) && zW (grp y.k) ys) = true:=h
  rw [Bool.and_eq_true,Bool.not_eq_true'] at h'
  have hb:l < grp y.k:=by
   have:=h'.1
   unfold yB at this
   rw [Bool.or_eq_false_iff,decide_eq_false_iff_not] at this
   have h2:grp y.k ≠ l:=fun e=>by
    have h3:=this.2
    rw [e] at h3
    rcases hl with rfl | rfl
    ·exact absurd h3 (by decide)
    ·exact absurd h3 (by decide)
   omega
  rcases List.mem_cons.mp hx with rfl | hx
  ·exact hb
  ·have:=zfg ys h'.2 x hx
   omega
theorem xV {kk:Nat} (hk:kk = 2\/kk = 4):∀ (rows:List Rw) (i l j:Nat) {r:Rw},zW l rows = true->rows[j]? = some r->r.k = kk->zy kk i rows = some (i + j)
 | [],_,_,_,_,_,h,_=>by simp at h
 | y :: ys,i,l,j,r,ho,hj,hr=>by
  have h':(!yB l (grp y.k) && zW (grp y.k) ys) = true:=ho
  rw [Bool.and_eq_true] at h'
  show (if y.k = kk then some i else zy kk (i + 1) ys) = _
  cases j with
  | zero=>
   have:y = r:=by simpa using hj
   subst this
   rw [if_pos hr]; rfl
  | succ j=>
   have hj':ys[j]? = some r:=by simpa using hj
   rw [if_neg,xV hk ys (i + 1) _ j h'.2 hj' hr]
   ·congr 1; omega
   ·intro e
    have hg:grp y.k = 1\/grp y.k = 3:=by rw [e]; rcases hk with rfl | rfl <;> decide
    have:=zig ys hg h'.2 r (List.mem_of_getElem? hj')
    rw [e,hr] at this
    omega
theorem xU {kk:Nat}:∀ (rows:List Rw) (i j:Nat),zy kk i rows = some j->∃ m r,j = i + m/\rows[m]? = some r/\r.k = kk
 | [],_,_,h=>by cases h
 | y :: ys,i,j,h=>by
  have h:(if y.k = kk then some i else zy kk (i + 1) ys) = some j:=h
  split at h
  next e=>cases h; exact ⟨0,y,rfl,rfl,e⟩
  ·obtain ⟨m,r,h1,h2,h3⟩:=xU ys (i + 1) j h
   exact ⟨m + 1,r,by omega,by simpa using h2,h3⟩
theorem zdz {rows:List Rw} {bars:List Str} (V1:yP rows bars) {M:Nat} {zs:List Str} {i:Nat} {r:Rw} (hr:rows[i]? = some r) (h:r.k = 2):enF rows M zs i = .many "places" (plL rows M):=by
 unfold enF
 have:=xV (.inl rfl) rows 0 0 i V1.ord hr h
 rw [Nat.zero_add] at this
 rw [if_pos this]
theorem zf9 {rows:List Rw} {bars:List Str} (V1:yP rows bars) {M:Nat} {zs:List Str} {i:Nat} {r:Rw} (hr:rows[i]? = some r) (h:r.k = 4):enF rows M zs i = .many "names" (xJ rows (fpZ zs)):=by
 unfold enF
 have:=xV (.inr rfl) rows 0 0 i V1.ord hr h
 rw [Nat.zero_add] at this
 have n2:¬ zy 2 0 rows = some i:=fun e=>by
  obtain ⟨m,r',h1,h2,h3⟩:=xU rows 0 i e
  rw [Nat.zero_add] at h1
  subst h1
  rw [hr] at h2
  cases h2
  omega
 rw [if_neg n2,if_pos this]
theorem qg {rows:List Rw} {M:Nat} {zs:List Str} {i:Nat} {r:Rw} (hr:rows[i]? = some r) (h2:r.k ≠ 2) (h4:r.k ≠ 4):enF rows M zs i = if xc r.k = true/\i < M then .one "place" i else if z0 r.k = true/\r.z ∈ zs then .one "name" (zs.findIdx fun y=>decide (y = r.z)) else .free:=by
 unfold enF
 have n:∀ kk,r.k ≠ kk->¬ zy kk 0 rows = some i:=fun kk hk e=>by
  obtain ⟨m,r',e1,e2,e3⟩:=xU rows 0 i e
  rw [Nat.zero_add] at e1
  subst e1
  rw [hr] at e2
  cases e2
  exact hk e3
 rw [if_neg (n 2 h2),if_neg (n 4 h4),hr]
structure Fit (rows:List Rw) (bars:List Str) (M:Nat) (zs:List Str):Prop where
 nd:zs.Nodup
 ov:(zy 2 0 rows).isSome = true\/M<=plN rows
 un:∀ z ∈ zs,yd rows bars M z = none
 la:∀ (j:Nat) (r:Rw),rows[j]? = some r->zU r j M (kvP (fpZ zs)) = false
theorem ziF {rows:List Rw} {bars:List Str} {M:Nat} {zs:List Str} (h:zR rows bars M zs = []):Fit rows bars M zs:=by
 unfold zR at h
 rw [List.append_eq_nil_iff,List.append_eq_nil_iff,List.append_eq_nil_iff,wc,wA,vo,wC] at h
 obtain ⟨⟨⟨h1,h2⟩,h3⟩,h4⟩:=h
 exact ⟨h1,h2,h3,fun j r hr=>by have:=h4 j r hr; rwa [Nat.zero_add] at this⟩
def enP:En->List Nat
 | .one wd n=>if wd = "place" then [n] else []
 | .many wd ns=>if wd = "places" then ns else []
 | .free=>[]
def enN:En->List Nat
 | .one wd n=>if wd = "name" then [n] else []
 | .many wd ns=>if wd = "names" then ns else []
 | .free=>[]
theorem jR {L:List Nat} {n:Nat} (nd:L.Nodup) (h:∀ x,x ∈ L ↔ x < n):L.Perm (List.range n):=by
 rw [List.perm_iff_count]
 intro a
 rw [nd.count,List.nodup_range.count]
 by_cases ha:a < n
 ·rw [if_pos ((h a).mpr ha),if_pos (List.mem_range.mpr ha)]
 ·rw [if_neg (fun e=>ha ((h a).mp e)),if_neg (fun e=>ha (List.mem_range.mp e))]
theorem zgH {rows:List Rw} {M x:Nat}:x ∈ plL rows M ↔ plN rows<=x/\x < M:=by
 unfold plL
 rw [List.mem_map]
 constructor
 ·rintro ⟨i,hi,rfl⟩
  rw [List.mem_range] at hi
  omega
 ·rintro ⟨h1,h2⟩
  exact ⟨x - plN rows,List.mem_range.mpr (by omega),by omega⟩
theorem zh8 {rows:List Rw} {M:Nat}:(plL rows M).Pairwise (· < ·):=by
 unfold plL
 rw [List.pairwise_map]
 exact List.Pairwise.imp (fun h=>by omega) (List.pairwise_lt_range (n:=M - plN rows))
theorem ux {rows:List Rw} {bars:List Str} (V1:yP rows bars) {M:Nat} {zs:List Str} {i x:Nat} {r:Rw} (hr:rows[i]? = some r):x ∈ enP (enF rows M zs i) ↔ (r.k = 2/\plN rows<=x/\x < M)\/(x = i/\i < plN rows/\i < M):=by
 have hp:=ze4 V1.ok V1.ord hr
 by_cases h2:r.k = 2
 ·rw [zdz V1 hr h2]
  show x ∈ (if ("places" : Str) = "places" then plL rows M else []) ↔ _
  rw [if_pos rfl,zgH]
  rw [h2] at hp
  have:¬ i < plN rows:=of_decide_eq_false hp.symm
  constructor
  ·exact fun h=>.inl ⟨h2,h⟩
  ·rintro (h | h)
   ·exact h.2
   ·omega
 ·by_cases h4:r.k = 4
  ·rw [zf9 V1 hr h4]
   show x ∈ (if ("names" : Str) = "places" then xJ rows (fpZ zs) else []) ↔ _
   rw [if_neg (by decide +kernel)]
   rw [h4] at hp
   have:¬ i < plN rows:=of_decide_eq_false hp.symm
   constructor
   ·intro h; cases h
   ·rintro (h | h)
    ·omega
    ·omega
  ·rw [qg hr h2 h4]
   by_cases c:xc r.k = true/\i < M
   ·rw [if_pos c]
    show x ∈ (if ("place" : Str) = "place" then [i] else []) ↔ _
    rw [if_pos rfl,List.mem_singleton]
    have:i < plN rows:=of_decide_eq_true (hp.symm.trans c.1)
    constructor
    ·exact fun e=>.inr ⟨e,this,c.2⟩
    ·rintro (h | h)
     ·exact absurd h.1 h2
     ·exact h.1
   ·rw [if_neg c]
    have hn:¬ ((r.k = 2/\plN rows<=x/\x < M)\/(x = i/\i < plN rows/\i < M)):=by
     rintro (h | h)
     ·exact h2 h.1
     ·exact c ⟨by rw [hp]; exact decide_eq_true h.2.1,h.2.2⟩
    have he:¬ x ∈ enP (if z0 r.k = true/\r.z ∈ zs then En.one "name" (zs.findIdx fun y=>decide (y = r.z)) else .free):=by
     split
     ·show ¬ x ∈ (if ("name" : Str) = "place" then [zs.findIdx fun y=>decide (y = r.z)] else [])
      rw [if_neg (by decide +kernel)]
      exact List.not_mem_nil
     ·exact List.not_mem_nil
    exact ⟨fun h=>absurd h he,fun h=>absurd h hn⟩
theorem uy {rows:List Rw} {bars:List Str} (V1:yP rows bars) {M:Nat} {zs:List Str} (F:Fit rows bars M zs) {i x:Nat} {r:Rw} (hr:rows[i]? = some r):x ∈ enN (enF rows M zs i) ↔ ∃ z,zs[x]? = some z/\((r.k = 4/\z ∉ nms rows)\/(z0 r.k = true/\r.z = z)):=by
 by_cases h2:r.k = 2
 ·rw [zdz V1 hr h2]
  show x ∈ (if ("places" : Str) = "names" then plL rows M else []) ↔ _
  rw [if_neg (by decide +kernel)]
  constructor
  ·intro h; cases h
  ·rintro ⟨z,hz,h | h⟩
   ·omega
   ·rw [h2] at h; cases h.1
 ·by_cases h4:r.k = 4
  ·rw [zf9 V1 hr h4]
   show x ∈ (if ("names" : Str) = "names" then xJ rows (fpZ zs) else []) ↔ _
   rw [if_pos rfl,zed V1 F.nd]
   constructor
   ·rintro ⟨z,hz,h⟩; exact ⟨z,hz,.inl ⟨h4,h⟩⟩
   ·rintro ⟨z,hz,h | h⟩
    ·exact ⟨z,hz,h.2⟩
    ·rw [h4] at h; cases h.1
  ·rw [qg hr h2 h4]
   by_cases c:xc r.k = true/\i < M
   ·rw [if_pos c]
    show x ∈ (if ("place" : Str) = "name" then [i] else []) ↔ _
    rw [if_neg (by decide +kernel)]
    constructor
    ·intro h; cases h
    ·rintro ⟨z,hz,h | h⟩
     ·exact absurd h.1 h4
     ·have hu:=F.un z (List.mem_of_getElem? hz)
      have hp:=ze4 V1.ok V1.ord hr
      have hi:i < plN rows:=of_decide_eq_true (hp.symm.trans c.1)
      have hm:z ∈ nms rows:=by
       unfold nms
       exact List.mem_map.mpr ⟨r,List.mem_filter.mpr ⟨List.mem_of_getElem? hr,h.1⟩,h.2⟩
      have hb:z ∉ bars:=fun hb=>(List.nodup_append.mp V1.nd).2.2 z hm z hb rfl
      have hw:=za7 (many:=M) (List.nodup_append.mp V1.nd).1 hb hr h.1 h.2
      rw [if_pos (show i < min M (plN rows) by omega)] at hw
      unfold uG at hw
      rw [hu] at hw
      exact absurd hw (by decide +kernel)
   ·rw [if_neg c]
    by_cases d:z0 r.k = true/\r.z ∈ zs
    ·rw [if_pos d]
     show x ∈ (if ("name" : Str) = "name" then [zs.findIdx fun y=>decide (y = r.z)] else []) ↔ _
     rw [if_pos rfl,List.mem_singleton]
     constructor
     ·rintro rfl
      exact ⟨r.z,zaU d.2,.inr ⟨d.1,rfl⟩⟩
     ·rintro ⟨z,hz,h | h⟩
      ·exact absurd h.1 h4
      ·exact zeb F.nd (by rw [hz,h.2]) (zaU d.2)
    ·rw [if_neg d]
     constructor
     ·intro h; cases h
     ·rintro ⟨z,hz,h | h⟩
      ·exact absurd h.1 h4
      ·exact absurd ⟨h.1,h.2 ▸ List.mem_of_getElem? hz⟩ d
theorem ziV {rows:List Rw} {bars:List Str} (V1:yP rows bars) {M:Nat} {zs:List Str} (F:Fit rows bars M zs):((List.range rows.length).flatMap fun i=>enP (enF rows M zs i)).Perm (List.range M):=by
 have hpl:plN rows<=rows.length:=List.length_filter_le _ _
 refine jR ?_ fun x=>?_
 ·rw [List.nodup_iff_pairwise_ne,List.pairwise_flatMap]
  refine ⟨fun i hi=>?_,?_⟩
  ·cases e:enF rows M zs i with
   | one wd n=>
    show List.Pairwise _ (if wd = "place" then [n] else [])
    split
    ·exact List.pairwise_singleton _ _
    ·exact .nil
   | many wd ns=>
    show List.Pairwise _ (if wd = "places" then ns else [])
    split
    next hw=>
     subst hw
     have:ns = plL rows M:=by
      unfold enF at e
      split at e
      ·cases e; rfl
      ·split at e
       ·injection e with e1 e2; exact absurd e1 (by decide +kernel)
       ·split at e
        ·split at e
         ·cases e
         ·split at e <;> cases e
        ·cases e
     rw [this]
     exact List.Pairwise.imp (fun h=>Nat.ne_of_lt h) zh8
    ·exact .nil
   | free=>exact .nil
  ·rw [List.pairwise_iff_getElem]
   intro a b ha hb hab x hx y hy e
   subst e
   rw [List.length_range] at ha hb
   rw [List.getElem_range] at hx hy
   rw [ux V1 (List.getElem?_eq_getElem ha)] at hx
   rw [ux V1 (List.getElem?_eq_getElem hb)] at hy
   rcases hx with hx | hx
   ·rcases hy with hy | hy
    ·have h1:=xV (.inl rfl) rows 0 0 a V1.ord (List.getElem?_eq_getElem ha) hx.1
     have h2:=xV (.inl rfl) rows 0 0 b V1.ord (List.getElem?_eq_getElem hb) hy.1
     rw [h1] at h2
     have:=Option.some.inj h2
     omega
    ·omega
   ·rcases hy with hy | hy
    ·omega
    ·omega
 ·rw [List.mem_flatMap]
  constructor
  ·rintro ⟨i,hi,hx⟩
   rw [ux V1 (List.getElem?_eq_getElem (List.mem_range.mp hi))] at hx
   omega
  ·intro hx
   by_cases h:x < plN rows
   ·exact ⟨x,List.mem_range.mpr (by omega),(ux V1 (List.getElem?_eq_getElem (by omega))).mpr (.inr ⟨rfl,h,hx⟩)⟩
   ·rcases F.ov with ho | ho
    ·obtain ⟨j,hj⟩:=Option.isSome_iff_exists.mp ho
     obtain ⟨m,r,e1,e2,e3⟩:=xU rows 0 j hj
     refine ⟨m,List.mem_range.mpr (List.getElem?_eq_some_iff.mp e2).1,(ux V1 e2).mpr (.inl ⟨e3,by omega,hx⟩)⟩
    ·omega
theorem ziW {rows:List Rw} {bars:List Str} (V1:yP rows bars) {M:Nat} {zs:List Str} (F:Fit rows bars M zs):((List.range rows.length).flatMap fun i=>enN (enF rows M zs i)).Perm (List.range zs.length):=by
 refine jR ?_ fun x=>?_
 ·rw [List.nodup_iff_pairwise_ne,List.pairwise_flatMap]
  refine ⟨fun i hi=>?_,?_⟩
  ·cases e:enF rows M zs i with
   | one wd n=>
    show List.Pairwise _ (if wd = "name" then [n] else [])
    split
    ·exact List.pairwise_singleton _ _
    ·exact .nil
   | many wd ns=>
    show List.Pairwise _ (if wd = "names" then ns else [])
    split
    next hw=>
     subst hw
     have:ns = xJ rows (fpZ zs):=by
      unfold enF at e
      split at e
      ·injection e with e1 e2; exact absurd e1 (by decide +kernel)
      ·split at e
       ·cases e; rfl
       ·split at e
        ·split at e
         ·cases e
         ·split at e <;> cases e
        ·cases e
     rw [this]
     exact List.nodup_iff_pairwise_ne.mp ((zec F.nd).nodup List.nodup_range)
    ·exact .nil
   | free=>exact .nil
  ·rw [List.pairwise_iff_getElem]
   intro a b ha hb hab x hx y hy e
   subst e
   rw [List.length_range] at ha hb
   rw [List.getElem_range] at hx hy
   rw [uy V1 F (List.getElem?_eq_getElem ha)] at hx
   rw [uy V1 F (List.getElem?_eq_getElem hb)] at hy
   obtain ⟨z,hz,hx⟩:=hx
   obtain ⟨z',hz',hy⟩:=hy
   rw [hz] at hz'
   cases hz'
   have nm:∀ {i:Nat} (hi:i < rows.length),z0 rows[i].k = true->rows[i].z = z->z ∈ nms rows:=fun {i} hi h1 h2=>by
    unfold nms
    exact List.mem_map.mpr ⟨rows[i],List.mem_filter.mpr ⟨List.getElem_mem hi,h1⟩,h2⟩
   rcases hx with hx | hx
   ·rcases hy with hy | hy
    ·have h1:=xV (.inr rfl) rows 0 0 a V1.ord (List.getElem?_eq_getElem ha) hx.1
     have h2:=xV (.inr rfl) rows 0 0 b V1.ord (List.getElem?_eq_getElem hb) hy.1
     rw [h1] at h2
     have:=Option.some.inj h2
     omega
    ·exact hx.2 (nm hb hy.1 hy.2)
   ·rcases hy with hy | hy
    ·exact hy.2 (nm ha hx.1 hx.2)
    ·have d1:=xW hx.1 rows 0 a [] (List.getElem?_eq_getElem ha) (List.nodup_append.mp V1.nd).1
     have d2:=xW hy.1 rows 0 b [] (List.getElem?_eq_getElem hb) (List.nodup_append.mp V1.nd).1
     rw [hx.2] at d1
     rw [hy.2,d1] at d2
     have:=V.int.inj (Option.some.inj d2)
     omega
 ·rw [List.mem_flatMap]
  constructor
  ·rintro ⟨i,hi,hx⟩
   rw [uy V1 F (List.getElem?_eq_getElem (List.mem_range.mp hi))] at hx
   obtain ⟨z,hz,_⟩:=hx
   exact (List.getElem?_eq_some_iff.mp hz).1
  ·intro hx
   have hz:zs[x]? = some zs[x]:=List.getElem?_eq_getElem hx
   by_cases hm:zs[x] ∈ nms rows
   ·obtain ⟨l,r,hl,hb,he⟩:=zfL hm
    exact ⟨l,List.mem_range.mpr (List.getElem?_eq_some_iff.mp hl).1,(uy V1 F hl).mpr ⟨_,hz,.inr ⟨hb,he⟩⟩⟩
   ·have hu:=F.un zs[x] (List.getElem_mem hx)
    have hb:zs[x] ∉ bars:=fun hb=>by
     unfold yd at hu
     rw [if_pos hb] at hu
     cases hu
    rw [zhE hb hm] at hu
    split at hu
    next ho=>
     obtain ⟨j,hj⟩:=Option.isSome_iff_exists.mp ho
     obtain ⟨m,r,e1,e2,e3⟩:=xU rows 0 j hj
     exact ⟨m,List.mem_range.mpr (List.getElem?_eq_some_iff.mp e2).1,(uy V1 F e2).mpr ⟨_,hz,.inl ⟨e3,hm⟩⟩⟩
    ·cases hu
end K25
namespace L2
open PySem PySem.Spec PyProof.Rows
theorem zfi {X:Cx}:OpR X (binaryOp .FloorDiv) (rI (fun _ j=>0 < j/\j<=2 * 10 ^ 60) fun i j=>.int (i / j)):=opI fun i j _ _ _ _ _ hc q=>by
 have h1:(0:Int) < j:=hc.1
 have h2:j<=2 * 10 ^ 60:=hc.2
 refine floordiv_int (by omega) (by rw [Int.fdiv_eq_ediv_of_nonneg i (by omega)]; exact q) (.inl (PyProof.noPylong_of_log2 ?_))
 rw [Nat.log2_lt (by omega)]
 have e:j.natAbs<=2 * 10 ^ 60:=by omega
 have:(2 * 10 ^ 60:Nat) < 2 ^ 9000:=by decide +kernel
 omega
end L2
namespace K25
open PySem L2 PyProof.Rows
def yK (H:Hp) (p:Addr):Prop:=∃ a b:Int,0<=b/\b < 2147483648/\H p = some (.lst [.int a,.int b])
theorem yK.same {H H':Hp} {p:Addr} (h:yK H p) (s:zm H H'):yK H' p:=by
 obtain ⟨a,b,h2,h3,h⟩:=h
 exact ⟨a,b,h2,h3,s _ _ h⟩
theorem SX.trans {p:Addr} {H H1 H2:Hp} (x:SX p H H1) (y:SX p H1 H2):SX p H H2:=fun b u e n=>y b u (x b u e n) n
theorem SX.to {p:Addr} {H H1 H2:Hp} (s:zm H H1) (x:SX p H1 H2) (np:H p = none):zm H H2:=fun b u e=>x b u (s b u e) (zf e np)
theorem yK.ne {H:Hp} {p a:Addr} (h:yK H p) (ha:H a = none):a ≠ p:=fun e=>by
 obtain ⟨_,_,_,_,h⟩:=h
 rw [<- e,ha] at h
 cases h
theorem yK.ne_refs {H:Hp} {p a:Addr} {us:List Addr} (h:yK H p) (ha:H a = some (.lst (us.map V.ref))):a ≠ p:=fun e=>by
 obtain ⟨_,_,_,_,h⟩:=h
 rw [<- e,ha] at h
 cases us with
 | nil=>cases h
 | cons u us=>cases h
theorem yK.ne_strs {H:Hp} {p a:Addr} {zs:List Str} (h:yK H p) (ha:H a = some (.lst (zs.map V.str))):a ≠ p:=fun e=>by
 obtain ⟨_,_,_,_,h⟩:=h
 rw [<- e,ha] at h
 cases zs with
 | nil=>cases h
 | cons u us=>cases h
theorem yK.ne_tup {H:Hp} {p a:Addr} {xs:List V} (h:yK H p) (ha:H a = some (.tup xs)):a ≠ p:=fun e=>by
 obtain ⟨_,_,_,_,h⟩:=h
 rw [<- e,ha] at h
 cases h
def ud:Sp:=fun vs H Q _=>∃ (p:Addr) (m:Int),vs = [.ref p,.int m]/\0 < m/\m<=2 * 10 ^ 60/\yK H p/\∀ (d:Int) (H':Hp),0<=d->d < m->SX p H H'->yK H' p->Q (.int d) H'
def zc4:Sp:=fun vs H Q _=>∃ p:Addr,vs = [.ref p]/\yK H p/\∀ (z:Str) (H':Hp),xh z = true->SX p H H'->yK H' p->Q (.str z) H'
section
variable {P:Program} {w:World} {K:Frag} {mg:Str->Option Value} {base:Heap} {f:Addr} {fd:FuncData}
theorem zc8:zu ["_law_pot","_law_many","_law_digit_here"] ["_law_pot","_law_many"] (ze u5):=⟨rfl,rfl,rfl,by decide +kernel,rfl,by decide +kernel,by decide +kernel⟩
theorem zfE (F:Fun K "_law_digit" "_law_digit" u5 f fd):zC P w K mg base CX0 1 f fd ["_law_pot","_law_many"] ud:=by
 refine F.ok zc8 (fun vs H Q E h=>?_) (fun cdv A outer s H vs Q E hr h=>?_)
 ·obtain ⟨p,m,rfl,_⟩:=h
  rfl
 obtain ⟨p,m,rfl,m0,m1,⟨a,b,b0,b1,hp⟩,q⟩:=h
 refine ⟨_,zd (zJ (zo zfh (zI yf (pv 0) zg (fun _ _=>rfl)) zg (zx _))
   (zd (wg (zr z5 (zr yo (zr wj (zI yf (pv 0) zg (fun _ _=>rfl)) zg) zg) zg) (ze6 (pv 0) zg zbh))
   (zh (zw (zr z5 (zr xq (zI yf (pv 0) zg (fun _ _=>rfl)) zg) (pv 1))))) zA)
  (zd (zv (i:=2) zc8.nd rfl (Or.inl rfl) (zr z5 (zI yf (pv 0) zg (fun _ _=>rfl)) (pv 1)))
  (zd (wg (zr zfi (zI yf (pv 0) zg (fun _ _=>rfl)) (pv 1)) (ze6 (pv 0) zg zbh))
  (zh (zw (pv 2))))),?_⟩
 refine ⟨_,rfl,p,_,0,.int a,rfl,rfl,SqL.of hp,rfl,_,_,rfl,rfl,_,rfl,?_⟩
 by_cases ha:a<=0
 ·refine dT ha ?_
  refine ⟨_,rfl,p,_,1,.int b,rfl,rfl,SqL.of hp,rfl,_,_,rfl,rfl,.inr ⟨by decide,by decide⟩,_,_,rfl,rfl,_,_,rfl,rfl,(by show (0:Int) < 2147483647; decide),_,rfl,p,_,1,1,rfl,rfl,hp,rfl,?_⟩
  have n0 : 0<=((b * 48271 + 11) % 2147483647):=Int.emod_nonneg _ (by decide)
  have n1:((b * 48271 + 11) % 2147483647) < 2147483647:=Int.emod_lt_of_pos _ (by decide)
  have g1:upd H p (.lst [.int a,.int ((b * 48271 + 11) % 2147483647)]) p = some (.lst [.int a,.int ((b * 48271 + 11) % 2147483647)]):=za
  refine ⟨_,rfl,p,_,1,.int ((b * 48271 + 11) % 2147483647),rfl,rfl,SqL.of g1,rfl,_,_,rfl,rfl,⟨by decide,by decide⟩,_,rfl,_,_,rfl,rfl,m0,?_⟩
  exact q _ _ (Int.emod_nonneg _ (by omega)) (Int.emod_lt_of_pos _ m0) (SX.upd (o:=.lst [.int a,.int ((b * 48271 + 11) % 2147483647)]) SX.refl) ⟨a,((b * 48271 + 11) % 2147483647),n0,by omega,za⟩
 ·refine dF ha ?_
  refine ⟨_,rfl,p,_,0,.int a,rfl,rfl,SqL.of hp,rfl,_,rfl,_,_,rfl,rfl,m0,?_⟩
  refine ⟨_,rfl,p,_,0,.int a,rfl,rfl,SqL.of hp,rfl,_,rfl,_,_,rfl,rfl,⟨m0,m1⟩,_,rfl,p,_,0,0,rfl,rfl,hp,rfl,?_⟩
  refine ⟨_,rfl,?_⟩
  exact q _ _ (Int.emod_nonneg _ (by omega)) (Int.emod_lt_of_pos _ m0) (SX.upd (o:=.lst [.int (a / m),.int b]) SX.refl) ⟨a / m,b,b0,b1,za⟩
theorem zda:zu ["_law_pot","_law_name","_law_k"] ["_law_pot"] (ze ww):=⟨rfl,rfl,rfl,by decide +kernel,rfl,by decide +kernel,by decide +kernel⟩
theorem zfF {g:Addr} {gd:FuncData} (F:Fun K "_law_any_name" "_law_any_name" ww f fd) (hran:mg "range" = none) (cT:zl P w K mg base 1 "_law_digit" g gd ["_law_pot","_law_many"] ud):zC P w K mg base CX0 2 f fd ["_law_pot"] zc4:=by
 refine F.ok zda (fun vs H Q E h=>?_) (fun cdv A outer s H vs Q E hr h=>?_)
 ·obtain ⟨p,rfl,_⟩:=h
  rfl
 obtain ⟨p,rfl,hp,q⟩:=h
 refine ⟨_,zd (zv (i:=1) zda.nd rfl (Or.inl rfl) zq)
  (zd (yE PassesOwn.never rfl (yu rfl hran (ac (zr yo zg (cF cT hr (ac (pv 0) (ac zg zb)))) zb)) (zk (i:=2) zda.nd rfl (Or.inl rfl))
   (zh (zv (i:=1) zda.nd rfl (Or.inl rfl) (zr jV (pv 1) (zI zfX zq (cF cT hr (ac (pv 0) (ac zg zb))) (fun _ _=>rfl))))))
  (zh (zw (pv 1)))),?_⟩
 refine yC (fun σ' H'=>σ' = [some (.ref p),some (.str ⟨#[]⟩),none]/\H' = H) ?_ (fun key=>key _ _ ⟨rfl,rfl⟩)
 rintro σ0 H0 ⟨rfl,rfl⟩
 refine ⟨_,rfl,p,8,rfl,by decide,by decide,hp,fun d H1 d0 d1 x1 p1=>?_⟩
 obtain ⟨e,rfl⟩:=Int.eq_ofNat_of_zero_le d0
 refine ⟨_,_,rfl,rfl,1 + (e:Int),rfl,by omega,by omega,?_⟩
 rw [show (1 + (e:Int)).toNat = 1 + e by omega]
 refine xj (n:=1 + e) (fun i σ H'=>∃ (zs:List Nat) (v2:Option V),σ = [some (.ref p),some (.str ⟨zs.toArray⟩),v2]/\zs.length = i/\(∀ c ∈ zs,97<=c/\c<=122)/\SX p H0 H'/\yK H' p) ⟨[],_,rfl,rfl,(fun c hc=>by cases hc),x1,p1⟩ ?_ ?_
 ·rintro i σ H2 hi ⟨zs,v2,rfl,lz,cz,x2,p2⟩
  refine ⟨_,rfl,_,rfl,p,26,rfl,by decide,by decide,p2,fun d2 H3 d20 d21 x3 p3=>?_⟩
  obtain ⟨c,rfl⟩:=Int.eq_ofNat_of_zero_le d20
  have hc:c < 26:=by omega
  refine ⟨letters,_,97 + c,rfl,rfl,(by rw [zbE]; decide),y4 (zcx c hc),_,_,rfl,rfl,(by show zs.toArray.size + 1<=_; rw [List.size_toArray]; exact z8 (by omega)),?_⟩
  have es:((⟨zs.toArray⟩:Str) ++ (⟨#[97 + c]⟩:Str)) = ⟨(zs ++ [97 + c]).toArray⟩:=congrArg Str.mk (by apply Array.ext'; simp)
  refine ⟨zs ++ [97 + c],_,by rw [<- es]; rfl,by rw [List.length_append,lz]; rfl,fun x hx=>?_,x2.trans x3,p3⟩
  rcases List.mem_append.mp hx with hx | hx
  ·exact cz x hx
  ·rw [List.mem_singleton.mp hx]; omega
 ·rintro σ H2 ⟨zs,v2,rfl,lz,cz,x2,p2⟩
  refine ⟨_,rfl,q _ _ (jb.mpr ⟨?_,?_,?_⟩) x2 p2⟩
  ·show 1<=zs.toArray.size
   rw [List.size_toArray]; omega
  ·show zs.toArray.size<=8
   rw [List.size_toArray]; omega
  ·intro c hc
   exact cz c (by simpa using hc)
end
theorem zfK (rows:List Rw) (r:Rw):nms (rows ++ [r]) = nms rows ++ (if z0 r.k = true then [r.z] else []):=by
 unfold nms
 rw [List.filter_append,List.map_append]
 congr 1
 rw [List.filter_cons,List.filter_nil]
 cases z0 r.k <;> rfl
theorem jW (rows:List Rw):(nms rows).length<=rows.length:=by
 unfold nms
 rw [List.length_map]
 exact List.length_filter_le _ _
theorem zbs {r:Rw}:∀ (rows:List Rw) (l:Nat),zW l rows = true->yB l (grp r.k) = false->(∀ x ∈ rows,yB (grp x.k) (grp r.k) = false)->zW l (rows ++ [r]) = true
 | [],l,_,hb,_=>by
  show (!yB l (grp r.k) && true) = true
  rw [hb]; rfl
 | y :: ys,l,h,hb,hx=>by
  have h':(!yB l (grp y.k) && zW (grp y.k) ys) = true:=h
  rw [Bool.and_eq_true] at h'
  show (!yB l (grp y.k) && zW (grp y.k) (ys ++ [r])) = true
  rw [h'.1,zbs ys (grp y.k) h'.2 (hx y List.mem_cons_self) (fun x h=>hx x (List.mem_cons_of_mem _ h))]
  rfl
structure AFD (g n:Nat) (rows:List Rw) (ts:List Str):Prop where
 ok:∀ r ∈ rows,r.ok
 ord:zW 0 rows = true
 nm:nms rows = ts
 nd:ts.Nodup
 gr:∀ r ∈ rows,grp r.k<=g
 ln:rows.length<=n
theorem AFD.up {g g' n n':Nat} {rows:List Rw} {ts:List Str} (h:AFD g n rows ts) (hg:g<=g') (hn:n<=n'):AFD g' n' rows ts:=⟨h.ok,h.ord,h.nm,h.nd,fun r hr=>Nat.le_trans (h.gr r hr) hg,Nat.le_trans h.ln hn⟩
theorem zgf {a c:Nat} (h:a < c):yB a c = false:=by
 unfold yB
 rw [decide_eq_false (by omega),beq_eq_false_iff_ne.mpr (by omega)]
 rfl
theorem ziM {c:Nat} (h:c = 0\/c = 2):yB c c = false:=by
 rcases h with rfl | rfl <;> decide
theorem AFD.add {g n:Nat} {rows:List Rw} {ts:List Str} {r:Rw} (h:AFD g n rows ts) (hr:r.ok) (hg:g < grp r.k\/(g = grp r.k/\(g = 0\/g = 2))) (hz:z0 r.k = true->r.z ∉ ts):AFD (grp r.k) (n + 1) (rows ++ [r]) (ts ++ (if z0 r.k = true then [r.z] else [])):=by
 have hle:g<=grp r.k:=by omega
 refine ⟨fun x hx=>?_,zbs rows 0 h.ord ?_ fun x hx=>?_,by rw [zfK,h.nm],?_,fun x hx=>?_,by rw [List.length_append,List.length_singleton]; have:=h.ln; omega⟩
 ·rcases List.mem_append.mp hx with hx | hx
  ·exact h.ok x hx
  ·rw [List.mem_singleton.mp hx]; exact hr
 ·rcases Nat.eq_zero_or_pos (grp r.k) with e | e
  ·rw [e]; rfl
  ·exact zgf e
 ·have h1:=h.gr x hx
  rcases Nat.lt_or_ge (grp x.k) (grp r.k) with e | e
  ·exact zgf e
  ·have e2:grp x.k = grp r.k:=by omega
   rw [e2]
   exact ziM (by omega)
 ·by_cases hb:z0 r.k = true
  ·rw [if_pos hb]
   refine List.nodup_append.mpr ⟨h.nd,by simp,fun a ha b hb' e=>?_⟩
   rw [List.mem_singleton.mp hb'] at e
   exact hz hb (e ▸ ha)
  ·rw [if_neg hb,List.append_nil]; exact h.nd
 ·rcases List.mem_append.mp hx with hx | hx
  ·exact Nat.le_trans (h.gr x hx) hle
  ·rw [List.mem_singleton.mp hx]; exact Nat.le_refl _
structure AFH (H H':Hp) (p lt ls:Addr) (us:List Addr) (rows:List Rw) (ts:List Str):Prop where
 s:zm H H'
 np:H p = none
 nt:H lt = none
 ns:H ls = none
 pt:yK H' p
 et:H' lt = some (.lst (ts.map V.str))
 es:H' ls = some (.lst (us.map V.ref))
 pr:Paired (TAt H') us rows
 ne:lt ≠ ls
section
variable {H H' H2:Hp} {p lt ls u:Addr} {us:List Addr} {rows:List Rw} {ts:List Str} {r:Rw} {z:Str}
theorem AFH.sx (h:AFH H H' p lt ls us rows ts) (x:SX p H' H2) (pt:yK H2 p):AFH H H2 p lt ls us rows ts:=by
 refine ⟨SX.to h.s x h.np,h.np,h.nt,h.ns,pt,x _ _ h.et (h.pt.ne_strs h.et),x _ _ h.es (h.pt.ne_refs h.es),Paired.imp' (fun u r z=>?_) h.pr,h.ne⟩
 have z':H' u = some (.tup (rv r)):=z
 exact x _ _ z' (h.pt.ne_tup z')
theorem AFH.same (h:AFH H H' p lt ls us rows ts) (s:zm H' H2):AFH H H2 p lt ls us rows ts:=
 ⟨h.s.trans s,h.np,h.nt,h.ns,h.pt.same s,s _ _ h.et,s _ _ h.es,z7 s h.pr,h.ne⟩
theorem x0 {a:Addr} {xs ys:List V} (h:TAt H u r) (ha:H a = some (.lst xs)):TAt (upd H a (.lst ys)) u r:=by
 show upd H a _ u = _
 rw [zi (fun e=>by rw [TAt,e,ha] at h; cases h)]
 exact h
theorem ug {a:Addr} {ys:List V} (h:yK H p) (ha:a ≠ p):yK (upd H a (.lst ys)) p:=by
 obtain ⟨x,y,h1,h2,h3⟩:=h
 exact ⟨x,y,h1,h2,by rw [zi (Ne.symm ha)]; exact h3⟩
theorem AFH.row (h:AFH H H' p lt ls us rows ts) (tu:TAt H' u r):AFH H (upd H' ls (.lst (us.map V.ref ++ [.ref u]))) p lt ls (us ++ [u]) (rows ++ [r]) ts:=
 ⟨fun b o e=>by rw [zi (zf e h.ns)]; exact h.s _ _ e,h.np,h.nt,h.ns,ug h.pt (h.pt.ne_refs h.es),by rw [zi h.ne]; exact h.et,by rw [za,List.map_append]; rfl,Paired.snoc (Paired.imp' (fun _ _ z=>x0 z h.es) h.pr) (x0 tu h.es),h.ne⟩
theorem AFH.name (h:AFH H H' p lt ls us rows ts):AFH H (upd H' lt (.lst (ts.map V.str ++ [.str z]))) p lt ls us rows (ts ++ [z]):=
 ⟨fun b o e=>by rw [zi (zf e h.nt)]; exact h.s _ _ e,h.np,h.nt,h.ns,ug h.pt (h.pt.ne_strs h.et),by rw [za,List.map_append]; rfl,by rw [zi (Ne.symm h.ne)]; exact h.es,Paired.imp' (fun _ _ z=>x0 z h.et) h.pr,h.ne⟩
end
def zaD:Sp:=fun vs H Q _=>∃ cell:Int,vs = [.int cell]/\∀ (t la lb:Addr) (us:List Addr) (rows:List Rw) (bars:List Str) (H':Hp),zm H H'->H' t = some (.tup [.ref la,.ref lb])->H' la = some (.lst (us.map V.ref))->Paired (TAt H') us rows->H' lb = some (.lst (bars.map V.str))->yP rows bars->Q (.ref t) H'
section
variable {P:Program} {w:World} {K:Frag} {mg:Str->Option Value} {base:Heap} {f:Addr} {fd:FuncData}
theorem yY:zu ["_law_cell_here","_law_pot","_law_told","_law_some","_law_k","_law_name","_law_sort","_law_free","_law_bars"] ["_law_cell_here"] (ze wx):=⟨rfl,rfl,rfl,by decide +kernel,rfl,by decide +kernel,by decide +kernel⟩
theorem zfG {g1 g2:Addr} {d1 d2:FuncData} (F:Fun K "_law_any_form" "_law_any_form" wx f fd) (U:js mg) (cDg:zl P w K mg base 1 "_law_digit" g1 d1 ["_law_pot","_law_many"] ud) (cNm:zl P w K mg base 2 "_law_any_name" g2 d2 ["_law_pot"] zc4):zC P w K mg base CX0 3 f fd ["_law_cell_here"] zaD:=by
 refine F.ok yY (fun vs H Q E h=>?_) (fun cdv A outer s H vs Q E hr h=>?_)
 ·obtain ⟨cell,rfl,_⟩:=h
  rfl
 obtain ⟨cell,rfl,q⟩:=h
 have hr1:ya 1 _:=hr.mono (by decide)
 refine ⟨_,zd (zv (i:=1) yY.nd rfl (Or.inl rfl) (zM (ac (pv 0) (ac (zr yo (zr z5 (pv 0) zg) zg) zb))))
  (zd (zv (i:=2) yY.nd rfl (Or.inl rfl) (zM zb))
  (zd (zv (i:=3) yY.nd rfl (Or.inl rfl) (zM zb))
  (zd (yE PassesOwn.never rfl (yu rfl U.range (ac (cF cDg hr1 (ac (pv 1) (ac zg zb))) zb)) (zk (i:=4) yY.nd rfl (Or.inl rfl))
   (zd (zv (i:=5) yY.nd rfl (Or.inl rfl) (cF cNm hr (ac (pv 1) zb)))
   (zd (zv (i:=6) yY.nd rfl (Or.inl rfl) (zI yf (zM (ac zq (ac zq zb))) (zr wj (cF cDg hr1 (ac (pv 1) (ac zg zb))) (cTy zeD U.int PyProof.Rows.boot_int (ac (xb yI (pv 5) (pv 2) (by with_unfolding_all rfl)) zb))) (fun _ _=>rfl)))
   (zd (zE (yz PySem.F.plainAttrs_list PySem.F.slot_list_append PySem.F.type_list_append zG (pv 3) (ac (zH (ac (pv 6) (ac (pv 5) (ac (xb ym (cF cDg hr1 (ac (pv 1) (ac zg zb))) zg (zx _)) zb)))) zb)))
   (zh (zJ (zo ym (pv 6) zq (zx _)) (zh (zE (yz PySem.F.plainAttrs_list PySem.F.slot_list_append PySem.F.type_list_append zG (pv 2) (ac (pv 5) zb)))) zA))))))
  (zd (zJ (PW.pt (xw (zo jk (cB zB U.len PySem.boot_len (ac (pv 3) zb)) zg (zx _)) (yZ (zo ym (cF cDg hr1 (ac (pv 1) (ac zg zb))) zg (zx _))))) (zh (zE (yz PySem.F.plainAttrs_list PySem.F.slot_list_append PySem.F.type_list_append zG (pv 3) (ac (zH (ac zq (ac (cF cNm hr (ac (pv 1) zb)) zb))) zb)))) zA)
  (zd (yE PassesOwn.never rfl (yu rfl U.range (ac (cF cDg hr1 (ac (pv 1) (ac (zr wK zg (cB zB U.len PySem.boot_len (ac (pv 3) zb))) zb))) zb)) (zk (i:=4) yY.nd rfl (Or.inl rfl))
   (zd (zv (i:=5) yY.nd rfl (Or.inl rfl) (cF cNm hr (ac (pv 1) zb)))
   (zd (zv (i:=7) yY.nd rfl (Or.inl rfl) (xb ym (cF cDg hr1 (ac (pv 1) (ac zg zb))) zg (zx _)))
   (zh (zJ (zo yI (pv 5) (pv 2) (by with_unfolding_all rfl)) (zd (zE (yz PySem.F.plainAttrs_list PySem.F.slot_list_append PySem.F.type_list_append zG (pv 3) (ac (zH (ac zq (ac (pv 5) (ac (pv 7) zb)))) zb)))
    (zh (zE (yz PySem.F.plainAttrs_list PySem.F.slot_list_append PySem.F.type_list_append zG (pv 2) (ac (pv 5) zb))))) zA)))))
  (zd (zJ (PW.pt (xw (zo jk (cB zB U.len PySem.boot_len (ac (pv 3) zb)) zg (zx _)) (yZ (zo ym (cF cDg hr1 (ac (pv 1) (ac zg zb))) zg (zx _))))) (zh (zE (yz PySem.F.plainAttrs_list PySem.F.slot_list_append PySem.F.type_list_append zG (pv 3) (ac (zH (ac zq (ac (cF cNm hr (ac (pv 1) zb)) zb))) zb)))) zA)
  (zd (zv (i:=8) yY.nd rfl (Or.inl rfl) (zM zb))
  (zd (yE PassesOwn.never rfl (yu rfl U.range (ac (cF cDg hr1 (ac (pv 1) (ac zg zb))) zb)) (zk (i:=4) yY.nd rfl (Or.inl rfl))
   (zd (zv (i:=5) yY.nd rfl (Or.inl rfl) (cF cNm hr (ac (pv 1) zb)))
   (zh (zJ (zo yI (pv 5) (zr y8 (pv 2) (pv 8)) (by with_unfolding_all rfl)) (zh (zE (yz PySem.F.plainAttrs_list PySem.F.slot_list_append PySem.F.type_list_append zG (pv 8) (ac (pv 5) zb)))) zA))))
  (zh (zw (zH (ac (pv 3) (ac (pv 8) zb))))))))))))),?_⟩
 refine ⟨_,rfl,_,rfl,_,_,rfl,rfl,zp2147483629,_,_,rfl,rfl,zz2,fun p hp=>?_⟩
 have s1:=zc hp (.lst [.int cell,.int (cell % 2147483629 + 1)])
 have g1:yK (upd H p (.lst [.int cell,.int (cell % 2147483629 + 1)])) p:=by
  have h0:=Int.emod_nonneg cell (show (2147483629:Int) ≠ 0 by decide)
  have h1:=Int.emod_lt_of_pos cell (show (0:Int) < 2147483629 by decide)
  exact ⟨_,_,by omega,by omega,za⟩
 dsimp only [yg]
 generalize upd H p (.lst [.int cell,.int (cell % 2147483629 + 1)]) = H1 at s1 g1 |-
 refine ⟨zz0,fun lt hlt=>?_⟩
 have s2:=zc hlt (.lst [])
 have g2:upd H1 lt (.lst []) lt = some (.lst []):=za
 dsimp only [yg]
 generalize upd H1 lt (.lst []) = H2 at s2 g2 |-
 refine ⟨zz0,fun ls hls=>?_⟩
 have s3:=zc hls (.lst [])
 have g3:upd H2 ls (.lst []) ls = some (.lst []):=za
 dsimp only [yg]
 generalize upd H2 ls (.lst []) = H3 at s3 g3 |-
 have A0:AFH H H3 p lt ls [] [] []:=⟨s1.trans (s2.trans s3),hp,s1.free hlt,(s1.trans s2).free hls,(g1.same s2).same s3,s3 _ _ g2,g3,.nil,fun e=>by rw [<- e,g2] at hls; cases hls⟩
 have D0:AFD 0 0 [] []:=⟨(fun r hr=>by cases hr),rfl,rfl,.nil,(fun r hr=>by cases hr),Nat.le_refl _⟩
 clear s1 g1 s2 g2 s3 g3 hp hlt hls
 refine yC (fun σ' H'=>∃ (us:List Addr) (rows:List Rw) (ts:List Str) (v4 v5 v6:Option V),σ' = [some (.int cell),some (.ref p),some (.ref lt),some (.ref ls),v4,v5,v6,none,none]/\AFH H H' p lt ls us rows ts/\AFD 0 24 rows ts) ?_ (fun key=>?_)
 rotate_left
 ·refine ⟨_,rfl,p,25,rfl,by decide,by decide,A0.pt,fun d H4 d0 d1 x4 p4=>?_⟩
  obtain ⟨n,rfl⟩:=Int.eq_ofNat_of_zero_le d0
  have A4:=A0.sx x4 p4
  refine ⟨(n:Int),rfl,by omega,by omega,?_⟩
  rw [show ((n:Nat):Int).toNat = n by omega]
  refine xj (n:=n) (fun i σ H'=>∃ (us:List Addr) (rows:List Rw) (ts:List Str) (v4 v5 v6:Option V),σ = [some (.int cell),some (.ref p),some (.ref lt),some (.ref ls),v4,v5,v6,none,none]/\AFH H H' p lt ls us rows ts/\AFD 0 i rows ts) ⟨[],[],[],_,_,_,rfl,A4,D0⟩ ?_ ?_
  ·rintro i σ H5 hi ⟨us,rows,ts,v4,v5,v6,rfl,A5,D5⟩
   refine ⟨_,rfl,p,rfl,A5.pt,fun z H6 hz x6 p6=>?_⟩
   have A6:=A5.sx x6 p6
   refine ⟨zz2,fun l hl=>?_⟩
   have s7:=zc hl (.lst [.str "seat",.str "both"])
   have g7:upd H6 l (.lst [.str "seat",.str "both"]) l = some (.lst ((["seat","both"]:List Str).map V.str)):=za
   generalize upd H6 l (.lst [.str "seat",.str "both"]) = H7 at s7 g7 |-
   have A7:=A6.same s7
   refine ⟨_,rfl,p,2,rfl,by decide,by decide,A7.pt,fun d H8 d0' d1' x8 p8=>?_⟩
   have g8:=x8 _ _ g7 (A7.pt.ne_strs g7)
   have A8:=A7.sx x8 p8
   obtain ⟨e,rfl⟩:=Int.eq_ofNat_of_zero_le d0'
   refine ⟨_,rfl,_,rfl,lt,_,rfl,.inl (SqL.of A8.et),rfl,xT,.inr ⟨_,rfl,?_⟩⟩
   rw [if_pos rfl,wl]
   obtain ⟨k,hk,hk1,hkz⟩:∃ k:Nat,((e:Int) * (if (!decide (z ∈ ts)) = true then 1 else 0) = (k:Int))/\k < 2/\(k = 1->z ∉ ts):=by
    by_cases hz1:z ∈ ts
    ·exact ⟨0,by rw [decide_eq_true hz1]; simp,by omega,by omega⟩
    ·exact ⟨e,by rw [decide_eq_false hz1]; simp,by omega,fun _=>hz1⟩
   refine ⟨_,_,rfl,rfl,.inr ⟨by split <;> decide,by split <;> decide⟩,l,_,(k:Int),.str (kw k),rfl,(by rw [<- hk]),SqL.of g8,?_,?_⟩
   ·have:k = 0\/k = 1:=by omega
    rcases this with rfl | rfl
    ·rfl
    ·rfl
   refine ⟨_,rfl,.inl ⟨rfl,_,SqL.of A8.es⟩,_,rfl,_,rfl,_,rfl,p,2,rfl,by decide,by decide,A8.pt,fun d H9 _ _ x9 p9=>?_⟩
   have A9:=A8.sx x9 p9
   refine ⟨rfl,zz3,fun u hu=>?_⟩
   generalize decide (V.int d = V.int 1) = b
   have s10:=zc hu (.tup [.str (kw k),.str z,.bl b])
   have tu:TAt (upd H9 u (.tup [.str (kw k),.str z,.bl b])) u ⟨k,z,b⟩:=by
    show upd H9 u _ u = some (.tup (zbl k (.str z) b))
    rw [za]
    have:k = 0\/k = 1:=by omega
    rcases this with rfl | rfl <;> rfl
   have A10:=A9.same s10
   generalize upd H9 u (.tup [.str (kw k),.str z,.bl b]) = H10 at s10 tu A10 |-
   have lus:us.length<=24:=by rw [A10.pr.length]; have:=D5.ln; omega
   refine ⟨ls,_,_,rfl,rfl,A10.es,zz (by rw [List.length_map]; omega),?_⟩
   have A11:=A10.row tu
   have hk01:k = 0\/k = 1:=by omega
   have hgk:grp k = 0:=by rcases hk01 with rfl | rfl <;> rfl
   have hbk:z0 k = true->k = 1:=by
    rcases hk01 with rfl | rfl
    ·intro hb; cases hb
    ·exact fun _=>rfl
   have D11:=D5.add (r:=⟨k,z,b⟩) ⟨by show k < 5; omega,hz⟩ (.inr ⟨hgk.symm,.inl rfl⟩) (fun hb=>hkz (hbk hb))
   generalize upd H10 ls (.lst (us.map V.ref ++ [.ref u])) = H11 at A11 |-
   refine ⟨_,rfl,rfl,_,rfl,?_⟩
   rcases hk01 with rfl | rfl
   ·refine dF (fun e=>absurd (V.str.inj e) (by decide +kernel)) ?_
    exact ⟨_,_,ts,_,_,_,rfl,A11,by simpa [z0,grp] using D11⟩
   ·refine dT rfl ?_
    have lts:ts.length<=24:=by
     have h1:=jW rows
     rw [D5.nm] at h1
     have:=D5.ln
     omega
    refine ⟨_,rfl,.inl ⟨rfl,_,SqL.of A11.et⟩,_,rfl,lt,_,_,rfl,rfl,A11.et,zz (by rw [List.length_map]; omega),?_⟩
    exact ⟨_,_,_,_,_,_,rfl,A11.name,by simpa [z0,grp] using D11⟩
  ·rintro σ H5 ⟨us,rows,ts,v4,v5,v6,rfl,A5,D5⟩
   exact key _ _ ⟨us,rows,ts,_,_,_,rfl,A5,D5.up (Nat.le_refl _) (by omega)⟩
 clear A0 D0
 rintro σ4 H4 ⟨us,rows,ts,v4,v5,v6,rfl,A4,D4⟩
 refine yC (fun σ' H'=>∃ (us:List Addr) (rows:List Rw) (ts:List Str),σ' = [some (.int cell),some (.ref p),some (.ref lt),some (.ref ls),v4,v5,v6,none,none]/\AFH H H' p lt ls us rows ts/\AFD 1 24 rows ts) ?_ (fun key=>?_)
 rotate_left
 ·refine ⟨_,rfl,ls,_,rfl,.inl (SqL.of A4.es),_,_,rfl,rfl,_,rfl,?_⟩
  refine qa (fun hl24=>?_) (fun _=>?_)
  ·have hl24:=of_decide_eq_true hl24
   rw [List.length_map,A4.pr.length] at hl24
   refine ⟨_,rfl,p,2,rfl,by decide,by decide,A4.pt,fun d H5 _ _ x5 p5=>?_⟩
   have A5:=A4.sx x5 p5
   refine ⟨rfl,_,rfl,?_⟩
   refine qa (fun _=>?_) (fun _=>?_)
   ·refine ⟨_,rfl,.inl ⟨rfl,_,SqL.of A5.es⟩,_,rfl,p,rfl,A5.pt,fun z H6 hz x6 p6=>?_⟩
    have A6:=A5.sx x6 p6
    refine ⟨zz2,fun u hu=>?_⟩
    have s7:=zc hu (.tup [.str "tail",.str z])
    have tu:TAt (upd H6 u (.tup [.str "tail",.str z])) u ⟨2,z,true⟩:=za
    have A7:=A6.same s7
    generalize upd H6 u (.tup [.str "tail",.str z]) = H7 at s7 tu A7 |-
    refine ⟨ls,_,_,rfl,rfl,A7.es,zz (by rw [List.length_map,A7.pr.length]; omega),?_⟩
    have D7:=(AFD.mk (n:=rows.length) D4.ok D4.ord D4.nm D4.nd D4.gr (Nat.le_refl _)).add (r:=⟨2,z,true⟩) ⟨(by show 2 < 5; decide),hz⟩ (.inl (by show _ < grp 2; decide)) (fun hb=>by cases hb)
    exact key _ _ ⟨_,_,ts,rfl,A7.row tu,AFD.up (by simpa [z0,grp] using D7) (Nat.le_refl _) (by omega)⟩
   ·exact key _ _ ⟨us,rows,ts,rfl,A5,D4.up (by decide) (Nat.le_refl _)⟩
  ·exact key _ _ ⟨us,rows,ts,rfl,A4,D4.up (by decide) (Nat.le_refl _)⟩
 clear A4 D4 us rows ts
 rintro σ5 H5 ⟨us,rows,ts,rfl,A5,D5⟩
 refine yC (fun σ' H'=>∃ (us:List Addr) (rows:List Rw) (ts:List Str) (v4 v5 v7:Option V),σ' = [some (.int cell),some (.ref p),some (.ref lt),some (.ref ls),v4,v5,v6,v7,none]/\AFH H H' p lt ls us rows ts/\AFD 2 24 rows ts) ?_ (fun key=>?_)
 rotate_left
 ·have l5:=D5.ln
  refine ⟨_,rfl,_,rfl,ls,_,rfl,.inl (SqL.of A5.es),_,_,rfl,rfl,p,_,rfl,?_,?_,A5.pt,fun d H6 d0 d1 x6 p6=>?_⟩
  ·show (0:Int) < 25 - (((us.map V.ref).length:Nat):Int)
   rw [List.length_map,A5.pr.length]; omega
  ·show 25 - (((us.map V.ref).length:Nat):Int)<=2 * 10 ^ 60
   have:(25:Int)<=2 * 10 ^ 60:=by decide
   omega
  have d1:d < 25 - (((us.map V.ref).length:Nat):Int):=d1
  rw [List.length_map,A5.pr.length] at d1
  obtain ⟨n,rfl⟩:=Int.eq_ofNat_of_zero_le d0
  have A6:=A5.sx x6 p6
  refine ⟨(n:Int),rfl,by omega,by omega,?_⟩
  rw [show ((n:Nat):Int).toNat = n by omega]
  generalize hm:rows.length = m at d1
  refine xj (n:=n) (fun i σ H'=>∃ (us:List Addr) (rows:List Rw) (ts:List Str) (v4 v5 v7:Option V),σ = [some (.int cell),some (.ref p),some (.ref lt),some (.ref ls),v4,v5,v6,v7,none]/\AFH H H' p lt ls us rows ts/\AFD 2 (m + i) rows ts) ⟨us,rows,ts,_,_,_,rfl,A6,⟨D5.ok,D5.ord,D5.nm,D5.nd,fun r hr=>Nat.le_trans (D5.gr r hr) (by decide),by omega⟩⟩ ?_ ?_
  ·rintro i σ H7 hi ⟨us,rows,ts,v4,v5,v7,rfl,A7,D7⟩
   refine ⟨_,rfl,p,rfl,A7.pt,fun z H8 hz x8 p8=>?_⟩
   have A8:=A7.sx x8 p8
   refine ⟨_,rfl,p,2,rfl,by decide,by decide,A8.pt,fun d H9 _ _ x9 p9=>?_⟩
   have A9:=A8.sx x9 p9
   refine ⟨rfl,?_⟩
   dsimp only [yg]
   generalize decide (V.int d = V.int 1) = b
   refine ⟨_,rfl,_,rfl,lt,_,rfl,.inl (SqL.of A9.et),rfl,xT,_,rfl,?_⟩
   rw [if_pos rfl,wl]
   have l7:=D7.ln
   by_cases hz1:z ∈ ts
   ·refine j9 (by rw [decide_eq_true hz1]; rfl) ?_
    exact ⟨us,rows,ts,_,_,_,rfl,A9,D7.up (Nat.le_refl _) (by omega)⟩
   ·refine qv (by rw [decide_eq_false hz1]; rfl) ?_
    refine ⟨_,rfl,.inl ⟨rfl,_,SqL.of A9.es⟩,_,rfl,_,rfl,zz3,fun u hu=>?_⟩
    have s10:=zc hu (.tup [.str "tag",.str z,.bl b])
    have tu:TAt (upd H9 u (.tup [.str "tag",.str z,.bl b])) u ⟨3,z,b⟩:=za
    have A10:=A9.same s10
    generalize upd H9 u (.tup [.str "tag",.str z,.bl b]) = H10 at s10 tu A10 |-
    refine ⟨ls,_,_,rfl,rfl,A10.es,zz (by rw [List.length_map,A10.pr.length]; omega),?_⟩
    have A11:=A10.row tu
    have D11:=D7.add (r:=⟨3,z,b⟩) ⟨(by show 3 < 5; decide),hz⟩ (.inr ⟨rfl,.inr rfl⟩) (fun _=>hz1)
    generalize upd H10 ls (.lst (us.map V.ref ++ [.ref u])) = H11 at A11 |-
    have lts:ts.length<=24:=by
     have h1:=jW rows
     rw [D7.nm] at h1
     omega
    refine ⟨_,rfl,.inl ⟨rfl,_,SqL.of A11.et⟩,_,rfl,lt,_,_,rfl,rfl,A11.et,zz (by rw [List.length_map]; omega),?_⟩
    exact ⟨_,_,_,_,_,_,rfl,A11.name,by simp [z0,grp] at D11; exact D11⟩
  ·rintro σ H7 ⟨us,rows,ts,v4,v5,v7,rfl,A7,D7⟩
   exact key _ _ ⟨us,rows,ts,_,_,_,rfl,A7,D7.up (Nat.le_refl _) (by omega)⟩
 clear A5 D5 us rows ts v4 v5
 rintro σ6 H6 ⟨us,rows,ts,v4,v5,v7,rfl,A6,D6⟩
 refine yC (fun σ' H'=>∃ (us:List Addr) (rows:List Rw) (ts:List Str),σ' = [some (.int cell),some (.ref p),some (.ref lt),some (.ref ls),v4,v5,v6,v7,none]/\AFH H H' p lt ls us rows ts/\AFD 3 24 rows ts) ?_ (fun key=>?_)
 rotate_left
 ·refine ⟨_,rfl,ls,_,rfl,.inl (SqL.of A6.es),_,_,rfl,rfl,_,rfl,?_⟩
  refine qa (fun hl24=>?_) (fun _=>?_)
  ·have hl24:=of_decide_eq_true hl24
   rw [List.length_map,A6.pr.length] at hl24
   refine ⟨_,rfl,p,2,rfl,by decide,by decide,A6.pt,fun d H7 _ _ x7 p7=>?_⟩
   have A7:=A6.sx x7 p7
   refine ⟨rfl,_,rfl,?_⟩
   refine qa (fun _=>?_) (fun _=>?_)
   ·refine ⟨_,rfl,.inl ⟨rfl,_,SqL.of A7.es⟩,_,rfl,p,rfl,A7.pt,fun z H8 hz x8 p8=>?_⟩
    have A8:=A7.sx x8 p8
    refine ⟨zz2,fun u hu=>?_⟩
    have s9:=zc hu (.tup [.str "bag",.str z])
    have tu:TAt (upd H8 u (.tup [.str "bag",.str z])) u ⟨4,z,true⟩:=za
    have A9:=A8.same s9
    generalize upd H8 u (.tup [.str "bag",.str z]) = H9 at s9 tu A9 |-
    refine ⟨ls,_,_,rfl,rfl,A9.es,zz (by rw [List.length_map,A9.pr.length]; omega),?_⟩
    have D9:=(AFD.mk (n:=rows.length) D6.ok D6.ord D6.nm D6.nd D6.gr (Nat.le_refl _)).add (r:=⟨4,z,true⟩) ⟨(by show 4 < 5; decide),hz⟩ (.inl (by show _ < grp 4; decide)) (fun hb=>by cases hb)
    exact key _ _ ⟨_,_,ts,rfl,A9.row tu,AFD.up (by simpa [z0,grp] using D9) (Nat.le_refl _) (by omega)⟩
   ·exact key _ _ ⟨us,rows,ts,rfl,A7,D6.up (by decide) (Nat.le_refl _)⟩
  ·exact key _ _ ⟨us,rows,ts,rfl,A6,D6.up (by decide) (Nat.le_refl _)⟩
 clear A6 D6 us rows ts
 rintro σ7 H7 ⟨us,rows,ts,rfl,A7,D7⟩
 refine ⟨zz0,fun lb hlb=>?_⟩
 have s8:=zc hlb (.lst [])
 have g8:upd H7 lb (.lst []) lb = some (.lst []):=za
 have A8:=A7.same s8
 have nbt:lb ≠ lt:=fun e=>by rw [e,A7.et] at hlb; cases hlb
 have nbs:lb ≠ ls:=fun e=>by rw [e,A7.es] at hlb; cases hlb
 have nbp:lb ≠ p:=A7.pt.ne hlb
 have nb:H lb = none:=A7.s.free hlb
 have tb:∀ u r,TAt H7 u r->u ≠ lb:=fun u r h e=>by rw [TAt,e,hlb] at h; cases h
 dsimp only [yg]
 generalize upd H7 lb (.lst []) = H8 at s8 g8 A8 |-
 have lts:ts.length<=24:=by
  have h1:=jW rows
  rw [D7.nm] at h1
  have:=D7.ln
  omega
 clear A7 s8 hlb tb
 refine ⟨_,rfl,p,61,rfl,by decide,by decide,A8.pt,fun d H9 d0 d1 x9 p9=>?_⟩
 obtain ⟨n,rfl⟩:=Int.eq_ofNat_of_zero_le d0
 have A9:=A8.sx x9 p9
 have g9:=x9 _ _ g8 nbp
 refine ⟨(n:Int),rfl,by omega,by omega,?_⟩
 rw [show ((n:Nat):Int).toNat = n by omega]
 refine xj (n:=n) (fun i σ H'=>∃ (bars:List Str) (v4 v5:Option V),σ = [some (.int cell),some (.ref p),some (.ref lt),some (.ref ls),v4,v5,v6,v7,some (.ref lb)]/\AFH H H' p lt ls us rows ts/\H' lb = some (.lst (bars.map V.str))/\bars.length<=i/\(∀ z ∈ bars,xh z = true)/\(ts ++ bars).Nodup) ⟨[],_,_,rfl,A9,g9,Nat.le_refl _,(fun z hz=>by cases hz),by rw [List.append_nil]; exact D7.nd⟩ ?_ ?_
 ·rintro i σ H10 hi ⟨bars,v4,v5,rfl,A10,g10,lb10,bn,nd⟩
  refine ⟨_,rfl,p,rfl,A10.pt,fun z H11 hz x11 p11=>?_⟩
  have A11:=A10.sx x11 p11
  have g11:=x11 _ _ g10 nbp
  refine ⟨_,rfl,_,rfl,_,rfl,lt,lb,_,_,rfl,rfl,A11.et,g11,z8 (by rw [List.length_map,List.length_map]; omega),fun l hl=>?_⟩
  have s12:=zc hl (.lst (ts.map V.str ++ bars.map V.str))
  have g12:upd H11 l (.lst (ts.map V.str ++ bars.map V.str)) l = some (.lst ((ts ++ bars).map V.str)):=by rw [za,List.map_append]
  have A12:=A11.same s12
  have g12b:=s12 _ _ g11
  generalize upd H11 l (.lst (ts.map V.str ++ bars.map V.str)) = H12 at s12 g12 A12 g12b |-
  refine ⟨l,_,rfl,.inl (SqL.of g12),rfl,xT,_,rfl,?_⟩
  rw [if_pos rfl,wl]
  by_cases hz1:z ∈ ts ++ bars
  ·refine j9 (by rw [decide_eq_true hz1]; rfl) ?_
   exact ⟨bars,_,_,rfl,A12,g12b,by omega,bn,nd⟩
  ·refine qv (by rw [decide_eq_false hz1]; rfl) ?_
   refine ⟨_,rfl,.inl ⟨rfl,_,SqL.of g12b⟩,_,rfl,lb,_,_,rfl,rfl,g12b,zz (by rw [List.length_map]; omega),?_⟩
   refine ⟨bars ++ [z],_,_,rfl,?_,by rw [za,List.map_append]; rfl,by rw [List.length_append,List.length_singleton]; omega,fun y hy=>?_,?_⟩
   ·exact ⟨fun b o e=>by rw [zi (zf e nb)]; exact A12.s _ _ e,A12.np,A12.nt,A12.ns,ug A12.pt nbp,by rw [zi (Ne.symm nbt)]; exact A12.et,by rw [zi (Ne.symm nbs)]; exact A12.es,Paired.imp' (fun _ _ z=>x0 z g12b) A12.pr,A12.ne⟩
   ·rcases List.mem_append.mp hy with hy | hy
    ·exact bn y hy
    ·rw [List.mem_singleton.mp hy]; exact hz
   ·rw [<- List.append_assoc]
    refine List.nodup_append.mpr ⟨nd,by simp,fun a ha b hb e=>?_⟩
    rw [List.mem_singleton.mp hb] at e
    exact hz1 (e ▸ ha)
 ·rintro σ H10 ⟨bars,v4,v5,rfl,A10,g10,lb10,bn,nd⟩
  refine ⟨_,rfl,_,rfl,zz2,fun t ht=>?_⟩
  have s11:=zc ht (.tup [.ref ls,.ref lb])
  exact q t ls lb us rows bars _ (A10.s.trans s11) za (s11 _ _ A10.es) (z7 s11 A10.pr) (s11 _ _ g10) ⟨D7.ok,D7.ln,by omega,D7.ord,bn,by rw [D7.nm]; exact nd⟩
end
def qx (H:Hp) (u:Addr) (p:Str × Int):Prop:=H u = some (.tup [.str p.1,.int p.2])
theorem zbn {H H':Hp} {us:List Addr} {ps:List (Str × Int)} (s:zm H H') (h:Paired (qx H) us ps):Paired (qx H') us ps:=Paired.imp' (fun _ _ z=>s _ _ z) h
theorem ze0 {K:Frag} {H:Hp} {us:List Addr} {ps:List (Str × Int)} (h:Paired (qx H) us ps):Paired (zF K T' H 1) (us.map V.ref) (ps.map ye):=by
 induction h with
 | nil=>exact .nil
 | cons h _ ih=>exact .cons (.tup (SqT.of h) (.cons .str (.cons .int .nil))) ih
theorem zcV {R:Addr->Rw->Prop} {us:List Addr} {rows:List Rw} (h:Paired R us rows):(((us.zip rows).filter fun _=>true).map fun p=>V.str p.2.z) = (rows.map (·.z)).map V.str:=by
 induction h with
 | nil=>rfl
 | @cons u r us rows _ _ ih=>
  rw [List.zip_cons_cons,List.filter_cons,if_pos rfl,List.map_cons,ih]
  rfl
theorem zge {n:Nat} (h:n<=100):((n:Nat):Int)<=2 * 10 ^ 60:=by
 have:(100:Int)<=2 * 10 ^ 60:=by decide
 omega
def zaE (K:Frag):Sp:=fun vs H Q _=>∃ (cell:Int) (t la lb:Addr) (us:List Addr) (rows:List Rw) (bars:List Str),vs = [.int cell,.ref t]/\H t = some (.tup [.ref la,.ref lb])/\H la = some (.lst (us.map V.ref))/\Paired (TAt H) us rows/\H lb = some (.lst (bars.map V.str))/\rows.length<=24/\bars.length<=60/\
 ∀ (p l1 l2:Addr) (ts:List Int) (ys:List V) (ps:List (Str × Int)) (H':Hp),zm H H'->H' p = some (.tup [.ref l1,.ref l2])->H' l1 = some (.lst (ts.map V.int))->H' l2 = some (.lst ys)->Paired (zF K T' H' 1) ys (ps.map ye)->ts.length<=60->ps.length<=60->Q (.ref p) H'
section
variable {P:Program} {w:World} {K:Frag} {mg:Str->Option Value} {base:Heap} {f:Addr} {fd:FuncData}
theorem zjq:([Str.ofString "_law_k",Str.ofString "_law_pot"]:List Str).Nodup:=by decide +kernel
theorem xA:zu ["_law_cell_here","_law_told","_law_pot","_law_most","_law_known","_law_k","_law_things","_law_pairs","_law_at","_law_name"] ["_law_cell_here","_law_told"] (ze wy):=⟨rfl,rfl,rfl,by decide +kernel,rfl,by decide +kernel,by decide +kernel⟩
theorem zfH {g1 g2:Addr} {d1 d2:FuncData} (F:Fun K "_law_any_call" "_law_any_call" wy f fd) (U:js mg) (cDg:zl P w K mg base 1 "_law_digit" g1 d1 ["_law_pot","_law_many"] ud) (cNm:zl P w K mg base 2 "_law_any_name" g2 d2 ["_law_pot"] zc4):zC P w K mg base CX0 3 f fd ["_law_cell_here","_law_told"] (zaE K):=by
 refine F.ok xA (fun vs H Q E h=>?_) (fun cdv A outer s H vs Q E hr h=>?_)
 ·obtain ⟨cell,t,la,lb,us,rows,bars,rfl,_⟩:=h
  rfl
 obtain ⟨cell,t,la,lb,us,rows,bars,rfl,ht,hla,hu,hlb,l24,l60,q⟩:=h
 have hr1:ya 1 _:=hr.mono (by decide)
 refine ⟨_,zd (zv (i:=2) xA.nd rfl (Or.inr rfl) (zM (ac (pv 0) (ac (zr yo (zr z5 (pv 0) zg) zg) zb))))
  (zd (zv (i:=3) xA.nd rfl (Or.inl rfl) (zI yf (zM (ac zg (ac zg (ac zg (ac zg zb))))) (cF cDg hr1 (ac (pv 2) (ac zg zb))) (fun _ _=>rfl)))
  (zd (zv (i:=4) xA.nd rfl (Or.inl rfl) (zr y8 (xI [] ["_law_one"] [none] rfl ⟨rfl,rfl,rfl,rfl⟩ (yH (zI zQ (pv 1) zg (fun _ _=>rfl))) (yx 0) rfl rfl rfl
   (fun pins fp s H C=>⟨zk (i:=0) zir rfl (Or.inl rfl) (.inr rfl),xp,zI (r:=zh5 K) zQ (pv 0) zg (fun _ _=>rfl)⟩)) (zI zQ (pv 1) zg (fun _ _=>rfl))))
  (zd (jQ (i:=6) ["_law_pot"] ["_law_k","_law_pot"] [none,some 2] xA.nd rfl (Or.inl rfl) rfl ⟨rfl,rfl,rfl,rfl⟩ (yu rfl U.range (ac (cF cDg hr1 (ac (pv 2) (ac (pv 3) zb))) zb)) (yx 0) rfl rfl rfl
   (fun pins fp s H C=>⟨zk (i:=0) zjq rfl (Or.inl rfl) (.inr rfl),xp,zr yo (zr wK (cF cDg hr1 (ac (pv 1) (ac (zr wK (zr wj zg (zr vS zg zg)) zg) zb))) (zr vS zg zg)) zg⟩))
  (zd (zv (i:=7) xA.nd rfl (Or.inl rfl) (zM zb))
  (zd (yE PassesOwn.never rfl (yu rfl U.range (ac (cF cDg hr1 (ac (pv 2) (ac (pv 3) zb))) zb)) (zk (i:=5) xA.nd rfl (Or.inl rfl))
   (zd (zv (i:=8) xA.nd rfl (Or.inl rfl) (cF cDg hr1 (ac (pv 2) (ac (zr yo (cB zB U.len PySem.boot_len (ac (pv 4) zb)) zg) zb))))
   (zd (zJ (zo jk (pv 8) (cB zB U.len PySem.boot_len (ac (pv 4) zb)) (zx _)) (zh (zv (i:=9) xA.nd rfl (Or.inl rfl) (zI yf (pv 4) (pv 8) (fun _ _=>rfl)))) (zh (zv (i:=9) xA.nd rfl (Or.inl rfl) (cF cNm hr (ac (pv 2) zb)))))
   (zh (zE (yz PySem.F.plainAttrs_list PySem.F.slot_list_append PySem.F.type_list_append zG (pv 7) (ac (zH (ac (pv 9) (ac (zr yo (zr wK (cF cDg hr1 (ac (pv 2) (ac (zr wK (zr wj zg (zr vS zg zg)) zg) zb))) (zr vS zg zg)) zg) zb))) zb)))))))
  (zh (zw (zH (ac (pv 6) (ac (pv 7) zb)))))))))),?_⟩
 refine ⟨_,rfl,_,rfl,_,_,rfl,rfl,zp2147483629,_,_,rfl,rfl,zz2,fun p hp=>?_⟩
 have s1:=zc hp (.lst [.int cell,.int (cell % 2147483629 + 1)])
 have g1:yK (upd H p (.lst [.int cell,.int (cell % 2147483629 + 1)])) p:=by
  have h0:=Int.emod_nonneg cell (show (2147483629:Int) ≠ 0 by decide)
  have h1:=Int.emod_lt_of_pos cell (show (0:Int) < 2147483629 by decide)
  exact ⟨_,_,by omega,by omega,za⟩
 dsimp only [yg]
 generalize upd H p (.lst [.int cell,.int (cell % 2147483629 + 1)]) = H1 at s1 g1 |-
 refine ⟨zz4,fun l hl=>?_⟩
 have s2:=zc hl (.lst [.int 5,.int 5,.int 9,.int 60])
 have g2:upd H1 l (.lst [.int 5,.int 5,.int 9,.int 60]) l = some (.lst [.int 5,.int 5,.int 9,.int 60]):=za
 have nl:l ≠ p:=g1.ne hl
 generalize upd H1 l (.lst [.int 5,.int 5,.int 9,.int 60]) = H2 at s2 g2 |-
 refine ⟨_,rfl,p,4,rfl,by decide,by decide,g1.same s2,fun d H3 d0 d1 x3 p3=>?_⟩
 have g3:=x3 _ _ g2 nl
 obtain ⟨e,rfl⟩:=Int.eq_ofNat_of_zero_le d0
 obtain ⟨most,em,m0,m60⟩:∃ most:Nat,atI [V.int 5,.int 5,.int 9,.int 60] (e:Int) = some (.int (most:Nat))/\0 < most/\most<=60:=by
  have:e = 0\/e = 1\/e = 2\/e = 3:=by omega
  rcases this with rfl | rfl | rfl | rfl
  ·exact ⟨5,rfl,by decide,by decide⟩
  ·exact ⟨5,rfl,by decide,by decide⟩
  ·exact ⟨9,rfl,by decide,by decide⟩
  ·exact ⟨60,rfl,by decide,by decide⟩
 refine ⟨l,_,_,.int (most:Nat),rfl,rfl,SqL.of g3,em,?_⟩
 have s03:zm H H3:=SX.to (s1.trans s2) x3 hp
 dsimp only [yg]
 clear g3 g2 s2 nl em x3 d1 d0
 refine ⟨_,rfl,t,_,0,.ref la,rfl,rfl,SqT.of (s03 _ _ ht),rfl,la,rfl,⟨_,SqL.of (s03 _ _ hla)⟩,fun D hD=>?_⟩
 refine zfP (K:=K) TAt (fun _=>true) (fun _ r=>.str r.z) hD (s03 _ _ hla) (z7 s03 hu) (by omega) (fun i u r H' Nn S hu' hr' tr sH n1 s1'=>?_) (fun H4 s4 hD4=>?_)
 ·refine ⟨fun _=>?_,fun e=>Bool.noConfusion e⟩
  exact ⟨_,rfl,u,_,1,_,rfl,rfl,SqT.of (sH _ _ tr),zjy,n1 _ (zm.refl _) rfl⟩
 rw [zcV (z7 s03 hu)] at hD4
 have s04:=s03.trans s4
 refine ⟨_,rfl,t,_,1,.ref lb,rfl,rfl,SqT.of (s04 _ _ ht),rfl,D,lb,_,_,rfl,rfl,hD4,s04 _ _ hlb,z8 (by rw [List.length_map,List.length_map,List.length_map]; omega),fun lk hlk=>?_⟩
 have s5:=zc hlk (.lst ((rows.map (·.z)).map V.str ++ bars.map V.str))
 have g5:upd H4 lk (.lst ((rows.map (·.z)).map V.str ++ bars.map V.str)) lk = some (.lst ((rows.map (·.z) ++ bars).map V.str)):=by rw [za,List.map_append]
 dsimp only [yg]
 generalize upd H4 lk (.lst ((rows.map (·.z)).map V.str ++ bars.map V.str)) = H5 at s5 g5 |-
 have lkn:(rows.map (·.z) ++ bars).length<=84:=by rw [List.length_append,List.length_map]; omega
 generalize rows.map (·.z) ++ bars = known at g5 lkn
 have s05:=s04.trans s5
 have p5:=(p3.same s4).same s5
 clear hD4 s4 s5 s04 s03 hlk hD
 refine ⟨_,rfl,_,rfl,p,(most:Nat),rfl,(by omega),(zge (by omega)),p5,fun d H6 d0 d1 x6 p6=>?_⟩
 obtain ⟨n,rfl⟩:=Int.eq_ofNat_of_zero_le d0
 have s06:zm H H6:=SX.to s05 x6 hp
 have g6:=x6 _ _ g5 (p5.ne_strs g5)
 refine ⟨(n:Int),rfl,by omega,by omega,fun Dt' hDt=>?_⟩
 rw [show ((n:Nat):Int).toNat = n by omega]
 refine vh (n:=n) (fun i ys H'=>∃ ts:List Int,ys = ts.map V.int/\ts.length = i/\zm H H'/\yK H' p/\H' Dt' = some (.lst ys)/\H' lk = some (.lst (known.map V.str))) ⟨[],rfl,rfl,s06.trans (zc hDt _),p6.same (zc hDt _),za,zc hDt _ _ _ g6⟩ ?_ ?_
 ·rintro i ys H7 hi ⟨ts,rfl,lts,s7,p7,hDy,hk7⟩
  have nD:Dt' ≠ p:=p6.ne hDt
  refine ⟨fun _=>?_,fun e=>Bool.noConfusion e⟩
  refine ⟨_,rfl,_,_,rfl,rfl,⟨by decide,by decide,by decide⟩,_,_,rfl,rfl,.inl ⟨by decide,by decide⟩,_,_,rfl,rfl,p,_,rfl,(by show (0:Int) < 2 * 10 ^ Int.toNat 60 - 1; decide +kernel),(by show (2 * 10 ^ Int.toNat 60 - 1:Int)<=2 * 10 ^ 60; decide +kernel),p7,fun d H8 _ _ x8 p8=>?_⟩
  have hDy8:=x8 _ _ hDy nD
  refine ⟨_,_,rfl,rfl,⟨by decide,by decide,by decide⟩,_,_,rfl,rfl,_,_,rfl,rfl,?_⟩
  refine lcN.mk hi (z8 (by omega)) hDy8 (by rw [List.length_map]; omega) ⟨ts ++ [_],by rw [List.map_append]; rfl,by rw [List.length_append,lts]; rfl,fun b u e=>?_,ug p8 nD,za,?_⟩
  ·rw [zi (zf e (s06.free hDt))]
   exact SX.to s7 x8 hp _ _ e
  ·rw [zi (fun e=>by rw [<- e,g6] at hDt; cases hDt)]
   exact x8 _ _ hk7 (p7.ne_strs hk7)
 rintro ys1 H7 ⟨ts,rfl,lts,s07,p7,hD7,hk7⟩
 have nDp:Dt' ≠ p:=p6.ne hDt
 refine ⟨zz0,fun lq hlq=>?_⟩
 have s8:=zc hlq (.lst [])
 have g8:upd H7 lq (.lst []) lq = some (.lst (([]:List Addr).map V.ref)):=za
 have nq:H lq = none:=s07.free hlq
 have nqp:lq ≠ p:=p7.ne hlq
 have nqD:lq ≠ Dt':=fun e=>by rw [e,hD7] at hlq; cases hlq
 have nqk:lq ≠ lk:=fun e=>by rw [e,hk7] at hlq; cases hlq
 have p8:=p7.same s8
 have hD8:=s8 _ _ hD7
 have hk8:=s8 _ _ hk7
 have s08:=s07.trans s8
 dsimp only [yg]
 generalize upd H7 lq (.lst []) = H8 at s8 g8 p8 hD8 hk8 s08 |-
 clear s8 hD7 hk7 p7 s07 hlq
 refine ⟨_,rfl,_,rfl,p,(most:Nat),rfl,(by omega),(zge (by omega)),p8,fun d H9 d0' d1' x9 p9=>?_⟩
 obtain ⟨m,rfl⟩:=Int.eq_ofNat_of_zero_le d0'
 refine ⟨(m:Int),rfl,by omega,by omega,?_⟩
 rw [show ((m:Nat):Int).toNat = m by omega]
 refine xj (n:=m) (fun i σ H'=>∃ (qs:List Addr) (ps:List (Str × Int)) (v5 v8 v9:Option V),σ = [some (.int cell),some (.ref t),some (.ref p),some (.int (most:Nat)),some (.ref lk),v5,some (.ref Dt'),some (.ref lq),v8,v9]/\zm H H'/\yK H' p/\H' Dt' = some (.lst (ts.map V.int))/\H' lk = some (.lst (known.map V.str))/\H' lq = some (.lst (qs.map V.ref))/\Paired (qx H') qs ps/\ps.length<=i) ⟨[],[],_,_,_,rfl,SX.to s08 x9 hp,p9,x9 _ _ hD8 nDp,x9 _ _ hk8 (p8.ne_strs hk8),x9 _ _ g8 nqp,.nil,Nat.le_refl _⟩ ?_ ?_
 ·rintro i σ H10 hi ⟨qs,ps,v5,v8,v9,rfl,s10,p10,hD10,hk10,hq10,hps,lps⟩
  have fx:∀ {H11:Hp},SX p H10 H11->Paired (qx H11) qs ps:=fun x=>Paired.imp' (fun u q z=>x _ _ z (p10.ne_tup z)) hps
  refine ⟨_,rfl,_,rfl,lk,_,rfl,.inl (SqL.of hk10),_,_,rfl,rfl,p,_,rfl,?_,?_,p10,fun d H11 e0 e1 x11 p11=>?_⟩
  ·show (0:Int) < (((known.map V.str).length:Nat):Int) + 1
   omega
  ·show (((known.map V.str).length:Nat):Int) + 1<=2 * 10 ^ 60
   rw [List.length_map]
   have:(85:Int)<=2 * 10 ^ 60:=by decide
   omega
  obtain ⟨at',rfl⟩:=Int.eq_ofNat_of_zero_le e0
  have hk11:=x11 _ _ hk10 (p10.ne_strs hk10)
  dsimp only [yg]
  refine yC (fun σ' H'=>∃ (z:Str),σ' = [some (.int cell),some (.ref t),some (.ref p),some (.int (most:Nat)),some (.ref lk),some (.int ((0:Int) + (i:Int))),some (.ref Dt'),some (.ref lq),some (.int (at':Nat)),some (.str z)]/\SX p H10 H'/\yK H' p) ?_ (fun key=>?_)
  rotate_left
  ·refine ⟨_,rfl,_,rfl,lk,_,rfl,.inl (SqL.of hk11),_,_,rfl,rfl,_,rfl,?_⟩
   refine qa (fun hc=>?_) (fun _=>?_)
   ·have hc:=of_decide_eq_true hc
    rw [List.length_map] at hc
    have hlt:at' < known.length:=by omega
    refine ⟨_,rfl,_,rfl,lk,_,_,.str known[at'],rfl,rfl,SqL.of hk11,y4 (by rw [List.getElem?_map,List.getElem?_eq_getElem hlt]; rfl),?_⟩
    exact key _ _ ⟨_,rfl,x11,p11⟩
   ·refine ⟨_,rfl,p,rfl,p11,fun z H12 _ x12 p12=>?_⟩
    exact key _ _ ⟨z,rfl,x11.trans x12,p12⟩
  rintro σ12 H12 ⟨z,rfl,x12,p12⟩
  have hq12:=x12 _ _ hq10 nqp
  refine ⟨_,rfl,.inl ⟨rfl,_,SqL.of hq12⟩,_,rfl,_,rfl,_,_,rfl,rfl,⟨by decide,by decide,by decide⟩,_,_,rfl,rfl,.inl ⟨by decide,by decide⟩,_,_,rfl,rfl,p,_,rfl,(by show (0:Int) < 2 * 10 ^ Int.toNat 60 - 1; decide +kernel),(by show (2 * 10 ^ Int.toNat 60 - 1:Int)<=2 * 10 ^ 60; decide +kernel),p12,fun d H13 _ _ x13 p13=>?_⟩
  refine ⟨_,_,rfl,rfl,⟨by decide,by decide,by decide⟩,_,_,rfl,rfl,_,_,rfl,rfl,zz2,fun u hu'=>?_⟩
  have x1013:=x12.trans x13
  have hq13:=x1013 _ _ hq10 nqp
  have hD13:=x1013 _ _ hD10 nDp
  have hk13:=x1013 _ _ hk10 (p10.ne_strs hk10)
  have s13:zm H H13:=SX.to s10 x1013 hp
  have f13:=fx x1013
  have s14:=zc hu' (.tup [.str z,.int (d - 10 ^ Int.toNat 60 + 1)])
  have tu:qx (upd H13 u (.tup [.str z,.int (d - 10 ^ Int.toNat 60 + 1)])) u (z,d - 10 ^ Int.toNat 60 + 1):=za
  have p14:=p13.same s14
  have hq14:=s14 _ _ hq13
  have hD14:=s14 _ _ hD13
  have hk14:=s14 _ _ hk13
  have f14:=zbn s14 f13
  have s014:=s13.trans s14
  generalize upd H13 u (.tup [.str z,.int (d - 10 ^ Int.toNat 60 + 1)]) = H14 at s14 tu p14 hq14 hD14 hk14 f14 s014 |-
  have lqs:qs.length<=60:=by rw [hps.length]; omega
  refine ⟨lq,_,_,rfl,rfl,hq14,zz (by rw [List.length_map]; omega),?_⟩
  have pu:∀ {u:Addr} {q:Str × Int},qx H14 u q->qx (upd H14 lq (.lst (qs.map V.ref ++ [.ref u]))) u q:=fun {u q} h=>by
   show upd H14 lq _ u = _
   rw [zi (fun e=>by rw [qx,e,hq14] at h; cases h)]
   exact h
  refine ⟨qs ++ [u],ps ++ [(z,d - 10 ^ Int.toNat 60 + 1)],_,_,_,rfl,fun b o e=>by rw [zi (zf e nq)]; exact s014 _ _ e,ug p14 nqp,by rw [zi (Ne.symm nqD)]; exact hD14,by rw [zi (Ne.symm nqk)]; exact hk14,by rw [za,List.map_append]; rfl,?_,by rw [List.length_append,List.length_singleton]; omega⟩
  refine Paired.snoc (Paired.imp' (fun u' q' z'=>?_) f14) ?_
  ·show upd H14 lq _ u' = _
   rw [zi (fun e=>by rw [qx,e,hq14] at z'; cases z')]
   exact z'
  ·exact pu tu
 ·rintro σ H10 ⟨qs,ps,v5,v8,v9,rfl,s10,p10,hD10,hk10,hq10,hps,lps⟩
  refine ⟨_,rfl,_,rfl,zz2,fun tt htt=>?_⟩
  have s11:=zc htt (.tup [.ref Dt',.ref lq])
  exact q tt Dt' lq ts _ ps _ (s10.trans s11) za (s11 _ _ hD10) (s11 _ _ hq10) (ze0 (zbn s11 hps)) (by omega) (by omega)
end
def ovL (ms:List (Str × Nat)):List Nat:=(ms.filter fun m=>decide (m.1 = ("over" : Str))).map (·.2)
def nmW:List Str:=["doubled","barred","again","strange"]
def nmL (ms:List (Str × Nat)):List Nat:=(ms.filter fun m=>decide (m.1 ∈ nmW)).map (·.2)
def z6 {α : Type} (L:List Nat) (xs:List α):List α:=(xs.zipIdx.filter fun y=>decide (y.2 ∉ L)).map (·.1)
def lkL (ms:List (Str × Nat)):List (Str × Nat):=ms.filter fun m=>decide (m.1 = ("lacking" : Str))
def vU (rows:List Rw) (n:Nat):Nat:=if (zy 2 0 rows).isSome = true then n else min n (plN rows)
theorem zdt {p:Str × Nat}:∀ (zs:List Str) (i:Nat) (acc:List (Str × Nat)),p ∈ fpF i acc zs ↔ (p ∈ acc\/∃ j,zs[j]? = some p.1/\p.2 = i + j/\p.1 ∉ zs.take j/\p.1 ∉ acc.map (·.1))
 | [],i,acc=>by simp [fpF]
 | y :: ys,i,acc=>by
  show p ∈ fpF (i + 1) _ ys ↔ _
  rw [zdt ys (i + 1)]
  by_cases hy:y ∈ acc.map (·.1)
  ·have ha:(acc.any fun q=>decide (q.1 = y)) = true:=by
    obtain ⟨q,hq,e⟩:=List.mem_map.mp hy
    exact List.any_eq_true.mpr ⟨q,hq,decide_eq_true e⟩
   rw [ha,if_pos rfl]
   constructor
   ·rintro (h | ⟨j,h1,h2,h3,h4⟩)
    ·exact .inl h
    ·refine .inr ⟨j + 1,by simpa using h1,by omega,?_,h4⟩
     rw [List.take_succ_cons,List.mem_cons]
     rintro (e | e)
     ·exact h4 (e ▸ hy)
     ·exact h3 e
   ·rintro (h | ⟨j,h1,h2,h3,h4⟩)
    ·exact .inl h
    ·cases j with
     | zero=>
      have:y = p.1:=by simpa using h1
      exact absurd (this ▸ hy) h4
     | succ j=>
      rw [List.take_succ_cons,List.mem_cons] at h3
      exact .inr ⟨j,by simpa using h1,by omega,fun e=>h3 (.inr e),h4⟩
  ·have ha:(acc.any fun q=>decide (q.1 = y)) = false:=by
    rw [List.any_eq_false]
    intro q hq e
    exact hy (List.mem_map.mpr ⟨q,hq,of_decide_eq_true e⟩)
   rw [ha,if_neg Bool.false_ne_true]
   simp only [List.map_append,List.mem_append,List.map_cons,List.map_nil,List.mem_singleton]
   constructor
   ·rintro ((h | h) | ⟨j,h1,h2,h3,h4⟩)
    ·exact .inl h
    ·subst h
     exact .inr ⟨0,rfl,rfl,by simp,hy⟩
    ·refine .inr ⟨j + 1,by simpa using h1,by omega,?_,fun e=>h4 (.inl e)⟩
     rw [List.take_succ_cons,List.mem_cons]
     rintro (e | e)
     ·exact h4 (.inr e)
     ·exact h3 e
   ·rintro (h | ⟨j,h1,h2,h3,h4⟩)
    ·exact .inl (.inl h)
    ·cases j with
     | zero=>
      have:y = p.1:=by simpa using h1
      refine .inl (.inr ?_)
      rw [Nat.add_zero] at h2
      exact Prod.ext this.symm h2
     | succ j=>
      rw [List.take_succ_cons,List.mem_cons] at h3
      exact .inr ⟨j,by simpa using h1,by omega,fun e=>h3 (.inr e),fun e=>e.elim h4 (fun e=>h3 (.inl e))⟩
theorem zdv {zs:List Str} {p:Str × Nat}:p ∈ fpZ zs ↔ zs[p.2]? = some p.1/\p.1 ∉ zs.take p.2:=by
 unfold fpZ
 rw [zdt]
 constructor
 ·rintro (h | ⟨j,h1,h2,h3,_⟩)
  ·cases h
  ·rw [Nat.zero_add] at h2
   subst h2
   exact ⟨h1,h3⟩
 ·rintro ⟨h1,h2⟩
  exact .inr ⟨p.2,h1,by omega,h2,by simp⟩
theorem zdE {fk:List (Key × V)} {m:Str × Nat}:∀ (zs:List Str) (i:Nat),m ∈ xX fk i zs ↔ (m.1 = "doubled"/\∃ j z,zs[j]? = some z/\m.2 = i + j/\zL fk (.inr z) ≠ some (.int ((i + j:Nat):Int)))
 | [],i=>by simp [xX]
 | y :: ys,i=>by
  show m ∈ (if zL fk (.inr y) = some (.int (i:Nat)) then [] else [(("doubled" : Str),i)]) ++ xX fk (i + 1) ys ↔ _
  rw [List.mem_append,zdE ys (i + 1)]
  constructor
  ·rintro (h | ⟨h1,j,z,h2,h3,h4⟩)
   ·split at h
    ·cases h
    next hn=>
     rw [List.mem_singleton] at h
     subst h
     exact ⟨rfl,0,y,rfl,rfl,hn⟩
   ·exact ⟨h1,j + 1,z,by simpa using h2,by omega,by rw [show i + (j + 1) = i + 1 + j by omega]; exact h4⟩
  ·rintro ⟨h1,j,z,h2,h3,h4⟩
   cases j with
   | zero=>
    have:y = z:=by simpa using h2
    subst this
    left
    rw [Nat.add_zero] at h4
    rw [if_neg h4,List.mem_singleton]
    exact Prod.ext h1 h3
   | succ j=>exact .inr ⟨h1,j,z,by simpa using h2,by omega,by rw [show i + 1 + j = i + (j + 1) by omega]; exact h4⟩
theorem uA {zs:List Str} {m:Str × Nat}:m ∈ xX (kvP (fpZ zs)) 0 zs ↔ (m.1 = "doubled"/\∃ z,zs[m.2]? = some z/\z ∈ zs.take m.2):=by
 rw [zdE]
 refine and_congr_right fun _=>?_
 constructor
 ·rintro ⟨j,z,h1,h2,h3⟩
  rw [Nat.zero_add] at h2 h3
  subst h2
  refine ⟨z,h1,?_⟩
  have:=zaY h1
  rw [decide_eq_false h3,fpT] at this
  exact of_decide_eq_true (by simpa using this.symm)
 ·rintro ⟨z,h1,h2⟩
  refine ⟨m.2,z,h1,by omega,fun e=>?_⟩
  rw [Nat.zero_add] at e
  have:=zaY h1
  rw [decide_eq_true e,fpT,decide_eq_true h2] at this
  cases this
theorem ua {rows:List Rw} {bars:List Str} {n:Nat} {zs:List Str} {m:Str × Nat}:m ∈ uH rows bars n (fpZ zs) ↔ ∃ z,zs[m.2]? = some z/\z ∉ zs.take m.2/\yd rows bars n z = some m.1:=by
 unfold uH
 rw [List.mem_filterMap]
 constructor
 ·rintro ⟨p,hp,e⟩
  rw [Option.map_eq_some_iff] at e
  obtain ⟨wd,hw,rfl⟩:=e
  have:=zdv.mp hp
  exact ⟨p.1,this.1,this.2,hw⟩
 ·rintro ⟨z,h1,h2,h3⟩
  exact ⟨(z,m.2),zdv.mpr ⟨h1,h2⟩,by rw [h3]; rfl⟩
theorem vQ {rows:List Rw} {bars:List Str} {many:Nat} {z wd:Str} (h:yd rows bars many z = some wd):wd = "barred"\/wd = "again"\/wd = "strange":=by
 unfold yd at h
 split at h
 ·cases h; exact .inl rfl
 ·split at h
  ·split at h
   ·cases h
   ·cases h; exact .inr (.inr rfl)
  ·split at h
   ·cases h; exact .inr (.inl rfl)
   ·cases h
theorem xS {many:Nat} {fk:List (Key × V)} {m:Str × Nat}:∀ (rows:List Rw) (i:Nat),m ∈ yA many fk i rows->m.1 = "lacking"
 | [],i,h=>by cases h
 | y :: ys,i,h=>by
  rcases List.mem_append.mp (show m ∈ (if zU y i many fk = true then [(("lacking" : Str),i)] else []) ++ yA many fk (i + 1) ys from h) with h | h
  ·split at h
   ·rw [List.mem_singleton.mp h]
   ·cases h
  ·exact xS ys (i + 1) h
theorem uo {rows:List Rw} {n:Nat} {m:Str × Nat}:m ∈ wa rows n ↔ (m.1 = "over"/\(zy 2 0 rows).isSome = false/\plN rows<=m.2/\m.2 < n):=by
 unfold wa
 split
 next h=>simp [h]
 next h=>
  rw [List.mem_map]
  constructor
  ·rintro ⟨i,hi,rfl⟩
   rw [List.mem_range] at hi
   exact ⟨rfl,by simpa using h,by show plN rows<=plN rows + i; omega,by show plN rows + i < n; omega⟩
  ·rintro ⟨h1,_,h3,h4⟩
   exact ⟨m.2 - plN rows,List.mem_range.mpr (by omega),Prod.ext h1.symm (by show plN rows + (m.2 - plN rows) = m.2; omega)⟩
theorem zff {rows:List Rw} {bars:List Str} {n:Nat} {zs:List Str} {i:Nat}:i ∈ ovL (zR rows bars n zs) ↔ ((zy 2 0 rows).isSome = false/\plN rows<=i/\i < n):=by
 unfold ovL zR
 rw [List.mem_map]
 constructor
 ·rintro ⟨m,hm,rfl⟩
  obtain ⟨h1,h2⟩:=List.mem_filter.mp hm
  have h2:=of_decide_eq_true h2
  rcases List.mem_append.mp h1 with h1 | h1
  ·rcases List.mem_append.mp h1 with h1 | h1
   ·rcases List.mem_append.mp h1 with h1 | h1
    ·rw [(uA.mp h1).1] at h2
     exact absurd h2 (by decide +kernel)
    ·exact (uo.mp h1).2
   ·obtain ⟨z,_,_,hw⟩:=ua.mp h1
    rcases vQ hw with e | e | e <;> rw [e] at h2 <;> exact absurd h2 (by decide +kernel)
  ·rw [xS rows 0 h1] at h2
   exact absurd h2 (by decide +kernel)
 ·intro h
  exact ⟨("over",i),List.mem_filter.mpr ⟨List.mem_append_left _ (List.mem_append_left _ (List.mem_append_right _ (uo.mpr ⟨rfl,h⟩))),decide_eq_true rfl⟩,rfl⟩
theorem zka:decide (("doubled" : Str) ∈ nmW) = true:=by decide +kernel
theorem zj9:decide (("barred" : Str) ∈ nmW) = true:=by decide +kernel
theorem zj8:decide (("again" : Str) ∈ nmW) = true:=by decide +kernel
theorem zj7:decide (("strange" : Str) ∈ nmW) = true:=by decide +kernel
theorem zcq {rows:List Rw} {bars:List Str} {n:Nat} {zs:List Str} {j:Nat}:j ∈ nmL (zR rows bars n zs) ↔ ∃ z,zs[j]? = some z/\(z ∈ zs.take j\/yd rows bars n z ≠ none):=by
 unfold nmL zR
 rw [List.mem_map]
 constructor
 ·rintro ⟨m,hm,rfl⟩
  obtain ⟨h1,h2⟩:=List.mem_filter.mp hm
  have h2:=of_decide_eq_true h2
  rcases List.mem_append.mp h1 with h1 | h1
  ·rcases List.mem_append.mp h1 with h1 | h1
   ·rcases List.mem_append.mp h1 with h1 | h1
    ·obtain ⟨_,z,hz,ht⟩:=uA.mp h1
     exact ⟨z,hz,.inl ht⟩
    ·rw [(uo.mp h1).1] at h2
     exact absurd h2 (by decide +kernel)
   ·obtain ⟨z,hz,_,hw⟩:=ua.mp h1
    exact ⟨z,hz,.inr (by rw [hw]; intro e; cases e)⟩
  ·rw [xS rows 0 h1] at h2
   exact absurd h2 (by decide +kernel)
 ·rintro ⟨z,hz,h⟩
  by_cases ht:z ∈ zs.take j
  ·exact ⟨("doubled",j),List.mem_filter.mpr ⟨List.mem_append_left _ (List.mem_append_left _ (List.mem_append_left _ (uA.mpr ⟨rfl,z,hz,ht⟩))),zka⟩,rfl⟩
  ·have hw:=h.resolve_left ht
   cases e:yd rows bars n z with
   | none=>exact absurd e hw
   | some wd=>
    refine ⟨(wd,j),List.mem_filter.mpr ⟨List.mem_append_left _ (List.mem_append_right _ (ua.mpr ⟨z,hz,ht,e⟩)),?_⟩,rfl⟩
    rcases vQ e with rfl | rfl | rfl
    ·exact zj9
    ·exact zj8
    ·exact zj7
theorem zjx {rows:List Rw} {bars:List Str} {n:Nat} {zs:List Str}:lkL (zR rows bars n zs) = yA n (kvP (fpZ zs)) 0 rows:=by
 unfold lkL zR
 rw [List.filter_append,List.filter_eq_nil_iff.mpr (fun m hm=>?_),List.nil_append,List.filter_eq_self.mpr (fun m hm=>decide_eq_true (xS rows 0 hm))]
 intro h2
 have h2:=of_decide_eq_true h2
 rcases List.mem_append.mp hm with h1 | h1
 ·rcases List.mem_append.mp h1 with h1 | h1
  ·rw [(uA.mp h1).1] at h2
   exact absurd h2 (by decide +kernel)
  ·rw [(uo.mp h1).1] at h2
   exact absurd h2 (by decide +kernel)
 ·obtain ⟨z,_,_,hw⟩:=ua.mp h1
  rcases vQ hw with e | e | e <;> rw [e] at h2 <;> exact absurd h2 (by decide +kernel)
theorem jf {α : Type} (m:Nat):∀ (xs:List α) (k:Nat),((xs.zipIdx k).filter fun y=>decide (y.2 < m)).map (·.1) = xs.take (m - k)
 | [],_=>by simp
 | x :: xs,k=>by
  rw [List.zipIdx_cons,List.filter_cons]
  by_cases h:k < m
  ·rw [if_pos (decide_eq_true h),List.map_cons,jf m xs (k + 1),show m - k = (m - (k + 1)) + 1 by omega,List.take_succ_cons]
  ·rw [if_neg (by rw [decide_eq_false h]; decide),jf m xs (k + 1),show m - k = 0 by omega,show m - (k + 1) = 0 by omega]
   rfl
theorem za6 {α : Type} {xs:List α} {y : α × Nat} (h:y ∈ xs.zipIdx):xs[y.2]? = some y.1:=by
 obtain ⟨i,hi⟩:=List.mem_iff_getElem?.mp h
 rw [List.getElem?_zipIdx] at hi
 cases hr:xs[i]? with
 | none=>rw [hr] at hi; cases hi
 | some r=>
  rw [hr] at hi
  have:(r,0 + i) = y:=Option.some.inj hi
  subst this
  rw [Nat.zero_add]
  exact hr
theorem zeN {rows:List Rw} {bars:List Str} {zs:List Str} (ts:List Int):(z6 (ovL (zR rows bars ts.length zs)) ts).length = vU rows ts.length:=by
 unfold z6 vU
 by_cases h:(zy 2 0 rows).isSome = true
 ·have e:(ts.zipIdx.filter fun y=>decide (y.2 ∉ ovL (zR rows bars ts.length zs))) = ts.zipIdx:=List.filter_eq_self.mpr fun y hy=>decide_eq_true fun e=>by
   rw [(zff.mp e).1] at h
   cases h
  rw [if_pos h,List.length_map,e,List.length_zipIdx]
 ·rw [if_neg h]
  have e:(ts.zipIdx.filter fun y=>decide (y.2 ∉ ovL (zR rows bars ts.length zs))) = ts.zipIdx.filter fun y=>decide (y.2 < plN rows):=by
   refine List.filter_congr fun y hy=>?_
   have hl:y.2 < ts.length:=(List.getElem?_eq_some_iff.mp (za6 hy)).1
   rw [decide_eq_decide,zff]
   constructor
   ·intro hn
    exact Nat.lt_of_not_le fun hle=>hn ⟨by simpa using h,hle,hl⟩
   ·intro hlt hn
    omega
  rw [e,jf (plN rows) ts 0,List.length_take]
  omega
theorem zcC {ps:List (Str × Int)} {L:List Nat}:(z6 L ps).map (·.1) = z6 L (ps.map (·.1)):=by
 unfold z6
 rw [List.zipIdx_map,List.filter_map,List.map_map,List.map_map]
 rfl
theorem uw {rows:List Rw} {bars:List Str} {n:Nat} {zs:List Str} {z:Str}:z ∈ z6 (nmL (zR rows bars n zs)) zs ↔ (z ∈ zs/\yd rows bars n z = none):=by
 unfold z6
 rw [List.mem_map]
 constructor
 ·rintro ⟨y,hy,rfl⟩
  obtain ⟨h1,h2⟩:=List.mem_filter.mp hy
  have h3:=za6 h1
  have h2:=of_decide_eq_true h2
  refine ⟨List.mem_of_getElem? h3,?_⟩
  rcases Option.eq_none_or_eq_some (yd rows bars n y.1) with e | ⟨wd,e⟩
  ·exact e
  ·exact absurd (zcq.mpr ⟨y.1,h3,.inr (by rw [e]; intro h; cases h)⟩) h2
 ·rintro ⟨h1,h2⟩
  have hat:=zaU h1
  have hnt:z ∉ zs.take (zs.findIdx fun y=>decide (y = z)):=fun hm=>by
   obtain ⟨i,hi,e⟩:=List.mem_iff_getElem.mp hm
   rw [List.length_take] at hi
   rw [List.getElem_take] at e
   have:=List.not_of_lt_findIdx (p:=fun y=>decide (y = z)) (xs:=zs) (i:=i) (by omega)
   rw [e] at this
   simp at this
  refine ⟨(z,zs.findIdx fun y=>decide (y = z)),List.mem_filter.mpr ⟨List.mem_of_getElem? (i:=zs.findIdx fun y=>decide (y = z)) (by rw [List.getElem?_zipIdx,hat]; simp),decide_eq_true fun e=>?_⟩,rfl⟩
  obtain ⟨z',hz',h⟩:=zcq.mp e
  rw [hat] at hz'
  cases hz'
  rcases h with h | h
  ·exact hnt h
  ·exact h h2
theorem j8 {rows:List Rw} {bars:List Str} {n:Nat} {zs:List Str}:(z6 (nmL (zR rows bars n zs)) zs).Nodup:=by
 unfold z6
 rw [List.nodup_iff_pairwise_ne,List.pairwise_map]
 have hp:zs.zipIdx.Pairwise (fun a b=>a.2 < b.2):=by
  have:=List.pairwise_lt_range' (s:=0) (n:=zs.length) 1
  rw [<- List.zipIdx_map_snd 0 zs,List.pairwise_map] at this
  exact this
 refine List.Pairwise.imp_of_mem (fun {a b} ha hb hlt e=>?_) (List.Pairwise.filter _ hp)
 obtain ⟨ha1,_⟩:=List.mem_filter.mp ha
 obtain ⟨hb1,hb2⟩:=List.mem_filter.mp hb
 have hb2:=of_decide_eq_true hb2
 have a1:=za6 ha1
 have b1:=za6 hb1
 refine hb2 (zcq.mpr ⟨b.1,b1,.inl ?_⟩)
 have la:=(List.getElem?_eq_some_iff.mp a1).1
 rw [<- e,List.mem_iff_getElem]
 exact ⟨a.2,by rw [List.length_take]; have:=(List.getElem?_eq_some_iff.mp b1).1; omega,by rw [List.getElem_take]; exact (List.getElem?_eq_some_iff.mp a1).2⟩
theorem j4 {n n':Nat} {fk fk':List (Key × V)}:∀ (rows:List Rw) (i:Nat),(∀ j r,rows[j]? = some r->zU r (i + j) n fk = zU r (i + j) n' fk')->yA n fk i rows = yA n' fk' i rows
 | [],_,_=>rfl
 | y :: ys,i,h=>by
  show (if zU y i n fk = true then [(("lacking" : Str),i)] else []) ++ yA n fk (i + 1) ys = (if zU y i n' fk' = true then [(("lacking" : Str),i)] else []) ++ yA n' fk' (i + 1) ys
  have h0:=h 0 y rfl
  rw [Nat.add_zero] at h0
  rw [h0,j4 (n:=n) (n':=n') (fk:=fk) (fk':=fk') ys (i + 1) (fun j r hj=>by have:=h (j + 1) r (by simpa using hj); rw [show i + 1 + j = i + (j + 1) by omega]; exact this)]
theorem zdp {many:Nat} {fk:List (Key × V)} {m:Str × Nat}:∀ (rows:List Rw) (i:Nat),m ∈ yA many fk i rows ↔ m.1 = "lacking"/\∃ j r,rows[j]? = some r/\m.2 = i + j/\zU r (i + j) many fk = true
 | [],i=>by simp [yA]
 | y :: ys,i=>by
  show m ∈ (if zU y i many fk = true then [(("lacking" : Str),i)] else []) ++ yA many fk (i + 1) ys ↔ _
  rw [List.mem_append,zdp ys (i + 1)]
  constructor
  ·rintro (h | ⟨h1,j,r,h2,h3,h4⟩)
   ·split at h
    next e=>
     have:m = (("lacking" : Str),i):=by simpa using h
     subst this
     exact ⟨rfl,0,y,rfl,rfl,e⟩
    ·cases h
   ·exact ⟨h1,j + 1,r,by simpa using h2,by omega,by rw [show i + (j + 1) = i + 1 + j by omega]; exact h4⟩
  ·rintro ⟨h1,j,r,h2,h3,h4⟩
   cases j with
   | zero=>
    have:y = r:=by simpa using h2
    subst this
    left
    rw [Nat.add_zero] at h4
    rw [if_pos h4]
    rw [List.mem_singleton]
    exact Prod.ext h1 h3
   | succ j=>
    right
    exact ⟨h1,j,r,by simpa using h2,by omega,by rw [show i + 1 + j = i + (j + 1) by omega]; exact h4⟩
theorem zfM {rows:List Rw} {n i:Nat} (h:i < plN rows):i < vU rows n ↔ i < n:=by
 unfold vU
 split <;> omega
theorem zbz {rows:List Rw} {n:Nat}:(zy 2 0 rows).isSome = true\/vU rows n<=plN rows:=by
 unfold vU
 split
 next h=>exact .inl h
 ·right; omega
theorem zcY {rows:List Rw} {bars:List Str} {n:Nat} {z:Str}:yd rows bars (vU rows n) z = yd rows bars n z:=by
 unfold yd
 split
 ·rfl
 ·split
  ·rfl
  next l _=>
   by_cases h:l < plN rows
   ·have:=zfM (n:=n) h
    by_cases h2:l < n
    ·rw [if_pos ⟨h,this.mpr h2⟩,if_pos ⟨h,h2⟩]
    ·rw [if_neg (fun e=>h2 (this.mp e.2)),if_neg (fun e=>h2 e.2)]
   ·rw [if_neg (fun e=>h e.1),if_neg (fun e=>h e.1)]
theorem zen {rows:List Rw} {bars:List Str} (V1:yP rows bars) {n:Nat} {zs:List Str} {i:Nat} {r:Rw} (hr:rows[i]? = some r):zU r i (vU rows n) (kvP (fpZ (z6 (nmL (zR rows bars n zs)) zs))) = zU r i n (kvP (fpZ zs)):=by
 rw [vE,vE,xM,xM]
 have hp:=ze4 V1.ok V1.ord hr
 have e1:(xc r.k && decide (i < vU rows n)) = (xc r.k && decide (i < n)):=by
  cases h:xc r.k with
  | false=>rfl
  | true=>
   rw [h] at hp
   have hi:i < plN rows:=of_decide_eq_true hp.symm
   rw [Bool.true_and,Bool.true_and,decide_eq_decide]
   exact zfM hi
 rw [e1]
 by_cases hb:z0 r.k = true
 ·rw [hb,Bool.true_and,Bool.true_and]
  by_cases hz:r.z ∈ zs
  ·cases hu:yd rows bars n r.z with
   | none=>rw [decide_eq_true hz,decide_eq_true (uw.mpr ⟨hz,hu⟩)]
   | some wd=>
    have hm:r.z ∈ nms rows:=by
     unfold nms
     exact List.mem_map.mpr ⟨r,List.mem_filter.mpr ⟨List.mem_of_getElem? hr,hb⟩,rfl⟩
    have hbar:r.z ∉ bars:=fun h=>(List.nodup_append.mp V1.nd).2.2 _ hm _ h rfl
    have hw:=za7 (many:=n) (List.nodup_append.mp V1.nd).1 hbar hr hb rfl
    by_cases hlt:i < min n (plN rows)
    ·have:(xc r.k && decide (i < n)) = true:=by
      rw [hp,decide_eq_true (show i < plN rows by omega),decide_eq_true (show i < n by omega)]; rfl
     rw [this]
     simp
    ·rw [if_neg hlt] at hw
     rw [zdH,hw,if_pos rfl] at hu
     cases hu
  ·rw [decide_eq_false hz,decide_eq_false (fun h=>hz (uw.mp h).1)]
 ·have:z0 r.k = false:=by simpa using hb
  rw [this,Bool.false_and,Bool.false_and]
theorem zek {rows:List Rw} {bars:List Str} (V1:yP rows bars) {n:Nat} {zs:List Str}:zR rows bars (vU rows n) (z6 (nmL (zR rows bars n zs)) zs) = lkL (zR rows bars n zs):=by
 rw [zjx]
 have h1:=j8 (rows:=rows) (bars:=bars) (n:=n) (zs:=zs)
 have h2:=fun z (hz:z ∈ z6 (nmL (zR rows bars n zs)) zs)=>(uw.mp hz).2
 have h3:∀ (j:Nat) (r:Rw),rows[j]? = some r->zU r j (vU rows n) (kvP (fpZ (z6 (nmL (zR rows bars n zs)) zs))) = zU r j n (kvP (fpZ zs)):=fun j r hj=>zen V1 hj
 generalize z6 (nmL (zR rows bars n zs)) zs = w at h1 h2 h3
 unfold zR
 rw [wc.mpr h1,wA.mpr zbz,vo.mpr (fun z hz=>by rw [zcY]; exact h2 z hz),List.nil_append,List.nil_append,List.nil_append]
 exact j4 rows 0 fun j r hj=>by rw [Nat.zero_add]; exact h3 j r hj
def xt (L:List Nat) (rows:List Rw):List Rw:=rows.zipIdx.map fun y=>if y.2 ∈ L then ⟨y.1.k,y.1.z,true⟩ else y.1
def KZ (a b:List Rw):Prop:=a.map (fun r=>(r.k,r.z)) = b.map (fun r=>(r.k,r.z))
theorem jG (L:List Nat) (rows:List Rw):KZ (xt L rows) rows:=by
 unfold KZ xt
 rw [List.map_map]
 conv=>rhs; rw [<- List.zipIdx_map_fst 0 rows,List.map_map]
 refine List.map_congr_left fun y _=>?_
 show ((if y.2 ∈ L then (⟨y.1.k,y.1.z,true⟩:Rw) else y.1).k,(if y.2 ∈ L then (⟨y.1.k,y.1.z,true⟩:Rw) else y.1).z) = (y.1.k,y.1.z)
 split <;> rfl
theorem KZ.cons {a b:List Rw} {r:Rw} (h:KZ a (r :: b)):∃ r' a',a = r' :: a'/\r'.k = r.k/\r'.z = r.z/\KZ a' b:=by
 unfold KZ at h
 cases a with
 | nil=>cases h
 | cons r' a'=>
  rw [List.map_cons,List.map_cons] at h
  injection h with h1 h2
  injection h1 with h3 h4
  exact ⟨r',a',rfl,h3,h4,h2⟩
theorem KZ.nil {a:List Rw} (h:KZ a []):a = []:=by
 unfold KZ at h
 simpa using h
theorem zfV:∀ {b a:List Rw},KZ a b->nms a = nms b
 | [],a,h=>by rw [h.nil]
 | r :: b,a,h=>by
  obtain ⟨r',a',rfl,e1,e2,h'⟩:=h.cons
  rw [vd,vd,e1,e2,zfV h']
theorem j6 {kk:Nat}:∀ {b a:List Rw} (i:Nat),KZ a b->zy kk i a = zy kk i b
 | [],a,i,h=>by rw [h.nil]
 | r :: b,a,i,h=>by
  obtain ⟨r',a',rfl,e1,e2,h'⟩:=h.cons
  show (if r'.k = kk then some i else zy kk (i + 1) a') = (if r.k = kk then some i else zy kk (i + 1) b)
  rw [e1,j6 (i + 1) h']
theorem zfU:∀ {b a:List Rw} (l:Nat),KZ a b->zW l a = zW l b
 | [],a,l,h=>by rw [h.nil]
 | r :: b,a,l,h=>by
  obtain ⟨r',a',rfl,e1,e2,h'⟩:=h.cons
  show (!yB l (grp r'.k) && zW (grp r'.k) a') = (!yB l (grp r.k) && zW (grp r.k) b)
  rw [e1,zfU (grp r.k) h']
theorem zhz {a b:List Rw} (h:KZ a b):plN a = plN b:=by
 have e:∀ x:List Rw,plN x = ((x.map fun r=>(r.k,r.z)).filter fun q=>xc q.1).length:=fun x=>by
  unfold plN
  rw [List.filter_map,List.length_map]
  rfl
 rw [e,e,h]
theorem zbI:∀ {b a:List Rw} (i:Nat) (acc:List (Key × V)),KZ a b->yl i acc a = yl i acc b
 | [],a,i,acc,h=>by rw [h.nil]
 | r :: b,a,i,acc,h=>by
  obtain ⟨r',a',rfl,e1,e2,h'⟩:=h.cons
  unfold yl
  rw [e1,e2,zbI (i + 1) _ h']
theorem zaQ {a b:List Rw} (h:KZ a b):a.length = b.length:=by
 have:=congrArg List.length h
 simpa using this
theorem zit {a b:List Rw} {bars:List Str} {n:Nat} {z:Str} (h:KZ a b):yd a bars n z = yd b bars n z:=by
 unfold yd yd.lastD'
 rw [zbI 0 [] h,j6 0 h,zhz h]
theorem zaW {L:List Nat} {rows:List Rw} {i:Nat} {r:Rw} (h:rows[i]? = some r):(xt L rows)[i]? = some (if i ∈ L then ⟨r.k,r.z,true⟩ else r):=by
 unfold xt
 rw [List.getElem?_map,List.getElem?_zipIdx,h]
 simp
theorem zcK {L:List Nat} {rows:List Rw} {bars:List Str} (V1:yP rows bars):yP (xt L rows) bars:=by
 have kz:=jG L rows
 refine ⟨fun r hr=>?_,by rw [zaQ kz]; exact V1.l24,V1.l60,by rw [zfU 0 kz]; exact V1.ord,V1.bn,by rw [zfV kz]; exact V1.nd⟩
 unfold xt at hr
 obtain ⟨y,hy,rfl⟩:=List.mem_map.mp hr
 have:=V1.ok y.1 (List.mem_of_getElem? (za6 hy))
 split
 ·exact this
 ·exact this
def lkN (rows:List Rw) (n:Nat) (zs:List Str):List Nat:=(yA n (kvP (fpZ zs)) 0 rows).map (·.2)
theorem jA {rows:List Rw} {n:Nat} {zs:List Str} {i:Nat} {r:Rw} (h:rows[i]? = some r):i ∈ lkN rows n zs ↔ zU r i n (kvP (fpZ zs)) = true:=by
 unfold lkN
 rw [List.mem_map]
 constructor
 ·rintro ⟨m,hm,rfl⟩
  obtain ⟨_,j,r',h1,h2,h3⟩:=(zdp rows 0).mp hm
  rw [Nat.zero_add] at h2 h3
  rw [<- h2] at h1 h3
  rw [h] at h1
  cases h1
  exact h3
 ·intro hl
  exact ⟨("lacking",i),(zdp rows 0).mpr ⟨rfl,i,r,h,by omega,by rw [Nat.zero_add]; exact hl⟩,rfl⟩
theorem jc {r:Rw} {i n:Nat} {zs:List Str}:zU r i n (kvP (fpZ zs)) = false ↔ (fr r.k r.b = true\/(xc r.k = true/\i < n)\/(z0 r.k = true/\r.z ∈ zs)):=by
 rw [vE,xM]
 by_cases h:i < n <;> by_cases h':r.z ∈ zs <;> cases fr r.k r.b <;> cases xc r.k <;> cases z0 r.k <;> simp [h,h']
theorem zcJ {rows:List Rw} {bars:List Str} (V1:yP rows bars) {n:Nat} {zs:List Str} (h1:zs.Nodup) (h2:(zy 2 0 rows).isSome = true\/n<=plN rows) (h3:∀ z ∈ zs,yd rows bars n z = none):zR (xt (lkN rows n zs) rows) bars n zs = []:=by
 have kz:=jG (lkN rows n zs) rows
 refine zf6 h1 (by rw [j6 0 kz,zhz kz]; exact h2) (fun z hz=>by rw [zit kz]; exact h3 z hz) (fun i r hr=>?_)
 have hi:i < rows.length:=by rw [<- zaQ kz]; exact (List.getElem?_eq_some_iff.mp hr).1
 have hr0:rows[i]? = some rows[i]:=List.getElem?_eq_getElem hi
 rw [zaW hr0] at hr
 have hr:=Option.some.inj hr
 subst hr
 by_cases hl:i ∈ lkN rows n zs
 ·rw [if_pos hl]
  have:=(jA hr0).mp hl
  left
  have h5:∀ k,k < 5->fr k true = true:=by decide +kernel
  exact h5 _ (V1.ok _ (List.getElem_mem hi)).1
 ·rw [if_neg hl]
  refine jc.mp ?_
  cases e:zU rows[i] i n (kvP (fpZ zs)) with
  | false=>rfl
  | true=>exact absurd ((jA hr0).mpr e) hl
theorem zcI {rows:List Rw} {bars:List Str} (V1:yP rows bars) {n:Nat} {zs:List Str} {i:Nat} (h:i ∈ lkN rows n zs):i < rows.length/\enF (xt (lkN rows n zs) rows) n zs i = .free:=by
 have hi:i < rows.length:=by
  unfold lkN at h
  obtain ⟨m,hm,rfl⟩:=List.mem_map.mp h
  obtain ⟨_,j,r',h1,h2,h3⟩:=(zdp rows 0).mp hm
  have:=(List.getElem?_eq_some_iff.mp h1).1
  omega
 refine ⟨hi,?_⟩
 have hr0:rows[i]? = some rows[i]:=List.getElem?_eq_getElem hi
 have hl:=(jA hr0).mp h
 have hr:=zaW (L:=lkN rows n zs) hr0
 rw [if_pos h] at hr
 rw [vE,xM] at hl
 simp only [Bool.and_eq_true,Bool.not_eq_true',Bool.and_eq_false_imp] at hl
 obtain ⟨⟨h1,h2⟩,h3⟩:=hl
 have k2:rows[i].k ≠ 2:=fun e=>by rw [e] at h1; cases h1
 have k4:rows[i].k ≠ 4:=fun e=>by rw [e] at h1; cases h1
 rw [qg hr k2 k4,if_neg,if_neg]
 ·rintro ⟨a,b⟩
  exact of_decide_eq_false (h3 a) b
 ·rintro ⟨a,b⟩
  exact of_decide_eq_false (h2 a) b
theorem zbH {n:Nat} {fk:List (Key × V)}:∀ (rows:List Rw) (i:Nat),(∀ j j' r r',rows[j]? = some r->rows[j']? = some r'->zU r (i + j) n fk = true->zU r' (i + j') n fk = true->j = j')->(yA n fk i rows).length<=1
 | [],_,_=>Nat.zero_le _
 | y :: ys,i,h=>by
  show ((if zU y i n fk = true then [(("lacking" : Str),i)] else []) ++ yA n fk (i + 1) ys).length<=1
  by_cases hy:zU y i n fk = true
  ·rw [if_pos hy]
   have:yA n fk (i + 1) ys = []:=(wC ys (i + 1)).mpr fun j r hj=>by
    cases e:zU r (i + 1 + j) n fk with
    | false=>rfl
    | true=>
     have:=h 0 (j + 1) y r rfl (by simpa using hj) (by rw [Nat.add_zero]; exact hy) (by rw [show i + (j + 1) = i + 1 + j by omega]; exact e)
     omega
   rw [this]
   exact Nat.le_refl 1
  ·rw [if_neg hy,List.nil_append]
   exact zbH ys (i + 1) fun j j' r r' h1 h2 h3 h4=>by
    have:=h (j + 1) (j' + 1) r r' (by simpa using h1) (by simpa using h2) (by rw [show i + (j + 1) = i + 1 + j by omega]; exact h3) (by rw [show i + (j' + 1) = i + 1 + j' by omega]; exact h4)
    omega
theorem zej {rows:List Rw} {bars:List Str} (V1:yP rows bars) {n:Nat} {zs:List Str} (F:Fit rows bars n zs) {j:Nat} (hj:j < zs.length):(zR rows bars n (zs.take j ++ zs.drop (j + 1))).length<=1/\∀ m ∈ zR rows bars n (zs.take j ++ zs.drop (j + 1)),m.1 = "lacking":=by
 have sb:(zs.take j ++ zs.drop (j + 1)).Sublist zs:=by
  conv=>rhs; rw [<- List.take_append_drop j zs]
  refine List.Sublist.append (List.Sublist.refl _) ?_
  rw [<- List.drop_drop]
  exact List.drop_sublist 1 (List.drop j zs)
 have e:zR rows bars n (zs.take j ++ zs.drop (j + 1)) = yA n (kvP (fpZ (zs.take j ++ zs.drop (j + 1)))) 0 rows:=by
  unfold zR
  rw [wc.mpr (sb.nodup F.nd),wA.mpr F.ov,vo.mpr (fun z hz=>F.un z (sb.subset hz)),List.nil_append,List.nil_append,List.nil_append]
 rw [e]
 refine ⟨zbH rows 0 fun a b ra rb h1 h2 h3 h4=>?_,fun m hm=>xS rows 0 hm⟩
 rw [Nat.zero_add] at h3 h4
 have key:∀ {a:Nat} {r:Rw},rows[a]? = some r->zU r a n (kvP (fpZ (zs.take j ++ zs.drop (j + 1)))) = true->z0 r.k = true/\r.z = zs[j]:=fun {a r} hr hl=>by
  have h0:=jc.mp (F.la a r hr)
  have hn:¬ (zU r a n (kvP (fpZ (zs.take j ++ zs.drop (j + 1)))) = false):=by rw [hl]; decide
  rw [jc] at hn
  rcases h0 with h0 | h0 | h0
  ·exact absurd (.inl h0) hn
  ·exact absurd (.inr (.inl h0)) hn
  ·refine ⟨h0.1,?_⟩
   have hnot:r.z ∉ zs.take j ++ zs.drop (j + 1):=fun hm=>hn (.inr (.inr ⟨h0.1,hm⟩))
   obtain ⟨i,hi,hz⟩:=List.mem_iff_getElem.mp h0.2
   by_cases hij:i = j
   ·subst hij; exact hz.symm
   ·exfalso
    refine hnot (List.mem_append.mpr ?_)
    by_cases hlt:i < j
    ·left
     rw [List.mem_iff_getElem]
     exact ⟨i,by rw [List.length_take]; omega,by rw [List.getElem_take]; exact hz⟩
    ·right
     rw [List.mem_iff_getElem]
     refine ⟨i - (j + 1),by rw [List.length_drop]; omega,?_⟩
     rw [List.getElem_drop]
     rw [<- hz]
     congr 1
     omega
 obtain ⟨b1,z1⟩:=key h1 h3
 obtain ⟨b2,z2⟩:=key h2 h4
 have d1:=xW b1 rows 0 a [] h1 (List.nodup_append.mp V1.nd).1
 have d2:=xW b2 rows 0 b [] h2 (List.nodup_append.mp V1.nd).1
 rw [z1] at d1
 rw [z2,d1] at d2
 have:=V.int.inj (Option.some.inj d2)
 omega
theorem zdF {fk:List (Key × V)}:∀ (a b:List Str) (i:Nat),xX fk i (a ++ b) = xX fk i a ++ xX fk (i + a.length) b
 | [],b,i=>by simp [xX]
 | y :: ys,b,i=>by
  show (if zL fk (.inr y) = some (.int (i:Nat)) then [] else [(("doubled" : Str),i)]) ++ xX fk (i + 1) (ys ++ b) = ((if zL fk (.inr y) = some (.int (i:Nat)) then [] else [(("doubled" : Str),i)]) ++ xX fk (i + 1) ys) ++ xX fk (i + (ys.length + 1)) b
  rw [zdF ys b (i + 1),List.append_assoc,show i + 1 + ys.length = i + (ys.length + 1) by omega]
theorem zeg {rows:List Rw} {bars:List Str} {n:Nat} {z:Str} {zs:List Str} (F:Fit rows bars n (z :: zs)):zR rows bars n ((z :: zs) ++ [z]) = [(("doubled" : Str),(z :: zs).length)]:=by
 have efp:fpZ ((z :: zs) ++ [z]) = fpZ (z :: zs):=by
  unfold fpZ
  rw [zaX]
  show (if ((fpF 0 [] (z :: zs)).any fun p=>decide (p.1 = z)) = true then fpF 0 [] (z :: zs) else _) = _
  rw [if_pos]
  rw [fpT]
  exact decide_eq_true List.mem_cons_self
 have hv:=(uB (z :: zs) 0).mp (wc.mpr F.nd)
 have hv0:=hv 0 z rfl
 unfold zR
 rw [efp,zdF,wc.mpr F.nd,wA.mpr F.ov,vo.mpr F.un,(wC rows 0).mpr (fun j r hj=>by rw [Nat.zero_add]; exact F.la j r hj),List.append_nil,List.append_nil,List.append_nil,List.nil_append,Nat.zero_add]
 show (if zL (kvP (fpZ (z :: zs))) (.inr z) = some (.int ((z :: zs).length:Nat)) then [] else [(("doubled" : Str),(z :: zs).length)]) ++ [] = _
 rw [hv0,if_neg,List.append_nil]
 intro e
 have:=V.int.inj (Option.some.inj e)
 rw [List.length_cons] at this
 omega
theorem zaT {i:Nat}:∀ {L:List Nat},inV (.int (i:Nat)) (L.map fun (n:Nat)=>V.int (n:Nat)) = decide (i ∈ L)
 | []=>by simp [inV]
 | y :: ys=>by
  have ih:=zaT (i:=i) (L:=ys)
  unfold inV at ih |-
  rw [List.map_cons,List.any_cons,ih,Bool.eq_iff_iff]
  simp only [Bool.or_eq_true,decide_eq_true_eq,List.mem_cons]
  refine or_congr_left ?_
  unfold eqV
  constructor
  ·intro h
   have:((y:Nat):Int) = ((i:Nat):Int):=by simpa using h
   omega
  ·rintro rfl
   simp
theorem qe {L:List Nat}:(L.map fun (n:Nat)=>V.int (n:Nat)).all xu = true:=by
 rw [List.all_eq_true]
 intro x hx
 obtain ⟨n,_,rfl⟩:=List.mem_map.mp hx
 rfl
theorem w6 {α β : Type} {F : α->β->Prop}:∀ {a:List α} {b:List β} (n:Nat),Paired F a b->Paired F (a.take n) (b.take n)
 | _,_,0,_=>by simpa using Paired.nil
 | _,_,n + 1,.nil=>.nil
 | _,_,n + 1,.cons h t=>.cons h (w6 n t)
theorem vc {α β : Type} {F : α->β->Prop}:∀ {a:List α} {b:List β} (n:Nat),Paired F a b->Paired F (a.drop n) (b.drop n)
 | _,_,0,h=>h
 | _,_,n + 1,.nil=>.nil
 | _,_,n + 1,.cons h t=>vc n t
theorem w9 {α β : Type} {F : α->β->Prop} (L:List Nat):∀ {a:List α} {b:List β} (k:Nat),Paired F a b->Paired F (((a.zipIdx k).filter fun y=>decide (y.2 ∉ L)).map (·.1)) (((b.zipIdx k).filter fun y=>decide (y.2 ∉ L)).map (·.1))
 | _,_,_,.nil=>.nil
 | _,_,k,.cons (a:=x) (b:=y) h t=>by
  rw [List.zipIdx_cons,List.zipIdx_cons,List.filter_cons,List.filter_cons]
  by_cases hk:k ∈ L
  ·rw [if_neg (by simpa using hk),if_neg (by simpa using hk)]
   exact w9 L (k + 1) t
  ·rw [if_pos (decide_eq_true hk),if_pos (decide_eq_true hk)]
   exact .cons h (w9 L (k + 1) t)
theorem zbr {K:Frag} {ok:Addr->Prop} {H:Hp} {L:List Nat} {ys:List V} {ps:List (Str × Int)} (h:Paired (zF K ok H 1) ys (ps.map ye)):Paired (zF K ok H 1) (z6 L ys) ((z6 L ps).map ye):=by
 have:=w9 L 0 h
 unfold z6
 rw [List.zipIdx_map,List.filter_map,List.map_map] at this
 rw [List.map_map]
 exact this
theorem zbM {α : Type} (L:List Nat) (xs:List α):(z6 L xs).length<=xs.length:=by
 unfold z6
 rw [List.length_map]
 exact Nat.le_trans (List.length_filter_le _ _) (by rw [List.length_zipIdx]; exact Nat.le_refl _)
def ub (K:Frag):Sp:=fun vs H Q _=>∃ (a b:Addr) (ts:List Int) (ys:List V) (ps:List (Str × Int)),vs = [.ref a,.ref b]/\H a = some (.lst (ts.map V.int))/\H b = some (.lst ys)/\Paired (zF K T' H 1) ys (ps.map ye)/\ts.length<=400/\ps.length<=400/\
 ∀ (l:Addr) (ct:List yt) (H':Hp),zm H H'->vn K H' l ct->yb ct = ts->yq ct = ps->Q (.ref l) H'
def zca (K:Frag):Sp:=fun vs H Q _=>∃ (a b lf:Addr) (ts:List Int) (ys:List V) (us:List Addr) (ms:List (Str × Nat)),vs = [.ref a,.ref b,.ref lf]/\H a = some (.lst (ts.map V.int))/\H b = some (.lst ys)/\H lf = some (.lst (us.map V.ref))/\xG H us ms/\ts.length<=400/\ys.length<=400/\ms.length<=900/\
 ∀ (p l1 l2:Addr) (H':Hp),zm H H'->H' p = some (.tup [.ref l1,.ref l2])->H' l1 = some (.lst ((z6 (ovL ms) ts).map V.int))->H' l2 = some (.lst (z6 (nmL ms) ys))->Q (.ref p) H'
def zaA:Sp:=fun vs H Q _=>∃ (t la lb ln:Addr) (us:List Addr) (rows:List Rw) (L:List Nat),vs = [.ref t,.ref ln]/\H t = some (.tup [.ref la,.ref lb])/\H la = some (.lst (us.map V.ref))/\Paired (TAt H) us rows/\(∀ r ∈ rows,r.ok)/\rows.length<=24/\H ln = some (.lst (L.map fun (n:Nat)=>V.int (n:Nat)))/\(∀ i ∈ L,∀ r,rows[i]? = some r->r.k ≠ 2/\r.k ≠ 4)/\
 ∀ (t' la':Addr) (us':List Addr) (H':Hp),zm H H'->H' t' = some (.tup [.ref la',.ref lb])->H' la' = some (.lst (us'.map V.ref))->Paired (TAt H') us' (xt L rows)->Q (.ref t') H'
section
variable {P:Program} {w:World} {K:Frag} {mg:Str->Option Value} {base:Heap} {f:Addr} {fd:FuncData}
theorem zeP:zu ["_law_things","_law_pairs"] ["_law_things","_law_pairs"] (ze vw):=⟨rfl,rfl,rfl,by decide +kernel,rfl,by decide +kernel,by decide +kernel⟩
theorem zd8 (F:Fun K "_law_packed" "_law_packed" vw f fd):zC P w K mg base CX0 1 f fd ["_law_things","_law_pairs"] (ub K):=by
 refine F.ok zeP (fun vs H Q E h=>?_) (fun cdv A outer s H vs Q E hr h=>?_)
 ·obtain ⟨a,b,ts,ys,ps,rfl,_⟩:=h
  rfl
 obtain ⟨a,b,ts,ys,ps,rfl,ha,hb,hp,l1,l2,q⟩:=h
 refine ⟨_,zh (zw (zM (ac (zH (ac zq (ac (zY yj (pv 0) yp (z9 zg)) zb))) (ac (zH (ac zq (ac (zY yj (pv 1) yp (z9 zg)) zb))) (ac (zH (ac zq (ac (zY yj (pv 0) (z9 zg) yp) zb))) (ac (zH (ac zq (ac (zY yj (pv 1) (z9 zg) yp) zb))) zb)))))),?_⟩
 refine ⟨_,rfl,_,rfl,a,_,rfl,SqL.of ha,fun p1 hp1=>?_⟩
 rw [show xN (ts.map V.int) none (some 30) = (ts.take 30).map V.int from (yN (n:=30)).trans (List.map_take ..).symm]
 have t1:=zc hp1 (.lst ((ts.take 30).map V.int))
 have d1:upd H p1 (.lst ((ts.take 30).map V.int)) p1 = some (.lst ((ts.take 30).map V.int)):=za
 generalize upd H p1 (.lst ((ts.take 30).map V.int)) = G1 at t1 d1 |-
 refine ⟨zz2,fun u1 hu1=>?_⟩
 have t2:=zc hu1 (.tup [.str "row",.ref p1])
 have d2:upd G1 u1 (.tup [.str "row",.ref p1]) u1 = some (.tup [.str "row",.ref p1]):=za
 generalize upd G1 u1 (.tup [.str "row",.ref p1]) = G2 at t2 d2 |-
 have t02:=t1.trans t2
 refine ⟨_,rfl,_,rfl,b,_,rfl,SqL.of (t02 _ _ hb),fun p2 hp2=>?_⟩
 rw [show xN ys none (some 30) = ys.take 30 from yN (n:=30)]
 have t3:=zc hp2 (.lst (ys.take 30))
 have d3:upd G2 p2 (.lst (ys.take 30)) p2 = some (.lst (ys.take 30)):=za
 generalize upd G2 p2 (.lst (ys.take 30)) = G3 at t3 d3 |-
 refine ⟨zz2,fun u2 hu2=>?_⟩
 have t4:=zc hu2 (.tup [.str "book",.ref p2])
 have d4:upd G3 u2 (.tup [.str "book",.ref p2]) u2 = some (.tup [.str "book",.ref p2]):=za
 generalize upd G3 u2 (.tup [.str "book",.ref p2]) = G4 at t4 d4 |-
 have t34:=t3.trans t4
 have t04:=t02.trans t34
 refine ⟨_,rfl,_,rfl,a,_,rfl,SqL.of (t04 _ _ ha),fun p3 hp3=>?_⟩
 rw [show xN (ts.map V.int) (some 30) none = (ts.drop 30).map V.int from (yG (n:=30)).trans (List.map_drop ..).symm]
 have t5:=zc hp3 (.lst ((ts.drop 30).map V.int))
 have d5:upd G4 p3 (.lst ((ts.drop 30).map V.int)) p3 = some (.lst ((ts.drop 30).map V.int)):=za
 generalize upd G4 p3 (.lst ((ts.drop 30).map V.int)) = G5 at t5 d5 |-
 refine ⟨zz2,fun u3 hu3=>?_⟩
 have t6:=zc hu3 (.tup [.str "row",.ref p3])
 have d6:upd G5 u3 (.tup [.str "row",.ref p3]) u3 = some (.tup [.str "row",.ref p3]):=za
 generalize upd G5 u3 (.tup [.str "row",.ref p3]) = G6 at t6 d6 |-
 have t56:=t5.trans t6
 have t06:=t04.trans t56
 refine ⟨_,rfl,_,rfl,b,_,rfl,SqL.of (t06 _ _ hb),fun p4 hp4=>?_⟩
 rw [show xN ys (some 30) none = ys.drop 30 from yG (n:=30)]
 have t7:=zc hp4 (.lst (ys.drop 30))
 have d7:upd G6 p4 (.lst (ys.drop 30)) p4 = some (.lst (ys.drop 30)):=za
 generalize upd G6 p4 (.lst (ys.drop 30)) = G7 at t7 d7 |-
 refine ⟨zz2,fun u4 hu4=>?_⟩
 have t8:=zc hu4 (.tup [.str "book",.ref p4])
 have d8:upd G7 u4 (.tup [.str "book",.ref p4]) u4 = some (.tup [.str "book",.ref p4]):=za
 generalize upd G7 u4 (.tup [.str "book",.ref p4]) = G8 at t8 d8 |-
 refine ⟨zz4,fun l hl=>?_⟩
 have t9:=zc hl (.lst [.ref u1,.ref u2,.ref u3,.ref u4])
 have t89:=t8.trans t9
 have t79:=t7.trans t89
 have t69:=t6.trans t79
 have t59:=t5.trans t69
 have t49:=t4.trans t59
 have t39:=t3.trans t49
 have t29:=t2.trans t39
 have t09:=t1.trans t29
 have eT:yb [yt.row (ts.take 30),.book (ps.take 30),.row (ts.drop 30),.book (ps.drop 30)] = ts:=by
  show ts.take 30 ++ ([] ++ (ts.drop 30 ++ ([] ++ []))) = ts
  rw [List.nil_append,List.append_nil,List.append_nil,List.take_append_drop]
 have eP:yq [yt.row (ts.take 30),.book (ps.take 30),.row (ts.drop 30),.book (ps.drop 30)] = ps:=by
  show [] ++ (ps.take 30 ++ ([] ++ (ps.drop 30 ++ []))) = ps
  rw [List.nil_append,List.nil_append,List.append_nil,List.take_append_drop]
 have hp9:=yi t09 hp
 have hpt:Paired (zF K T' (upd G8 l (.lst [.ref u1,.ref u2,.ref u3,.ref u4])) 1) (ys.take 30) ((ps.take 30).map ye):=by rw [List.map_take]; exact w6 30 hp9
 have hpd:Paired (zF K T' (upd G8 l (.lst [.ref u1,.ref u2,.ref u3,.ref u4])) 1) (ys.drop 30) ((ps.drop 30).map ye):=by rw [List.map_drop]; exact vc 30 hp9
 refine q l [.row (ts.take 30),.book (ps.take 30),.row (ts.drop 30),.book (ps.drop 30)] _ t09 ⟨⟨_,SqL.of za,?_⟩,by rw [eT]; omega,by rw [eP]; omega⟩ eT eP
 exact .cons (.tup (SqT.of (t39 _ _ d2)) (.cons .str (.cons (.lst True.intro (t29 _ _ d1) (yM _)) .nil)))
  (.cons (.tup (SqT.of (t59 _ _ d4)) (.cons .str (.cons (.lst True.intro (t49 _ _ d3) hpt) .nil)))
  (.cons (.tup (SqT.of (t79 _ _ d6)) (.cons .str (.cons (.lst True.intro (t69 _ _ d5) (yM _)) .nil)))
  (.cons (.tup (SqT.of (t9 _ _ d8)) (.cons .str (.cons (.lst True.intro (t89 _ _ d7) hpd) .nil))) .nil)))
theorem zef:([Str.ofString "_law_word",Str.ofString "_law_number"]:List Str).Nodup:=by decide +kernel
theorem zhx:([Str.ofString "_law_i",Str.ofString "_law_thing_here",Str.ofString "_law_over"]:List Str).Nodup:=by decide +kernel
theorem zhw:([Str.ofString "_law_j",Str.ofString "_law_pair",Str.ofString "_law_named"]:List Str).Nodup:=by decide +kernel
theorem zg8 (wd:Str):inV (.str wd) [.str "doubled",.str "barred",.str "again",.str "strange"] = decide (wd ∈ nmW):=wl (zs:=nmW)
theorem zaK:zu ["_law_things","_law_pairs","_law_found","_law_over","_law_named","_law_some"] ["_law_things","_law_pairs","_law_found"] (ze qI):=⟨rfl,rfl,rfl,by decide +kernel,rfl,by decide +kernel,by decide +kernel⟩
theorem zgW (F:Fun K "_law_left" "_law_left" qI f fd) (U:js mg):zC P w K mg base CX0 1 f fd ["_law_things","_law_pairs","_law_found"] (zca K):=by
 refine F.ok zaK (fun vs H Q E h=>?_) (fun cdv A outer s H vs Q E hr h=>?_)
 ·obtain ⟨a,b,lf,ts,ys,us,ms,rfl,_⟩:=h
  rfl
 obtain ⟨a,b,lf,ts,ys,us,ms,rfl,ha,hb,hlf,hm,lt,ly,lm,q⟩:=h
 refine ⟨_,zd (zv (i:=3) zaK.nd rfl (Or.inr rfl) (xI [] ["_law_word","_law_number"] [none,none] rfl ⟨rfl,rfl,rfl,rfl⟩ (yH (pv 2)) (yw (K:=K) (n:=2) 0 1) rfl rfl rfl
   (fun pins fp s H C=>⟨yc rfl (zt (zk (i:=0) zef rfl (Or.inl rfl) (.inr rfl)) (zt (zk (i:=1) zef rfl (Or.inl rfl) (.inr rfl)) zV)),y0 (zo ym (pv 0) zq (zx _)),pv 1⟩)))
  (zd (zv (i:=4) zaK.nd rfl (Or.inr rfl) (xI [] ["_law_word","_law_number"] [none,none] rfl ⟨rfl,rfl,rfl,rfl⟩ (yH (pv 2)) (yw (K:=K) (n:=2) 0 1) rfl rfl rfl
   (fun pins fp s H C=>⟨yc rfl (zt (zk (i:=0) zef rfl (Or.inl rfl) (.inr rfl)) (zt (zk (i:=1) zef rfl (Or.inl rfl) (.inr rfl)) zV)),y0 (zo (r:=rIn K false) y1 (pv 0) (zM (ac zq (ac zq (ac zq (ac zq zb))))) (by with_unfolding_all rfl)),pv 1⟩)))
  (zd (jQ (i:=5) ["_law_over"] ["_law_i","_law_thing_here","_law_over"] [none,none,some 3] zaK.nd rfl (Or.inl rfl) rfl ⟨rfl,rfl,rfl,rfl⟩ (xa rfl U.en (ac (pv 0) zb)) (yw (K:=K) (n:=2) 0 1) rfl rfl rfl
   (fun pins fp s H C=>⟨yc rfl (zt (zk (i:=0) zhx rfl (Or.inl rfl) (.inr rfl)) (zt (zk (i:=1) zhx rfl (Or.inl rfl) (.inr rfl)) zV)),y0 (zo (r:=rIn K true) yI (pv 0) (pv 2) (by with_unfolding_all rfl)),pv 1⟩))
  (zh (zw (zH (ac (pv 5) (ac (xI ["_law_named"] ["_law_j","_law_pair","_law_named"] [none,none,some 4] rfl ⟨rfl,rfl,rfl,rfl⟩ (xa rfl U.en (ac (pv 1) zb)) (yw (K:=K) (n:=2) 0 1) rfl rfl rfl
   (fun pins fp s H C=>⟨yc rfl (zt (zk (i:=0) zhw rfl (Or.inl rfl) (.inr rfl)) (zt (zk (i:=1) zhw rfl (Or.inl rfl) (.inr rfl)) zV)),y0 (zo (r:=rIn K true) yI (pv 0) (pv 2) (by with_unfolding_all rfl)),pv 1⟩)) zb))))))),?_⟩
 have lms:us.length = ms.length:=hm.length
 refine ⟨_,rfl,lf,rfl,⟨_,SqL.of hlf⟩,fun D1 hD1=>?_⟩
 refine j3 (K:=K) (xs:=us.map V.ref) ms (fun m=>decide (m.1 = ("over" : Str))) (fun m=>V.int (m.2:Nat)) hD1 (SqL.of hlf) (by rw [List.length_map,lms]) (by rw [List.length_map]; omega) (fun j x y H' Nn S hx hy sH n1 s1=>?_) (fun H1 s1 hD1'=>?_)
 ·obtain ⟨u,hu,rfl⟩:=xn hx
  obtain ⟨m',hm',hu'⟩:=yv hm hu
  rw [hy] at hm'
  cases hm'
  refine ⟨u,_,rfl,SqT.of (sH _ _ hu'),rfl,_,_,rfl,_,_,rfl,rfl,?_⟩
  refine ⟨_,rfl,rfl,_,rfl,?_⟩
  refine ⟨fun e=>⟨_,rfl,n1 _ (zm.refl _) ?_⟩,fun e=>s1 _ (zm.refl _) ?_⟩
  ·exact decide_eq_true (V.str.inj (of_decide_eq_true e))
  ·exact decide_eq_false fun h=>of_decide_eq_false e (congrArg V.str h)
 have hD1':H1 D1 = some (.lst ((ovL ms).map fun (n:Nat)=>V.int (n:Nat))):=by
  rw [hD1']; unfold ovL; rw [List.map_map]; rfl
 dsimp only [yg]
 refine ⟨_,rfl,lf,rfl,⟨_,SqL.of (s1 _ _ hlf)⟩,fun D2 hD2=>?_⟩
 refine j3 (K:=K) (xs:=us.map V.ref) ms (fun m=>decide (m.1 ∈ nmW)) (fun m=>V.int (m.2:Nat)) hD2 (SqL.of (s1 _ _ hlf)) (by rw [List.length_map,lms]) (by rw [List.length_map]; omega) (fun j x y H' Nn S hx hy sH n1 s1'=>?_) (fun H2 s2 hD2'=>?_)
 ·obtain ⟨u,hu,rfl⟩:=xn hx
  obtain ⟨m',hm',hu'⟩:=yv hm hu
  rw [hy] at hm'
  cases hm'
  refine ⟨u,_,rfl,SqT.of ((s1.trans sH) _ _ hu'),rfl,_,_,rfl,_,_,rfl,rfl,?_⟩
  refine ⟨_,rfl,zz4,fun l hl=>?_⟩
  have sl:=zc hl (.lst [.str "doubled",.str "barred",.str "again",.str "strange"])
  refine ⟨l,_,rfl,.inl (SqL.of za),rfl,rfl,_,rfl,?_⟩
  rw [if_neg Bool.false_ne_true,zg8]
  exact ⟨fun e=>⟨_,rfl,n1 _ sl e⟩,fun e=>s1' _ sl e⟩
 have hD2':H2 D2 = some (.lst ((nmL ms).map fun (n:Nat)=>V.int (n:Nat))):=by
  rw [hD2']; unfold nmL; rw [List.map_map]; rfl
 dsimp only [yg]
 have s02:=s1.trans s2
 refine ⟨_,rfl,a,rfl,⟨_,SqL.of (s02 _ _ ha)⟩,fun D3 hD3=>?_⟩
 refine jB (K:=K) (xs:=ts.map V.int) ts.zipIdx (fun y=>decide (y.2 ∉ ovL ms)) (fun y=>V.int y.1) hD3 (SqL.of (s02 _ _ ha)) (by rw [List.length_map,List.length_zipIdx]) (by rw [List.length_map]; omega) (fun i x y p H' Nn S hx hy hp sH n1 ss1=>?_) (fun H3 s3 hD3'=>?_)
 ·rw [List.getElem?_zipIdx] at hy
  rw [List.getElem?_map] at hx
  cases ht:ts[i]? with
  | none=>rw [ht] at hx; cases hx
  | some t=>
   rw [ht] at hx hy
   have hx:V.int t = x:=Option.some.inj hx
   have hy:(t,0 + i) = y:=Option.some.inj hy
   subst hx
   subst hy
   rw [Nat.zero_add] at n1 ss1
   have sp:=zc hp (.tup [.int (i:Nat),.int t])
   refine ⟨p,_,rfl,SqT.of za,rfl,_,_,rfl,_,_,rfl,rfl,?_⟩
   have g1:=sp _ _ ((s2.trans sH) _ _ hD1')
   generalize upd H' p (.tup [.int (i:Nat),.int t]) = H4 at sp g1 |-
   refine ⟨_,rfl,_,rfl,D1,_,rfl,.inl (SqL.of g1),rfl,qe,_,rfl,?_⟩
   rw [if_pos rfl,zaT]
   exact ⟨fun e=>⟨_,rfl,n1 _ sp (by rw [<- e]; simp)⟩,fun e=>ss1 _ sp (by rw [<- e]; simp)⟩
 have hD3':H3 D3 = some (.lst ((z6 (ovL ms) ts).map V.int)):=by
  rw [hD3']; unfold z6; rw [List.map_map]; rfl
 have s03:=s02.trans s3
 refine ⟨_,rfl,_,rfl,b,rfl,⟨_,SqL.of (s03 _ _ hb)⟩,fun D4 hD4=>?_⟩
 refine jB (K:=K) (xs:=ys) ys.zipIdx (fun y=>decide (y.2 ∉ nmL ms)) (fun y=>y.1) hD4 (SqL.of (s03 _ _ hb)) (by rw [List.length_zipIdx]) (by omega) (fun i x y p H' Nn S hx hy hp sH n1 ss1=>?_) (fun H4 s4 hD4'=>?_)
 ·rw [List.getElem?_zipIdx,hx] at hy
  have hy:(x,0 + i) = y:=Option.some.inj hy
  subst hy
  rw [Nat.zero_add] at n1 ss1
  have sp:=zc hp (.tup [.int (i:Nat),x])
  refine ⟨p,_,rfl,SqT.of za,rfl,_,_,rfl,_,_,rfl,rfl,?_⟩
  have g1:=sp _ _ ((s3.trans sH) _ _ hD2')
  generalize upd H' p (.tup [.int (i:Nat),x]) = H5 at sp g1 |-
  refine ⟨_,rfl,_,rfl,D2,_,rfl,.inl (SqL.of g1),rfl,qe,_,rfl,?_⟩
  rw [if_pos rfl,zaT]
  exact ⟨fun e=>⟨_,rfl,n1 _ sp (by rw [<- e]; simp)⟩,fun e=>ss1 _ sp (by rw [<- e]; simp)⟩
 refine ⟨zz2,fun tt htt=>?_⟩
 have s5:=zc htt (.tup [.ref D3,.ref D4])
 exact q tt D3 D4 _ (s03.trans (s4.trans s5)) za (s5 _ _ (s4 _ _ hD3')) (s5 _ _ hD4')
theorem jv:zu ["_law_told","_law_numbers","_law_some","_law_at","_law_one"] ["_law_told","_law_numbers"] (ze uV):=⟨rfl,rfl,rfl,by decide +kernel,rfl,by decide +kernel,by decide +kernel⟩
theorem zfz (F:Fun K "_law_freed" "_law_freed" uV f fd) (U:js mg):zC P w K mg base CX0 1 f fd ["_law_told","_law_numbers"] zaA:=by
 refine F.ok jv (fun vs H Q E h=>?_) (fun cdv A outer s H vs Q E hr h=>?_)
 ·obtain ⟨t,la,lb,ln,us,rows,L,rfl,_⟩:=h
  rfl
 obtain ⟨t,la,lb,ln,us,rows,L,rfl,ht,hla,hu,hok,l24,hln,hL,q⟩:=h
 refine ⟨_,zd (zv (i:=2) jv.nd rfl (Or.inl rfl) (zM zb))
  (zd (yE PassesOwn.never rfl (xa rfl U.en (ac (zI zQ (pv 0) zg (fun _ _=>rfl)) zb)) (yc rfl (zt (zk (i:=3) jv.nd rfl (Or.inl rfl)) (zt (zk (i:=4) jv.nd rfl (Or.inl rfl)) zV)))
   (zh (zJ (zo y1 (pv 3) (pv 1) (by with_unfolding_all rfl)) (zh (zE (yz PySem.F.plainAttrs_list PySem.F.slot_list_append PySem.F.type_list_append zG (pv 2) (ac (zH (ac (zI zQ (pv 4) zg (fun _ _=>rfl)) (ac (zI zQ (pv 4) zg (fun _ _=>rfl)) (ac wz zb)))) zb))))
    (zh (zE (yz PySem.F.plainAttrs_list PySem.F.slot_list_append PySem.F.type_list_append zG (pv 2) (ac (pv 4) zb)))))))
  (zh (zw (zH (ac (pv 2) (ac (zI zQ (pv 0) zg (fun _ _=>rfl)) zb)))))),?_⟩
 refine ⟨zz0,fun l hl=>?_⟩
 have s1:=zc hl (.lst [])
 have g1:upd H l (.lst []) l = some (.lst (([]:List Addr).map V.ref)):=za
 dsimp only [yg]
 generalize upd H l (.lst []) = H1 at s1 g1 |-
 have lu:us.length = rows.length:=hu.length
 refine ⟨_,rfl,t,_,0,.ref la,rfl,rfl,SqT.of (s1 _ _ ht),rfl,la,rfl,⟨_,SqL.of (s1 _ _ hla)⟩,vj (K:=K) (a:=la) (xs:=us.map V.ref) (fun i σ H'=>∃ (vs:List Addr) (v3 v4:Option V),σ = [some (.ref t),some (.ref ln),some (.ref l),v3,v4]/\zm H H'/\H' l = some (.lst (vs.map V.ref))/\Paired (TAt H') vs ((xt L rows).take i)) ⟨[],_,_,rfl,s1,g1,by simpa using Paired.nil⟩ (fun i σ H' _ ⟨_,_,_,_,sH,_⟩=>SqL.of (sH _ _ hla)) ?_ ?_⟩
 ·rintro i x tn σ H2 hx ⟨vs,v3,v4,rfl,s2,e2,p2⟩ htn
  obtain ⟨u,hu',rfl⟩:=xn hx
  obtain ⟨r,hr',tr⟩:=yv hu hu'
  have rk:=hok r (List.mem_of_getElem? hr')
  have hi:i < rows.length:=(List.getElem?_eq_some_iff.mp hr').1
  have sp:=zc htn (.tup [.int (i:Nat),.ref u])
  refine ⟨tn,_,rfl,SqT.of za,rfl,_,_,rfl,_,_,rfl,rfl,?_⟩
  have s3:=s2.trans sp
  have e3:=sp _ _ e2
  have p3:=z7 sp p2
  generalize upd H2 tn (.tup [.int (i:Nat),.ref u]) = H3 at sp s3 e3 p3 |-
  have tu:H3 u = some (.tup (zbl r.k (.str r.z) r.b)):=s3 _ _ tr
  have lvs:vs.length<=24:=by rw [p2.length,List.length_take]; omega
  have fa:=zaW (L:=L) hr'
  have tk:(xt L rows).take (i + 1) = (xt L rows).take i ++ [if i ∈ L then ⟨r.k,r.z,true⟩ else r]:=by
   have hi':=(List.getElem?_eq_some_iff.mp fa).1
   rw [List.take_succ_eq_append_getElem hi',(List.getElem?_eq_some_iff.mp fa).2]
  refine ⟨_,rfl,_,rfl,ln,_,rfl,.inl (SqL.of (s3 _ _ hln)),rfl,qe,_,rfl,?_⟩
  rw [if_neg Bool.false_ne_true,zaT]
  by_cases hm:i ∈ L
  ·refine dT hm ?_
   rw [if_pos hm] at tk
   obtain ⟨k2,k4⟩:=hL i hm r hr'
   refine ⟨_,rfl,.inl ⟨rfl,_,SqL.of e3⟩,_,rfl,u,_,0,_,rfl,rfl,SqT.of tu,zjz rk.1,_,rfl,u,_,1,_,rfl,rfl,SqT.of tu,zjy,zz3,fun u2 hu2=>?_⟩
   have s4:=zc hu2 (.tup [.str (kw r.k),.str r.z,.bl true])
   have t4:TAt (upd H3 u2 (.tup [.str (kw r.k),.str r.z,.bl true])) u2 ⟨r.k,r.z,true⟩:=by
    show upd H3 u2 _ u2 = some (.tup (zbl r.k (.str r.z) true))
    rw [za]
    have:r.k = 0\/r.k = 1\/r.k = 3:=by have:=rk.1; omega
    rcases this with e | e | e <;> rw [e] <;> rfl
   have e4:=s4 _ _ e3
   have p4:=z7 s4 p3
   generalize upd H3 u2 (.tup [.str (kw r.k),.str r.z,.bl true]) = H4 at s4 t4 e4 p4 |-
   refine ⟨l,_,_,rfl,rfl,e4,zz (by rw [List.length_map]; omega),?_⟩
   refine ⟨vs ++ [u2],_,_,rfl,fun b o e=>by rw [zi (zf e hl)]; exact s4 _ _ (s3 _ _ e),by rw [za,List.map_append]; rfl,?_⟩
   rw [tk]
   exact Paired.snoc (Paired.imp' (fun _ _ z=>x0 z e4) p4) (x0 t4 e4)
  ·refine dF hm ?_
   rw [if_neg hm] at tk
   refine ⟨_,rfl,.inl ⟨rfl,_,SqL.of e3⟩,_,rfl,l,_,_,rfl,rfl,e3,zz (by rw [List.length_map]; omega),?_⟩
   refine ⟨vs ++ [u],_,_,rfl,fun b o e=>by rw [zi (zf e hl)]; exact s3 _ _ e,by rw [za,List.map_append]; rfl,?_⟩
   rw [tk]
   exact Paired.snoc (Paired.imp' (fun _ _ z=>x0 z e3) p3) (x0 (show TAt H3 u r from tu) e3)
 ·rintro σ H2 ⟨vs,v3,v4,rfl,s2,e2,p2⟩
  have lf:(xt L rows).length = us.length:=by rw [zaQ (jG L rows),lu]
  rw [List.length_map,<- lf,List.take_length] at p2
  refine ⟨_,rfl,_,rfl,t,_,1,.ref lb,rfl,rfl,SqT.of (s2 _ _ ht),rfl,zz2,fun t' ht'=>?_⟩
  have s3:=zc ht' (.tup [.ref l,.ref lb])
  exact q t' l vs _ (s2.trans s3) za (s3 _ _ e2) (z7 s3 p2)
end
def zjN:En->Prop
 | .one wd _=>wd = "place"\/wd = "name"
 | .many wd _=>wd = "places"\/wd = "names"
 | .free=>True
theorem ziJ {rows:List Rw} {M:Nat} {zs:List Str} {i:Nat}:zjN (enF rows M zs i):=by
 unfold enF
 split
 ·exact .inl rfl
 ·split
  ·exact .inr rfl
  ·split
   ·split
    ·exact .inl rfl
    ·split
     ·exact .inr rfl
     ·exact True.intro
   ·exact True.intro
def uJ (K:Frag):Sp:=fun vs H Q _=>∃ (l:Addr) (xs:List V) (es:List En) (ok:Addr->Prop) (M N:Nat),vs = [.ref l,.int (M:Nat),.int (N:Nat)]/\H l = some (.lst xs)/\Paired (zb4 K ok H) xs es/\(∀ e ∈ es,zjN e)/\(es.flatMap enP).Perm (List.range M)/\(es.flatMap enN).Perm (List.range N)/\M < 64/\N < 64/\∀ H',zm H H'->Q (.bl true) H'
theorem xC (ns:List Nat):(xr ns).length = ns.length:=by unfold xr; rw [List.length_map]
theorem zaa (n:Nat):(L2.wM n).Pairwise (·<=·):=by
 unfold L2.wM
 rw [List.pairwise_map]
 exact List.Pairwise.imp (fun h=>by omega) (List.pairwise_lt_range (n:=n))
theorem zcZ {g:En->List Nat} {es:List En} {i:Nat} {e:En} (h:es[i]? = some e):(es.take (i + 1)).flatMap g = (es.take i).flatMap g ++ g e:=by
 have hi:=(List.getElem?_eq_some_iff.mp h).1
 rw [List.take_succ_eq_append_getElem hi,(List.getElem?_eq_some_iff.mp h).2,List.flatMap_append]
 simp
theorem ji {g:En->List Nat} (es:List En) (i:Nat):((es.take i).flatMap g).length<=(es.flatMap g).length:=by
 conv=>rhs; rw [<- List.take_append_drop i es,List.flatMap_append,List.length_append]
 omega
theorem ur (a b:List Nat):xr (a ++ b) = xr a ++ xr b:=by unfold xr; rw [List.map_append]
section
variable {P:Program} {w:World} {K:Frag} {mg:Str->Option Value} {base:Heap} {f CF:Addr} {fd:FuncData} {c:C5}
structure UI (H H':Hp) (lp ln:Addr) (ps ns:List Nat):Prop where
 s:zm H H'
 np:H lp = none
 nn:H ln = none
 ne:lp ≠ ln
 ep:H' lp = some (.lst ((xr ps).map V.int))
 en:H' ln = some (.lst ((xr ns).map V.int))
theorem UI.addP {H H':Hp} {lp ln:Addr} {ps ns:List Nat} (h:UI H H' lp ln ps ns) (n:Nat):UI H (upd H' lp (.lst ((xr ps).map V.int ++ [.int (n:Nat)]))) lp ln (ps ++ [n]) ns:=
 ⟨fun b o e=>by rw [zi (zf e h.np)]; exact h.s _ _ e,h.np,h.nn,h.ne,by rw [za,ur,List.map_append]; rfl,by rw [zi (Ne.symm h.ne)]; exact h.en⟩
theorem UI.addN {H H':Hp} {lp ln:Addr} {ps ns:List Nat} (h:UI H H' lp ln ps ns) (n:Nat):UI H (upd H' ln (.lst ((xr ns).map V.int ++ [.int (n:Nat)]))) lp ln ps (ns ++ [n]):=
 ⟨fun b o e=>by rw [zi (zf e h.nn)]; exact h.s _ _ e,h.np,h.nn,h.ne,by rw [zi h.ne]; exact h.ep,by rw [za,ur,List.map_append]; rfl⟩
theorem UI.catP {H H':Hp} {lp ln p:Addr} {ps ns ms:List Nat} (h:UI H H' lp ln ps ns) (hp:H' p = none):UI H (upd H' p (.lst ((xr ps).map V.int ++ (xr ms).map V.int))) p ln (ps ++ ms) ns:=
 ⟨h.s.trans (zc hp _),h.s.free hp,h.nn,(fun e=>by rw [e,h.en] at hp; cases hp),by rw [za,ur,List.map_append],zc hp _ _ _ h.en⟩
theorem UI.catN {H H':Hp} {lp ln p:Addr} {ps ns ms:List Nat} (h:UI H H' lp ln ps ns) (hp:H' p = none):UI H (upd H' p (.lst ((xr ns).map V.int ++ (xr ms).map V.int))) lp p ps (ns ++ ms):=
 ⟨h.s.trans (zc hp _),h.np,h.s.free hp,(fun e=>by rw [<- e,h.ep] at hp; cases hp),zc hp _ _ _ h.ep,by rw [za,ur,List.map_append]⟩
theorem xO:zu ["_law_found","_law_many","_law_names","_law_places","_law_told","_law_entry"] ["_law_found","_law_many","_law_names"] (ze wu):=⟨rfl,rfl,rfl,by decide +kernel,rfl,by decide +kernel,by decide +kernel⟩
theorem zco (F:Fun K "_law_counted" "_law_counted" wu f fd) (U:js mg) (hso:mg "sorted" = none):zC P w K mg base CX0 1 f fd ["_law_found","_law_many","_law_names"] (uJ K):=by
 refine F.ok xO (fun vs H Q E h=>?_) (fun cdv A outer s H vs Q E hr h=>?_)
 ·obtain ⟨l,xs,es,ok,M,N,rfl,_⟩:=h
  rfl
 obtain ⟨l,xs,es,ok,M,N,rfl,hl,hp,hok,eP,eN,bM,bN,q⟩:=h
 have hU:=hr.units
 have b1:(es.flatMap enP).length < 64:=by rw [eP.length_eq,List.length_range]; exact bM
 have b2:(es.flatMap enN).length < 64:=by rw [eN.length_eq,List.length_range]; exact bN
 refine ⟨_,zd (zv (i:=3) xO.nd rfl (Or.inl rfl) (zM zb))
  (zd (zv (i:=4) xO.nd rfl (Or.inl rfl) (zM zb))
  (zd (yE PassesOwn.never rfl (yH (pv 0)) (zk (i:=5) xO.nd rfl (Or.inl rfl))
   (zd (zJ (zo ym (zI zQ (pv 5) zg (fun _ _=>rfl)) zq (zx _)) (zh (zE (yz PySem.F.plainAttrs_list PySem.F.slot_list_append PySem.F.type_list_append zG (pv 3) (ac (zI zQ (pv 5) zg (fun _ _=>rfl)) zb)))) zA)
   (zd (zJ (zo ym (zI zQ (pv 5) zg (fun _ _=>rfl)) zq (zx _)) (zh (zv (i:=3) xO.nd rfl (Or.inl rfl) (zr y8 (pv 3) (zI zQ (pv 5) zg (fun _ _=>rfl))))) zA)
   (zd (zJ (zo ym (zI zQ (pv 5) zg (fun _ _=>rfl)) zq (zx _)) (zh (zE (yz PySem.F.plainAttrs_list PySem.F.slot_list_append PySem.F.type_list_append zG (pv 4) (ac (zI zQ (pv 5) zg (fun _ _=>rfl)) zb)))) zA)
   (zh (zJ (zo ym (zI zQ (pv 5) zg (fun _ _=>rfl)) zq (zx _)) (zh (zv (i:=4) xO.nd rfl (Or.inl rfl) (zr y8 (pv 4) (zI zQ (pv 5) zg (fun _ _=>rfl))))) zA))))))
  (zh (zw (zfc (xb (jU hU) (cB uD hso PyProof.Rows.boot_sorted (ac (pv 3) zb)) (cTy (ql rfl) U.list PyProof.Rows.boot_list (ac (cTy zbZ U.range PyProof.Rows.boot_range (ac (pv 1) zb)) zb)) (zx _)) (ze7 (xb (jU hU) (cB uD hso PyProof.Rows.boot_sorted (ac (pv 4) zb)) (cTy (ql rfl) U.list PyProof.Rows.boot_list (ac (cTy zbZ U.range PyProof.Rows.boot_range (ac (pv 2) zb)) zb)) (zx _)))))))),?_⟩
 refine ⟨zz0,fun lp hlp=>?_⟩
 have s1:=zc hlp (.lst [])
 have g1:upd H lp (.lst []) lp = some (.lst []):=za
 dsimp only [yg]
 generalize upd H lp (.lst []) = H1 at s1 g1 |-
 refine ⟨zz0,fun ln hln=>?_⟩
 have s2:=zc hln (.lst [])
 have g2:upd H1 ln (.lst []) ln = some (.lst []):=za
 dsimp only [yg]
 generalize upd H1 ln (.lst []) = H2 at s2 g2 |-
 have U0:UI H H2 lp ln [] []:=⟨s1.trans s2,hlp,s1.free hln,(fun e=>by rw [<- e,g1] at hln; cases hln),s2 _ _ g1,g2⟩
 have lx:xs.length = es.length:=hp.length
 refine ⟨_,rfl,l,rfl,⟨_,SqL.of ((s1.trans s2) _ _ hl)⟩,vi (K:=K) (a:=l) (xs:=xs) (fun i σ H'=>∃ (lp ln:Addr) (v3:Option V),σ = [some (.ref l),some (.int (M:Nat)),some (.int (N:Nat)),some (.ref lp),some (.ref ln),v3]/\UI H H' lp ln ((es.take i).flatMap enP) ((es.take i).flatMap enN)) ⟨lp,ln,_,rfl,U0⟩ (fun i σ H' _ ⟨_,_,_,_,U⟩=>SqL.of (U.s _ _ hl)) ?_ ?_⟩
 ·clear U0 s1 s2 g1 g2 hlp hln lp ln H1 H2
  rintro i x σ H3 hx ⟨lp,ln,v3,rfl,U⟩
  obtain ⟨e,he,hE⟩:=Paired.get hp hx
  have hEo:=hok e (List.mem_of_getElem? he)
  have hE:=hE.same U.s
  have tP:=zcZ (g:=enP) he
  have tN:=zcZ (g:=enN) he
  have lP:=Nat.lt_of_le_of_lt (ji (g:=enP) es (i + 1)) b1
  have lN:=Nat.lt_of_le_of_lt (ji (g:=enN) es (i + 1)) b2
  rw [tP] at lP |-
  rw [tN] at lN |-
  generalize (es.take i).flatMap enP = ps at U lP
  generalize (es.take i).flatMap enN = ns at U lN
  clear tP tN
  have neq:∀ {a b:Str},a ≠ b->¬ (V.str a = V.str b):=fun h e=>h (V.str.inj e)
  cases e with
  | one wd n=>
   obtain ⟨u,rfl,hu⟩:=hE
   rcases hEo with rfl | rfl
   ·have ez:ps ++ enP (.one "place" n) = ps ++ [n]:=rfl
    have ez2:ns ++ enN (.one "place" n) = ns:=by
     show ns ++ (if ("place" : Str) = "name" then [n] else []) = ns
     rw [if_neg (by decide +kernel),List.append_nil]
    rw [ez,ez2] at *
    have lps:ps.length < 64:=by rw [List.length_append] at lP; omega
    refine ⟨_,rfl,u,_,0,_,rfl,rfl,hu,rfl,rfl,_,rfl,?_⟩
    refine dT rfl ?_
    refine ⟨_,rfl,.inl ⟨rfl,_,SqL.of U.ep⟩,_,rfl,u,_,1,_,rfl,rfl,hu,rfl,lp,_,_,rfl,rfl,U.ep,zz (by rw [List.length_map,xC]; omega),?_⟩
    have U2:=U.addP n
    have hu2:SqT K (upd H3 lp (.lst ((xr ps).map V.int ++ [.int (n:Nat)]))) u [.str "place",.int (n:Nat)]:=by
     rcases hu with (h | ⟨o,h⟩) | h
     ·exact .inl (.inl (by rw [zi (fun e=>by rw [e,U.ep] at h; cases h)]; exact h))
     ·exact .inl (.inr ⟨o,by rw [zi (fun e=>by rw [e,U.ep] at h; cases h)]; exact h⟩)
     ·exact .inr h
    generalize upd H3 lp (.lst ((xr ps).map V.int ++ [.int (n:Nat)])) = H4 at U2 hu2 |-
    refine ⟨_,rfl,u,_,0,_,rfl,rfl,hu2,rfl,rfl,_,rfl,?_⟩
    refine dF (neq (by decide +kernel)) ?_
    refine ⟨_,rfl,u,_,0,_,rfl,rfl,hu2,rfl,rfl,_,rfl,?_⟩
    refine dF (neq (by decide +kernel)) ?_
    refine ⟨_,rfl,u,_,0,_,rfl,rfl,hu2,rfl,rfl,_,rfl,?_⟩
    refine dF (neq (by decide +kernel)) ?_
    exact ⟨lp,ln,_,rfl,U2⟩
   ·have ez:ps ++ enP (.one "name" n) = ps:=by
     show ps ++ (if ("name" : Str) = "place" then [n] else []) = ps
     rw [if_neg (by decide +kernel),List.append_nil]
    have ez2:ns ++ enN (.one "name" n) = ns ++ [n]:=rfl
    rw [ez,ez2] at *
    have lns:ns.length < 64:=by rw [List.length_append] at lN; omega
    refine ⟨_,rfl,u,_,0,_,rfl,rfl,hu,rfl,rfl,_,rfl,?_⟩
    refine dF (neq (by decide +kernel)) ?_
    refine ⟨_,rfl,u,_,0,_,rfl,rfl,hu,rfl,rfl,_,rfl,?_⟩
    refine dF (neq (by decide +kernel)) ?_
    refine ⟨_,rfl,u,_,0,_,rfl,rfl,hu,rfl,rfl,_,rfl,?_⟩
    refine dT rfl ?_
    refine ⟨_,rfl,.inl ⟨rfl,_,SqL.of U.en⟩,_,rfl,u,_,1,_,rfl,rfl,hu,rfl,ln,_,_,rfl,rfl,U.en,zz (by rw [List.length_map,xC]; omega),?_⟩
    have U2:=U.addN n
    have hu2:SqT K (upd H3 ln (.lst ((xr ns).map V.int ++ [.int (n:Nat)]))) u [.str "name",.int (n:Nat)]:=by
     rcases hu with (h | ⟨o,h⟩) | h
     ·exact .inl (.inl (by rw [zi (fun e=>by rw [e,U.en] at h; cases h)]; exact h))
     ·exact .inl (.inr ⟨o,by rw [zi (fun e=>by rw [e,U.en] at h; cases h)]; exact h⟩)
     ·exact .inr h
    generalize upd H3 ln (.lst ((xr ns).map V.int ++ [.int (n:Nat)])) = H4 at U2 hu2 |-
    refine ⟨_,rfl,u,_,0,_,rfl,rfl,hu2,rfl,rfl,_,rfl,?_⟩
    refine dF (neq (by decide +kernel)) ?_
    exact ⟨lp,ln,_,rfl,U2⟩
  | many wd ms=>
   obtain ⟨u,le,rfl,hu,_,hle⟩:=hE
   rcases hEo with rfl | rfl
   ·have ez:ps ++ enP (.many "places" ms) = ps ++ ms:=rfl
    have ez2:ns ++ enN (.many "places" ms) = ns:=by
     show ns ++ (if ("places" : Str) = "names" then ms else []) = ns
     rw [if_neg (by decide +kernel),List.append_nil]
    rw [ez,ez2] at *
    have lP:ps.length + ms.length < 64:=by rw [List.length_append] at lP; exact lP
    refine ⟨_,rfl,u,_,0,_,rfl,rfl,hu,rfl,rfl,_,rfl,?_⟩
    refine dF (neq (by decide +kernel)) ?_
    refine ⟨_,rfl,u,_,0,_,rfl,rfl,hu,rfl,rfl,_,rfl,?_⟩
    refine dT rfl ?_
    refine ⟨_,rfl,_,rfl,u,_,1,_,rfl,rfl,hu,rfl,lp,le,_,_,rfl,rfl,U.ep,hle,z8 (by rw [List.length_map,xC,List.length_map,xC]; omega),fun p hpn=>?_⟩
    have U2:=U.catP (ms:=ms) hpn
    have hu2:=(zc hpn (.lst ((xr ps).map V.int ++ (xr ms).map V.int))).sqT hu
    dsimp only [yg]
    generalize upd H3 p (.lst ((xr ps).map V.int ++ (xr ms).map V.int)) = H4 at U2 hu2 |-
    refine ⟨_,rfl,u,_,0,_,rfl,rfl,hu2,rfl,rfl,_,rfl,?_⟩
    refine dF (neq (by decide +kernel)) ?_
    refine ⟨_,rfl,u,_,0,_,rfl,rfl,hu2,rfl,rfl,_,rfl,?_⟩
    refine dF (neq (by decide +kernel)) ?_
    exact ⟨p,ln,_,rfl,U2⟩
   ·have ez:ps ++ enP (.many "names" ms) = ps:=by
     show ps ++ (if ("names" : Str) = "places" then ms else []) = ps
     rw [if_neg (by decide +kernel),List.append_nil]
    have ez2:ns ++ enN (.many "names" ms) = ns ++ ms:=rfl
    rw [ez,ez2] at *
    have lN:ns.length + ms.length < 64:=by rw [List.length_append] at lN; exact lN
    refine ⟨_,rfl,u,_,0,_,rfl,rfl,hu,rfl,rfl,_,rfl,?_⟩
    refine dF (neq (by decide +kernel)) ?_
    refine ⟨_,rfl,u,_,0,_,rfl,rfl,hu,rfl,rfl,_,rfl,?_⟩
    refine dF (neq (by decide +kernel)) ?_
    refine ⟨_,rfl,u,_,0,_,rfl,rfl,hu,rfl,rfl,_,rfl,?_⟩
    refine dF (neq (by decide +kernel)) ?_
    refine ⟨_,rfl,u,_,0,_,rfl,rfl,hu,rfl,rfl,_,rfl,?_⟩
    refine dT rfl ?_
    refine ⟨_,rfl,_,rfl,u,_,1,_,rfl,rfl,hu,rfl,ln,le,_,_,rfl,rfl,U.en,hle,z8 (by rw [List.length_map,xC,List.length_map,xC]; omega),fun p hpn=>?_⟩
    exact ⟨lp,p,_,rfl,U.catN (ms:=ms) hpn⟩
  | free=>
   obtain ⟨u,rfl,hu⟩:=hE
   have ez:ps ++ enP .free = ps:=List.append_nil _
   have ez2:ns ++ enN .free = ns:=List.append_nil _
   rw [ez,ez2] at *
   refine ⟨_,rfl,u,_,0,_,rfl,rfl,hu,rfl,rfl,_,rfl,?_⟩
   refine dF (neq (by decide +kernel)) ?_
   refine ⟨_,rfl,u,_,0,_,rfl,rfl,hu,rfl,rfl,_,rfl,?_⟩
   refine dF (neq (by decide +kernel)) ?_
   refine ⟨_,rfl,u,_,0,_,rfl,rfl,hu,rfl,rfl,_,rfl,?_⟩
   refine dF (neq (by decide +kernel)) ?_
   refine ⟨_,rfl,u,_,0,_,rfl,rfl,hu,rfl,rfl,_,rfl,?_⟩
   refine dF (neq (by decide +kernel)) ?_
   exact ⟨lp,ln,_,rfl,U⟩
 ·clear U0 s1 s2 g1 g2 hlp hln lp ln H1 H2
  rintro σ H3 ⟨lp,ln,v3,rfl,U⟩
  rw [lx,List.take_length] at U
  have nP:(xr (es.flatMap enP)).Perm (L2.wM M):=eP.map _
  have nN:(xr (es.flatMap enN)).Perm (L2.wM N):=eN.map _
  have fin:∀ (n1:List Int) (l1:Addr) (G:Hp) (R:Nat) (Qf:V->Hp->Prop),G l1 = some (.lst (n1.map V.int))->n1 = L2.wM R->R < 64->(∀ G',zm G G'->Qf (.bl true) G')->∀ (r1:Addr) (hr1:G r1 = none) (m1:Addr) (hm1:upd G r1 (.rng 0 (R:Nat)) m1 = none),zdd K true (.ref l1) (.ref m1) (upd (upd G r1 (.rng 0 (R:Nat))) m1 (.lst ((L2.wM R).map V.int))) Qf:=fun n1 l1 G R Qf g1 e1 hR hq r1 hr1 m1 hm1=>by
   subst e1
   have t1:=zc hr1 (.rng 0 (R:Nat))
   have t2:=zc hm1 (.lst ((L2.wM R).map V.int))
   exact ⟨l1,m1,1,.lst ((L2.wM R).map Dt.int),fun _=>True,fun _=>True,rfl,rfl,by decide,.lst True.intro ((t1.trans t2) _ _ g1) (yM _),.lst True.intro za (yM _),hq _ (t1.trans t2)⟩
  refine ⟨_,rfl,lp,_,rfl,SqL.of U.ep,by rw [xC]; exact b1,fun n1 l1 hp1 hs1 hl1=>?_⟩
  have e1:=wZ (hp1.trans nP) hs1 (zaa _)
  have s4:=zc hl1 (.lst (n1.map V.int))
  have e4:upd H3 l1 (.lst (n1.map V.int)) l1 = some (.lst (n1.map V.int)):=za
  have U4:=s4 _ _ U.en
  generalize upd H3 l1 (.lst (n1.map V.int)) = H4 at s4 e4 U4 |-
  refine ⟨_,rfl,M,rfl,fun r1 hr1=>⟨r1,M,rfl,za,by omega,fun m1 hm1=>?_⟩⟩
  refine fin n1 l1 H4 M _ e4 e1 bM (fun G sG=>?_) r1 hr1 m1 hm1
  refine ⟨_,rfl,?_⟩
  refine vI ?_
  refine ⟨_,rfl,ln,_,rfl,SqL.of (sG _ _ U4),by rw [xC]; exact b2,fun n2 l2 hp2 hs2 hl2=>?_⟩
  have e2:=wZ (hp2.trans nN) hs2 (zaa _)
  have s5:=zc hl2 (.lst (n2.map V.int))
  have e5:upd G l2 (.lst (n2.map V.int)) l2 = some (.lst (n2.map V.int)):=za
  generalize upd G l2 (.lst (n2.map V.int)) = H5 at s5 e5 |-
  refine ⟨_,rfl,N,rfl,fun r2 hr2=>⟨r2,N,rfl,za,by omega,fun m2 hm2=>?_⟩⟩
  exact fin n2 l2 H5 N _ e5 e2 bN (fun G2 sG2=>q _ (U.s.trans (s4.trans (sG.trans (s5.trans sG2))))) r2 hr2 m2 hm2
end
def uI (K:Frag) (c:C5) (CF:Addr):Sp:=fun vs H Q _=>∃ (f lt lp:Addr) (ts:List Int) (ys:List V) (ps:List (Str × Int)) (rows:List Rw) (bars:List Str),vs = [.ref f,.ref lt,.ref lp]/\vm c CF H f rows bars/\yP rows bars/\H lt = some (.lst (ts.map V.int))/\H lp = some (.lst ys)/\Paired (zF K T' H 1) ys (ps.map ye)/\ts.length<=200/\ps.length<=200/\Fit rows bars ts.length (ps.map (·.1))/\∀ H',zm H H'->Q (.bl true) H'
theorem jj {α β : Type} {F : α->β->Prop} {a a':List α} {b b':List β} (h:Paired F a b) (h':Paired F a' b'):Paired F (a ++ a') (b ++ b'):=by
 induction h with
 | nil=>exact h'
 | cons x _ ih=>exact .cons x ih
section
variable {P:Program} {w:World} {K:Frag} {mg:Str->Option Value} {base:Heap} {f CF:Addr} {fd:FuncData} {c:C5}
theorem zaJ:zu ["_law_form_here","_law_things","_law_pairs","_law_j","_law_found"] ["_law_form_here","_law_things","_law_pairs"] (ze wp):=⟨rfl,rfl,rfl,by decide +kernel,rfl,by decide +kernel,by decide +kernel⟩
theorem zcm {g1 g2:Addr} {d1 d2:FuncData} (F:Fun K "_law_one_less" "_law_one_less" wp f fd) (U:js mg) (cMi:zl P w K mg base 5 "misfits" g1 d1 ["form","call"] (zbf K c CF)) (cPk:zl P w K mg base 1 "_law_packed" g2 d2 ["_law_things","_law_pairs"] (ub K)):zC P w K mg base CX0 6 f fd ["_law_form_here","_law_things","_law_pairs"] (uI K c CF):=by
 refine F.ok zaJ (fun vs H Q E h=>?_) (fun cdv A outer s H vs Q E hr h=>?_)
 ·obtain ⟨f,lt,lp,ts,ys,ps,rows,bars,rfl,_⟩:=h
  rfl
 obtain ⟨f,lt,lp,ts,ys,ps,rows,bars,rfl,hF,V1,hlt,hlp,hps,bt,bp,FT,q⟩:=h
 have hr1:ya 1 _:=hr.mono (by decide)
 have hU:=hr.units
 have hU0:=hr.units0
 refine ⟨_,zd (yE PassesOwn.never rfl (yu rfl U.range (ac (cB zB U.len PySem.boot_len (ac (pv 2) zb)) zb)) (zk (i:=3) zaJ.nd rfl (Or.inl rfl))
   (zd (zv (i:=4) zaJ.nd rfl (Or.inl rfl) (cF cMi hr (ac (pv 0) (ac (cF cPk hr1 (ac (pv 1) (ac (zr y8 (zY yj (pv 2) yp (z9 (pv 3))) (zY yj (pv 2) (z9 (zr yo (pv 3) zg)) yp)) zb))) zb))))
   (zh (zJ (PW.pt (zeV (zo zbv (cB zB U.len PySem.boot_len (ac (pv 4) zb)) zg (zx _)) (zci (PW.pt (xw (zo (OpR.or (u9 hU) (uq hU0)) (pv 4) (zM zb) (zx _)) (yZ (zo zhv (zI zQ (zI yf (pv 4) zg (fun _ _=>rfl)) zg (fun _ _=>rfl)) zq (zx _)))))))) (zh (zw wz)) zA))))
  (zd (zJ (zo (zfk hU) (pv 2) (zM zb) (zx _)) (zh (zw wz)) zA)
  (zd (zv (i:=4) zaJ.nd rfl (Or.inl rfl) (cF cMi hr (ac (pv 0) (ac (cF cPk hr1 (ac (pv 1) (ac (zr y8 (pv 2) (zM (ac (zH (ac (zI zQ (zI yf (pv 2) zg (fun _ _=>rfl)) zg (fun _ _=>rfl)) (ac zg zb))) zb))) zb))) zb))))
  (zh (zw (xb (jU hU) (pv 4) (zM (ac (zH (ac zq (ac (cB zB U.len PySem.boot_len (ac (pv 2) zb)) zb))) zb)) (zx _)))))),?_⟩
 have lys:ys.length = ps.length:=by rw [hps.length,List.length_map]
 refine yC (fun σ' H'=>∃ (v3 v4:Option V),σ' = [some (.ref f),some (.ref lt),some (.ref lp),v3,v4]/\zm H H') ?_ (fun key=>?_)
 rotate_left
 ·refine ⟨_,rfl,lp,_,rfl,.inl (SqL.of hlp),(ys.length:Nat),rfl,by omega,by omega,?_⟩
  rw [show ((ys.length:Nat):Int).toNat = ys.length by omega]
  refine xj (n:=ys.length) (fun i σ H'=>∃ (v3 v4:Option V),σ = [some (.ref f),some (.ref lt),some (.ref lp),v3,v4]/\zm H H') ⟨_,_,rfl,zm.refl _⟩ ?_ (fun σ H' h=>by obtain ⟨v3,v4,rfl,sH⟩:=h; exact key _ _ ⟨_,_,rfl,sH⟩)
  rintro i σ H1 hi ⟨v3,v4,rfl,s1⟩
  refine ⟨_,rfl,_,rfl,_,rfl,_,rfl,_,rfl,lp,_,rfl,SqL.of (s1 _ _ hlp),fun p1 hp1=>?_⟩
  rw [Int.zero_add,show xN ys none (some (i:Int)) = ys.take i from yN]
  have t1:=zc hp1 (.lst (ys.take i))
  have e1:upd H1 p1 (.lst (ys.take i)) p1 = some (.lst (ys.take i)):=za
  generalize upd H1 p1 (.lst (ys.take i)) = H2 at t1 e1 |-
  have s2:=s1.trans t1
  refine ⟨_,rfl,_,rfl,_,_,rfl,rfl,_,rfl,lp,_,rfl,SqL.of (s2 _ _ hlp),fun p2 hp2=>?_⟩
  rw [show xN ys (some ((i:Int) + 1)) none = ys.drop (i + 1) from yG (n:=i + 1)]
  have t2:=zc hp2 (.lst (ys.drop (i + 1)))
  have e2:upd H2 p2 (.lst (ys.drop (i + 1))) p2 = some (.lst (ys.drop (i + 1))):=za
  generalize upd H2 p2 (.lst (ys.drop (i + 1))) = H3 at t2 e2 |-
  refine ⟨p1,p2,_,_,rfl,rfl,t2 _ _ e1,e2,z8 (by rw [List.length_take,List.length_drop]; omega),fun p3 hp3=>?_⟩
  have t3:=zc hp3 (.lst (ys.take i ++ ys.drop (i + 1)))
  have e3:upd H3 p3 (.lst (ys.take i ++ ys.drop (i + 1))) p3 = some (.lst (ys.take i ++ ys.drop (i + 1))):=za
  generalize upd H3 p3 (.lst (ys.take i ++ ys.drop (i + 1))) = H4 at t3 e3 |-
  have s4:=s2.trans (t2.trans t3)
  have hp4:Paired (zF K T' H4 1) (ys.take i ++ ys.drop (i + 1)) ((ps.take i ++ ps.drop (i + 1)).map ye):=by
   rw [List.map_append,List.map_take,List.map_drop]
   exact jj (w6 i (yi s4 hps)) (vc (i + 1) (yi s4 hps))
  refine ⟨lt,p3,ts,_,ps.take i ++ ps.drop (i + 1),rfl,s4 _ _ hlt,e3,hp4,by omega,by rw [List.length_append,List.length_take,List.length_drop]; omega,fun lc ct H5 s5 C5' eT eP=>?_⟩
  have s05:=s4.trans s5
  refine ⟨f,lc,rows,bars,ct,rfl,hF.same s05,C5',fun lm H6 s6 hm=>?_⟩
  obtain ⟨um,nlm,elm,hum⟩:=hm
  have s06:=s05.trans s6
  have em:wB rows bars ct = zR rows bars ts.length ((ps.map (·.1)).take i ++ (ps.map (·.1)).drop (i + 1)):=by
   unfold wB zP
   rw [eT,eP,List.map_append,List.map_take,List.map_drop]
  obtain ⟨h1,h2⟩:=zej V1 FT (j:=i) (by rw [List.length_map]; omega)
  rw [<- em] at h1 h2
  generalize wB rows bars ct = ms at h1 h2 hum
  have lum:um.length = ms.length:=hum.length
  dsimp only [yg]
  refine ⟨_,rfl,lm,_,rfl,.inl (SqL.of elm),_,_,rfl,rfl,_,rfl,?_⟩
  refine dF (by show ¬ (1:Int) < (((um.map V.ref).length:Nat):Int); rw [List.length_map]; omega) ?_
  cases hum with
  | nil=>
   refine ⟨_,rfl,zz0,fun l0 hl0=>.inl ?_⟩
   have s7:=zc hl0 (.lst [])
   refine ⟨lm,l0,0,.lst [],fun _=>True,fun _=>True,rfl,rfl,by decide,.lst True.intro (s7 _ _ elm) .nil,.lst True.intro za .nil,_,rfl,?_⟩
   refine y9 ?_
   refine y9 ?_
   exact ⟨_,_,rfl,s06.trans s7⟩
  | @cons u m um ms hu hr'=>
   have hm0:=h2 m List.mem_cons_self
   refine ⟨_,rfl,zz0,fun l0 hl0=>.inr ?_⟩
   have s7:=zc hl0 (.lst [])
   refine ⟨lm,l0,_,_,rfl,rfl,s7 _ _ elm,za,by rw [List.length_map]; exact Nat.succ_ne_zero _,_,rfl,?_⟩
   refine vI ?_
   have hu7:upd H6 l0 (.lst []) u = some (.tup [.str m.1,.int (m.2:Nat)]):=s7 _ _ hu
   have elm7:=s7 _ _ elm
   generalize upd H6 l0 (.lst []) = H7 at s7 hu7 elm7 |-
   refine ⟨_,rfl,lm,_,0,.ref u,rfl,rfl,SqL.of elm7,y4 (j:=0) rfl,u,_,0,_,rfl,rfl,SqT.of hu7,rfl,rfl,_,rfl,?_⟩
   rw [hm0]
   refine y9 ?_
   exact ⟨_,_,rfl,s06.trans s7⟩
 rintro σ1 H1 ⟨v3,v4,rfl,s1⟩
 have hlp1:=s1 _ _ hlp
 refine ⟨_,rfl,zz0,fun l0 hl0=>?_⟩
 have s2:=zc hl0 (.lst [])
 refine ⟨lp,l0,_,rfl,rfl,s2 _ _ hlp1,za,_,rfl,?_⟩
 have s02:=s1.trans s2
 generalize upd H1 l0 (.lst []) = H2 at s2 s02 |-
 cases ps with
 | nil=>
  cases hps
  refine vI ?_
  exact q _ s02
 | cons pr ps=>
  cases hps with
  | @cons y _ ys _ hy hrest=>
   refine y9 ?_
   obtain ⟨b,rfl,hb⟩:=vB (hy.same s02)
   have hlp2:=s02 _ _ hlp
   refine ⟨_,rfl,_,rfl,_,rfl,_,rfl,lp,_,0,.ref b,rfl,rfl,SqL.of hlp2,y4 (j:=0) rfl,b,_,0,_,rfl,rfl,hb,rfl,zz2,fun u hu=>?_⟩
   have t3:=zc hu (.tup [.str pr.1,.int 5])
   have e3:upd H2 u (.tup [.str pr.1,.int 5]) u = some (.tup [.str pr.1,.int 5]):=za
   generalize upd H2 u (.tup [.str pr.1,.int 5]) = H3 at t3 e3 |-
   refine ⟨zz1,fun l1 hl1=>?_⟩
   have t4:=zc hl1 (.lst [.ref u])
   have e4:upd H3 l1 (.lst [.ref u]) l1 = some (.lst [.ref u]):=za
   generalize upd H3 l1 (.lst [.ref u]) = H4 at t4 e4 |-
   have s04:=s02.trans (t3.trans t4)
   refine ⟨lp,l1,_,_,rfl,rfl,s04 _ _ hlp,e4,z8 (by show (V.ref b :: ys).length + 1<=1000; omega),fun l2 hl2=>?_⟩
   have t5:=zc hl2 (.lst (.ref b :: ys ++ [.ref u]))
   have e5:upd H4 l2 (.lst (.ref b :: ys ++ [.ref u])) l2 = some (.lst (.ref b :: ys ++ [.ref u])):=za
   generalize upd H4 l2 (.lst (.ref b :: ys ++ [.ref u])) = H5 at t5 e5 |-
   have s05:=s04.trans t5
   have hp5:Paired (zF K T' H5 1) (.ref b :: ys ++ [.ref u]) ((pr :: ps ++ [(pr.1,(5:Int))]).map ye):=by
    rw [List.map_append]
    exact jj (yi s05 (.cons hy hrest)) (.cons (.tup (SqT.of ((t4.trans t5) _ _ e3)) (.cons .str (.cons .int .nil))) .nil)
   refine ⟨lt,l2,ts,_,pr :: ps ++ [(pr.1,(5:Int))],rfl,s05 _ _ hlt,e5,hp5,by omega,by rw [List.length_append,List.length_singleton]; omega,fun lc ct H6 s6 C6 eT eP=>?_⟩
   have s06:=s05.trans s6
   refine ⟨f,lc,rows,bars,ct,rfl,hF.same s06,C6,fun lm H7 s7 hm=>?_⟩
   obtain ⟨um,nlm,elm,hum⟩:=hm
   have s07:=s06.trans s7
   have em:wB rows bars ct = [(("doubled" : Str),(pr :: ps).length)]:=by
    unfold wB zP
    rw [eT,eP,List.map_append]
    have:=zeg (z:=pr.1) (zs:=ps.map (·.1)) FT
    rw [List.length_cons,List.length_map] at this
    exact this
   rw [em] at hum
   cases hum with
   | @cons u2 _ um _ hu2 hr2=>
    cases hr2
    dsimp only [yg]
    refine ⟨_,rfl,_,rfl,lp,_,rfl,.inl (SqL.of (s07 _ _ hlp)),zz2,fun u3 hu3=>?_⟩
    have t8:=zc hu3 (.tup [.str "doubled",.int ((V.ref b :: ys).length:Nat)])
    have e8:upd H7 u3 (.tup [.str "doubled",.int ((V.ref b :: ys).length:Nat)]) u3 = some (.tup [.str "doubled",.int ((V.ref b :: ys).length:Nat)]):=za
    generalize upd H7 u3 (.tup [.str "doubled",.int ((V.ref b :: ys).length:Nat)]) = H8 at t8 e8 |-
    refine ⟨zz1,fun l9 hl9=>?_⟩
    have t9:=zc hl9 (.lst [.ref u3])
    have t79:=t8.trans t9
    rw [lys] at e8
    exact ⟨lm,l9,1,.lst [.tup [.str "doubled",.int (((pr :: ps).length:Nat):Int)]],fun _=>True,fun _=>True,rfl,rfl,by decide,.lst True.intro (t79 _ _ elm) (.cons (.tup (SqT.of (t79 _ _ hu2)) (.cons .str (.cons .int .nil))) .nil),.lst True.intro za (.cons (.tup (SqT.of (t9 _ _ e8)) (.cons .str (.cons .int .nil))) .nil),q _ (s07.trans t79)⟩
end
def jK (K:Frag):Sp:=fun vs H Q _=>∃ (t la lb a:Addr) (us:List Addr) (rows:List Rw) (bars:List Str) (ct:List yt),vs = [.ref t,.ref a]/\H t = some (.tup [.ref la,.ref lb])/\H la = some (.lst (us.map V.ref))/\Paired (TAt H) us rows/\H lb = some (.lst (bars.map V.str))/\yP rows bars/\vn K H a ct/\(yb ct).length<=60/\(yq ct).length<=60/\∀ H',zm H H'->Q (.bl true) H'
theorem ziT {α : Type} {R:Addr->α->Prop} (keep : α->Bool):∀ {us:List Addr} {ms:List α},Paired R us ms->∃ us':List Addr,(((us.zip ms).filter fun p=>keep p.2).map fun p=>V.ref p.1) = us'.map V.ref/\Paired R us' (ms.filter keep)
 | _,_,.nil=>⟨[],rfl,.nil⟩
 | _,_,.cons (a:=u) (b:=r) h t=>by
  obtain ⟨us',e,p⟩:=ziT keep t
  cases hk:keep r
  ·refine ⟨us',?_,?_⟩
   ·rw [List.zip_cons_cons,List.filter_cons,if_neg (by rw [hk]; decide)]; exact e
   ·rw [List.filter_cons,if_neg (by rw [hk]; decide)]; exact p
  ·refine ⟨u :: us',?_,?_⟩
   ·rw [List.zip_cons_cons,List.filter_cons,if_pos hk,List.map_cons,e]; rfl
   ·rw [List.filter_cons,if_pos hk]; exact .cons h p
def msD (ms:List (Str × Nat)):List Dt:=ms.map fun m=>.tup [.str m.1,.int (m.2:Nat)]
theorem zdn {K:Frag} {H:Hp} {us:List Addr} {ms:List (Str × Nat)} (h:xG H us ms):Paired (zF K T' H 1) (us.map V.ref) (msD ms):=by
 induction h with
 | nil=>exact .nil
 | cons h _ ih=>exact .cons (.tup (SqT.of h) (.cons .str (.cons .int .nil))) ih
theorem ut {H H':Hp} {us:List Addr} {ms:List (Str × Nat)} (s:zm H H') (h:xG H us ms):xG H' us ms:=Paired.imp' (fun _ _ z=>s _ _ z) h
theorem zeh {rows:List Rw} {bars:List Str} {n:Nat} {zs:List Str} (l5:rows.length<=24) (lt:n<=60) (lp:zs.length<=60):(zR rows bars n zs).length<=900:=by
 unfold zR
 have h1:=uC (kvP (fpZ zs)) zs 0
 have h2:(wa rows n).length<=60:=by
  unfold wa
  split
  ·exact Nat.zero_le _
  ·rw [List.length_map,List.length_range]; omega
 have h3:=zba rows bars n (fpZ zs)
 have h4:=vF n (kvP (fpZ zs)) rows 0
 have h6:(fpZ zs).length<=zs.length:=by
  have:=jH zs 0 []
  show (fpF 0 [] zs).length<=_
  simpa using this
 simp only [List.length_append]
 omega
theorem zie {K:Frag} {ok:Addr->Prop} {H:Hp} {rows:List Rw} {M:Nat} {zs:List Str} (nd:zs.Nodup) {xs:List V} (h:Paired (zF K ok H 2) xs (zfd rows M zs)):Paired (zb4 K ok H) xs ((List.range rows.length).map (enF rows M zs)):=by
 have e:zfd rows M zs = ((List.range rows.length).map (enF rows M zs)).map enD:=by
  unfold zfd
  rw [List.map_map]
  refine List.map_congr_left fun i hi=>?_
  exact ziG (List.mem_range.mp hi) nd
 rw [e] at h
 generalize (List.range rows.length).map (enF rows M zs) = es at h
 induction es generalizing xs with
 | nil=>cases h; exact .nil
 | cons e es ih=>
  cases h with
  | cons h1 h2=>exact .cons (zhf h1) (ih h2)
section
variable {P:Program} {w:World} {K:Frag} {mg:Str->Option Value} {base:Heap} {f CF:Addr} {fd:FuncData} {c:C5}
theorem zkm:([Str.ofString "_law_number",Str.ofString "_law_entries"]:List Str).Nodup:=by decide +kernel
theorem yT:zu ["_law_told","_law_call","_law_form_here","_law_things","_law_pairs","_law_found","_law_lacking","_law_some","_law_kept","_law_numbers","_law_freed_here","_law_entries"] ["_law_told","_law_call"] (ze uN):=⟨rfl,rfl,rfl,by decide +kernel,rfl,by decide +kernel,by decide +kernel⟩
theorem zd7 {g1 g2 g3 g4 g5 g6 g7 g8 g9 g10:Addr} {d1 d2 d3 d4 d5 d6 d7 d8 d9 d10:FuncData} (F:Fun K "_law_right" "_law_right" uN f fd) (U:js mg) (cMa:zl P w K mg base 6 "_law_made" g1 d1 ["_law_told"] (zax c CF)) (cLa:zl P w K mg base 1 "laid" g2 d2 ["call"] (zav K)) (cMi:zl P w K mg base 5 "misfits" g3 d3 ["form","call"] (zbf K c CF)) (cLe:zl P w K mg base 1 "_law_left" g4 d4 ["_law_things","_law_pairs","_law_found"] (zca K)) (cPk:zl P w K mg base 1 "_law_packed" g5 d5 ["_law_things","_law_pairs"] (ub K))
  (cFr:zl P w K mg base 1 "_law_freed" g6 d6 ["_law_told","_law_numbers"] zaA) (cFi:zl P w K mg base 6 "fits" g7 d7 ["form","call"] (zce K c CF)) (cPa:zl P w K mg base 5 "paper" g8 d8 ["form","call"] (zar K c CF)) (cCn:zl P w K mg base 1 "_law_counted" g9 d9 ["_law_found","_law_many","_law_names"] (uJ K)) (cOl:zl P w K mg base 6 "_law_one_less" g10 d10 ["_law_form_here","_law_things","_law_pairs"] (uI K c CF)):zC P w K mg base CX0 7 f fd ["_law_told","_law_call"] (jK K):=by
 refine F.ok yT (fun vs H Q E h=>?_) (fun cdv A outer s H vs Q E hr h=>?_)
 ·obtain ⟨t,la,lb,a,us,rows,bars,ct,rfl,_⟩:=h
  rfl
 obtain ⟨t,la,lb,a,us,rows,bars,ct,rfl,ht,hla,hu,hlb,V1,hC,bT,bP,q⟩:=h
 have hr1:ya 1 _:=hr.mono (by decide)
 have hr5:ya 5 _:=hr.mono (by decide)
 have hU:=hr.units
 have hU0:=hr.units0
 refine ⟨_,zd (zv (i:=2) yT.nd rfl (Or.inl rfl) (cF cMa hr (ac (pv 0) zb)))
  (zd (wg (cF cLa hr1 (ac (pv 1) zb)) (yc rfl (zt (zk (i:=3) yT.nd rfl (Or.inl rfl)) (zt (zk (i:=4) yT.nd rfl (Or.inl rfl)) zV))))
  (zd (zv (i:=5) yT.nd rfl (Or.inl rfl) (cF cMi hr5 (ac (pv 2) (ac (pv 1) zb))))
  (zd (jQ (i:=6) [] ["_law_one"] [none] yT.nd rfl (Or.inl rfl) rfl ⟨rfl,rfl,rfl,rfl⟩ (yH (pv 5)) (yx 0) rfl rfl rfl
   (fun pins fp s H C=>⟨zk (i:=0) zir rfl (Or.inl rfl) (.inr rfl),y0 (zo ym (zI (r:=zh5 K) zQ (pv 0) zg (fun _ _=>rfl)) zq (zx _)),pv 0⟩))
  (zd (wg (cF cLe hr1 (ac (pv 3) (ac (pv 4) (ac (pv 5) zb)))) (yc rfl (zt (zk (i:=7) yT.nd rfl (Or.inl rfl)) (zt (zk (i:=8) yT.nd rfl (Or.inl rfl)) zV))))
  (zd (zJ (zo (u9 hU) (cF cMi hr5 (ac (pv 2) (ac (cF cPk hr1 (ac (pv 7) (ac (pv 8) zb))) zb))) (pv 6) (zx _)) (zh (zw wz)) zA)
  (zd (jQ (i:=9) [] ["_law_word","_law_number"] [none,none] yT.nd rfl (Or.inl rfl) rfl ⟨rfl,rfl,rfl,rfl⟩ (yH (pv 6)) (yw (K:=K) (n:=2) 0 1) rfl rfl rfl
   (fun pins fp s H C=>⟨yc rfl (zt (zk (i:=0) zef rfl (Or.inl rfl) (.inr rfl)) (zt (zk (i:=1) zef rfl (Or.inl rfl) (.inr rfl)) zV)),xp,pv 1⟩))
  (zd (zv (i:=10) yT.nd rfl (Or.inl rfl) (cF cMa hr (ac (cF cFr hr1 (ac (pv 0) (ac (pv 9) zb))) zb)))
  (zd (zJ (wY (xF (cF cFi hr (ac (pv 10) (ac (cF cPk hr1 (ac (pv 7) (ac (pv 8) zb))) zb))))) (zh (zw wz)) zA)
  (zd (zv (i:=11) yT.nd rfl (Or.inr rfl) (cF cPa hr5 (ac (pv 10) (ac (cF cPk hr1 (ac (pv 7) (ac (pv 8) zb))) zb))))
  (zd (zJ (zo (OpR.or (u9 hU) (uq hU0)) (xI ["_law_entries"] ["_law_number","_law_entries"] [none,some 11] rfl ⟨rfl,rfl,rfl,rfl⟩ (yH (pv 9)) (yx 0) rfl rfl rfl
   (fun pins fp s H C=>⟨zk (i:=0) zkm rfl (Or.inl rfl) (.inr rfl),y0 (zo (r:=zdd K false) (u9 hU) (zI (r:=zh6 K) yf (pv 1) (pv 0) (fun _ _=>rfl)) (zH (ac zq zb)) (zx _)),pv 0⟩)) (zM zb) (zx _)) (zh (zw wz)) zA)
  (zh (zw (zfc (cF cCn hr1 (ac (pv 11) (ac (cB zB U.len PySem.boot_len (ac (pv 7) zb)) (ac (cB zB U.len PySem.boot_len (ac (pv 8) zb)) zb)))) (ze7 (cF cOl hr (ac (pv 10) (ac (pv 7) (ac (pv 8) zb)))))))))))))))))),?_⟩
 refine ⟨_,rfl,t,la,lb,us,rows,bars,rfl,ht,hla,hu,hlb,V1,fun f1 H1 s1 _ F1=>?_⟩
 obtain ⟨⟨xs,hx,hxs⟩,lt9,lp9⟩:=id (hC.same s1)
 refine ⟨_,rfl,a,ct,xs,rfl,hx,hxs,lt9,lp9,fun p H2 s2 two=>?_⟩
 obtain ⟨l1,l2,ys,_,_,_,_,ep,el1,el2,hys⟩:=two
 refine ⟨p,_,rfl,SqT.of ep,rfl,_,_,rfl,_,_,rfl,rfl,?_⟩
 have s02:=s1.trans s2
 refine ⟨_,rfl,_,rfl,f1,a,rows,bars,ct,rfl,F1.same s2,hC.same s02,fun lf H3 s3 hm=>?_⟩
 obtain ⟨um,_,elf,hum⟩:=hm
 have s03:=s02.trans s3
 have el1:=s3 _ _ el1
 have el2:=s3 _ _ el2
 have hys:=yi s3 hys
 have F3:=(F1.same s2).same s3
 generalize hts:yb ct = ts at el1 bT
 generalize hpp:yq ct = ps at hys bP
 have lys:ys.length = ps.length:=by rw [hys.length,List.length_map]
 have em:wB rows bars ct = zR rows bars ts.length (ps.map (·.1)):=by unfold wB zP; rw [hts,hpp]
 rw [em] at hum
 generalize hzs:ps.map (·.1) = zs at hum
 have lzs:zs.length = ps.length:=by rw [<- hzs,List.length_map]
 obtain ⟨ms,hms⟩:∃ ms,ms = zR rows bars ts.length zs:=⟨_,rfl⟩
 rw [<- hms] at hum
 have lms:ms.length<=900:=by rw [hms]; exact zeh V1.l24 bT (by omega)
 have lum:um.length = ms.length:=hum.length
 clear em hx hxs lt9 lp9 ep s1 s2 F1
 dsimp only [yg]
 refine ⟨_,rfl,lf,rfl,⟨_,SqL.of elf⟩,fun Dl hDl=>?_⟩
 refine zfP (K:=K) MA1 (fun m=>decide (m.1 = ("lacking" : Str))) (fun u _=>.ref u) hDl elf hum (by omega) (fun i u m H' Nn S hu' hm' mu sH n1 s1'=>?_) (fun H4 s4 hDl4=>?_)
 ·refine ⟨_,rfl,u,_,0,_,rfl,rfl,SqT.of (sH _ _ mu),rfl,rfl,_,rfl,?_⟩
  refine ⟨fun e=>⟨_,rfl,n1 _ (zm.refl _) ?_⟩,fun e=>s1' _ (zm.refl _) ?_⟩
  ·exact decide_eq_true (V.str.inj (of_decide_eq_true e))
  ·exact decide_eq_false fun h=>of_decide_eq_false e (congrArg V.str h)
 obtain ⟨ul,eul,hul⟩:=ziT (fun m:Str × Nat=>decide (m.1 = ("lacking" : Str))) (ut s4 hum)
 rw [eul] at hDl4
 have hul:xG H4 ul (lkL ms):=hul
 have s04:=s03.trans s4
 refine ⟨_,rfl,_,rfl,_,rfl,l1,l2,lf,ts,ys,um,ms,rfl,s4 _ _ el1,s4 _ _ el2,s4 _ _ elf,ut s4 hum,by omega,by omega,lms,fun p5 l7 l8 H5 s5 ep5 el7 el8=>?_⟩
 refine ⟨p5,_,rfl,SqT.of ep5,rfl,_,_,rfl,_,_,rfl,rfl,?_⟩
 have s05:=s04.trans s5
 have hDl5:=s5 _ _ hDl4
 have hul5:=ut s5 hul
 have hk5:Paired (zF K T' H5 1) (z6 (nmL ms) ys) ((z6 (nmL ms) ps).map ye):=zbr (yi (s4.trans s5) hys)
 have F5:=F3.same (s4.trans s5)
 have e1:(z6 (ovL ms) ts).length = vU rows ts.length:=by rw [hms]; exact zeN ts
 have e2:(z6 (nmL ms) ps).map (·.1) = z6 (nmL (zR rows bars ts.length zs)) zs:=by rw [zcC,hzs,hms]
 have b1:(z6 (ovL ms) ts).length<=60:=Nat.le_trans (zbM _ _) bT
 have b2:(z6 (nmL ms) ps).length<=60:=Nat.le_trans (zbM _ _) bP
 have lk8:(z6 (nmL ms) ys).length = (z6 (nmL ms) ps).length:=by rw [hk5.length,List.length_map]
 have nd':(z6 (nmL (zR rows bars ts.length zs)) zs).Nodup:=j8
 have un':∀ z ∈ z6 (nmL (zR rows bars ts.length zs)) zs,yd rows bars (vU rows ts.length) z = none:=fun z hz=>by rw [zcY]; exact (uw.mp hz).2
 have lm':zR rows bars (vU rows ts.length) (z6 (nmL (zR rows bars ts.length zs)) zs) = lkL ms:=by rw [hms]; exact zek V1
 generalize z6 (nmL (zR rows bars ts.length zs)) zs = zs' at e2 nd' un' lm'
 have ov':=zbz (rows:=rows) (n:=ts.length)
 generalize vU rows ts.length = n' at e1 un' lm' ov'
 have lkN':lkL ms = yA n' (kvP (fpZ zs')) 0 rows:=by
  rw [<- lm']
  unfold zR
  rw [wc.mpr nd',wA.mpr ov',vo.mpr un',List.nil_append,List.nil_append,List.nil_append]
 generalize z6 (ovL ms) ts = so at e1 b1 el7
 generalize z6 (nmL ms) ys = ky at hk5 lk8 el8
 generalize z6 (nmL ms) ps = kp at hk5 lk8 e2 b2
 have lll:(lkL ms).length<=900:=Nat.le_trans (List.length_filter_le _ _) lms
 generalize lkL ms = lk at hul5 lm' lkN' lll
 clear hum lum elf hul hDl4 hDl eul ep5 el1 el2 hys hms lms hzs lzs hts hpp lys F3 s3 s4 s5 s04 s03 s02
 subst e1
 subst e2
 have nms0:∀ ct':List yt,yb ct' = so->yq ct' = kp->∀ rs:List Rw,wB rs bars ct' = zR rs bars so.length (kp.map (·.1)):=fun ct' h1 h2 rs=>by unfold wB zP; rw [h1,h2]
 refine ⟨_,rfl,_,rfl,_,rfl,l7,l8,so,ky,kp,rfl,el7,el8,hk5,by omega,by omega,fun lc ct' H6 s6 C6 eT eP=>?_⟩
 refine ⟨f1,lc,rows,bars,ct',rfl,F5.same s6,C6,fun lm H7 s7 hm=>?_⟩
 obtain ⟨um',_,elm,hum'⟩:=hm
 rw [nms0 ct' eT eP,lm'] at hum'
 have s57:=s6.trans s7
 have s07:=s05.trans s57
 refine ⟨_,rfl,lm,Dl,1,.lst (msD lk),fun _=>True,fun _=>True,rfl,rfl,by decide,.lst True.intro elm (zdn hum'),.lst True.intro (s57 _ _ hDl5) (zdn (ut s57 hul5)),_,rfl,?_⟩
 refine y9 ?_
 refine ⟨_,rfl,Dl,rfl,⟨_,SqL.of (s57 _ _ hDl5)⟩,fun Dn hDn=>?_⟩
 have hul7:=ut s57 hul5
 refine j3 (K:=K) (xs:=ul.map V.ref) lk (fun _=>true) (fun m=>V.int (m.2:Nat)) hDn (SqL.of (s57 _ _ hDl5)) (by rw [List.length_map,hul7.length]) (by rw [List.length_map,hul7.length]; omega) (fun j x y H' Nn S hx hy sH n1 s1=>?_) (fun H8 s8 hDn8=>?_)
 ·obtain ⟨u,hu',rfl⟩:=xn hx
  obtain ⟨m',hm',hmu⟩:=yv hul7 hu'
  rw [hy] at hm'
  cases hm'
  refine ⟨u,_,rfl,SqT.of (sH _ _ hmu),rfl,_,_,rfl,_,_,rfl,rfl,fun _=>?_,fun e=>Bool.noConfusion e⟩
  exact ⟨_,rfl,n1 _ (zm.refl _) rfl⟩
 have hDn8:H8 Dn = some (.lst ((lkN rows so.length (kp.map (·.1))).map fun (n:Nat)=>V.int (n:Nat))):=by
  rw [hDn8,List.filter_eq_self.mpr (fun _ _=>rfl)]
  unfold lkN
  rw [<- lkN',List.map_map]
  rfl
 have lln:(lkN rows so.length (kp.map (·.1))).length<=900:=by unfold lkN; rw [<- lkN',List.length_map]; exact lll
 have s08:=s07.trans s8
 have s58:=s57.trans s8
 dsimp only [yg]
 have hLk:∀ i ∈ lkN rows so.length (kp.map (·.1)),∀ r,rows[i]? = some r->r.k ≠ 2/\r.k ≠ 4:=fun i hi r hr=>by
  have h1:=(jA hr).mp hi
  rw [vE] at h1
  constructor
  ·intro e
   rw [e] at h1
   cases h1
  ·intro e
   rw [e] at h1
   cases h1
 refine ⟨_,rfl,_,rfl,t,la,lb,Dn,us,rows,lkN rows so.length (kp.map (·.1)),rfl,s08 _ _ ht,s08 _ _ hla,z7 s08 hu,V1.ok,V1.l24,hDn8,hLk,fun t9 la9 us9 H9 s9 et9 ela9 hu9=>?_⟩
 have s09:=s08.trans s9
 have V2:yP (xt (lkN rows so.length (kp.map (·.1))) rows) bars:=zcK V1
 refine ⟨t9,la9,lb,us9,_,bars,rfl,et9,ela9,hu9,s09 _ _ hlb,V2,fun f2 H10 s10 _ F2=>?_⟩
 have hfit:zR (xt (lkN rows so.length (kp.map (·.1))) rows) bars so.length (kp.map (·.1)) = []:=zcJ V1 nd' ov' un'
 have FT:=ziF hfit
 have hfree:∀ i ∈ lkN rows so.length (kp.map (·.1)),i < rows.length/\enF (xt (lkN rows so.length (kp.map (·.1))) rows) so.length (kp.map (·.1)) i = .free:=fun i hi=>zcI V1 hi
 have lfr:(xt (lkN rows so.length (kp.map (·.1))) rows).length = rows.length:=zaQ (jG _ _)
 have s510:=s58.trans (s9.trans s10)
 have hDn10:=(s9.trans s10) _ _ hDn8
 generalize xt (lkN rows so.length (kp.map (·.1))) rows = rs at V2 F2 hfit FT hfree lfr
 generalize lkN rows so.length (kp.map (·.1)) = L at hDn10 lln hfree
 have el7:=s510 _ _ el7
 have el8:=s510 _ _ el8
 have hk10:=yi s510 hk5
 have s010:=s09.trans s10
 clear hu9 ela9 et9 hLk hDn8 hDn lkN' lm' hul7 hul5 hDl5 hum' elm C6 eT eP F5 hk5 s57 s58 s6 s7 s8 s9 s10 s510 s05 s07 s08 s09 nd' un' ov'
 dsimp only [yg]
 refine ⟨_,rfl,_,rfl,_,rfl,l7,l8,so,ky,kp,rfl,el7,el8,hk10,by omega,by omega,fun lc2 ct2 H11 s11 C11 eT2 eP2=>?_⟩
 refine ⟨f2,lc2,rs,bars,ct2,rfl,F2.same s11,C11,fun H12 s12=>⟨_,rfl,?_⟩⟩
 refine j9 (by rw [nms0 ct2 eT2 eP2,hfit]; rfl) ?_
 have s1012:=s11.trans s12
 refine ⟨_,rfl,_,rfl,_,rfl,l7,l8,so,ky,kp,rfl,s1012 _ _ el7,s1012 _ _ el8,yi s1012 hk10,by omega,by omega,fun lc3 ct3 H13 s13 C13 eT3 eP3=>?_⟩
 have s1013:=s1012.trans s13
 refine ⟨f2,lc3,rs,bars,ct3,rfl,F2.same s1013,C13,by rw [nms0 ct3 eT3 eP3]; exact hfit,fun le xs H14 s14 _ hle hxs=>?_⟩
 have hxs:Paired (zb4 K (fun a=>a ≠ le/\H13 a = none) H14) xs ((List.range rs.length).map (enF rs so.length (kp.map (·.1)))):=by
  have:zP ct3 = kp.map (·.1):=by unfold zP; rw [eP3]
  rw [eT3,this] at hxs
  exact zie FT.nd hxs
 have s1014:=s1013.trans s14
 dsimp only [yg]
 refine ⟨_,rfl,Dn,rfl,⟨_,SqL.of (s1014 _ _ hDn10)⟩,fun Df hDf=>?_⟩
 refine j3 (K:=K) (xs:=L.map fun (n:Nat)=>V.int (n:Nat)) L (fun _=>false) (fun n=>V.int (n:Nat)) hDf (SqL.of (s1014 _ _ hDn10)) (by rw [List.length_map]) (by rw [List.length_map]; omega) (fun j x y H' Nn S hx hy sH n1 ss1=>?_) (fun H15 s15 hDf15=>?_)
 ·rw [List.getElem?_map,hy] at hx
  have hx:V.int (y:Nat) = x:=Option.some.inj hx
  subst hx
  obtain ⟨hyl,hyf⟩:=hfree y (List.mem_of_getElem? hy)
  have lx:xs.length = rs.length:=by rw [hxs.length,List.length_map,List.length_range]
  obtain ⟨x,hx'⟩:∃ x,xs[y]? = some x:=⟨_,List.getElem?_eq_getElem (by omega)⟩
  obtain ⟨e,he,hEx⟩:=Paired.get hxs hx'
  rw [List.getElem?_map,List.getElem?_range (by omega)] at he
  have he:enF rs so.length (kp.map (·.1)) y = e:=Option.some.inj he
  rw [hyf] at he
  subst he
  obtain ⟨u,rfl,hue⟩:=hEx
  refine ⟨_,rfl,_,rfl,le,_,_,.ref u,rfl,rfl,SqL.of (sH _ _ hle),y4 hx',zz1,fun u2 hu2=>?_⟩
  have t1:=zc hu2 (.tup [.str "free"])
  refine ⟨u,u2,1,.tup [.str "free"],fun _=>True,fun _=>True,rfl,rfl,by decide,.tup ((sH.trans t1).sqT hue) (.cons .str .nil),.tup (SqT.of za) (.cons .str .nil),_,rfl,?_⟩
  exact ⟨fun e=>Bool.noConfusion e,fun _=>ss1 _ t1 rfl⟩
 rw [List.filter_eq_nil_iff.mpr (fun _ _=>by decide)] at hDf15
 refine ⟨zz0,fun l0 hl0=>.inl ?_⟩
 have s16:=zc hl0 (.lst [])
 refine ⟨Df,l0,0,.lst [],fun _=>True,fun _=>True,rfl,rfl,by decide,.lst True.intro (s16 _ _ hDf15) .nil,.lst True.intro za .nil,_,rfl,?_⟩
 refine y9 ?_
 generalize upd H15 l0 (.lst []) = H16 at s16 |-
 have s1416:=s15.trans s16
 have s1016:=s1014.trans s1416
 refine ⟨_,rfl,_,rfl,l7,_,rfl,.inl (SqL.of (s1016 _ _ el7)),_,rfl,l8,_,rfl,.inl (SqL.of (s1016 _ _ el8)),?_⟩
 refine ⟨le,xs,_,_,so.length,kp.length,(by rw [List.length_map,lk8]; rfl),s1416 _ _ hle,Paired.imp' (fun _ _ z=>zb4.same z s1416) hxs,?_,?_,?_,by omega,by omega,fun H17 s17=>⟨_,rfl,?_⟩⟩
 ·intro e he
  obtain ⟨i,_,rfl⟩:=List.mem_map.mp he
  exact ziJ
 ·rw [List.flatMap_map]
  exact ziV V2 FT
 ·rw [List.flatMap_map]
  have:=ziW V2 FT
  rw [List.length_map] at this
  exact this
 refine vI ?_
 have s1017:=s1016.trans s17
 exact ⟨_,rfl,_,rfl,_,rfl,f2,l7,l8,so,ky,kp,rs,bars,rfl,F2.same s1017,V2,s1017 _ _ el7,s1017 _ _ el8,yi s1017 hk10,by omega,by omega,FT,fun H18 s18=>q _ (s010.trans (s1017.trans s18))⟩
end
def zau (K:Frag):Sp:=fun vs H Q _=>∃ (a:Addr) (ns:List Int),vs = [.ref a]/\SqL K H a (ns.map V.int)/\ns.length<=63/\(∀ m ∈ ns,Builtin.Int.intBits m<=1048576)/\∀ H',Q (.bl true) H'
section
variable {P:Program} {w:World} {K:Frag} {mg:Str->Option Value} {base:Heap} {f CF:Addr} {fd:FuncData} {c:C5}
theorem vN:zu ["_law_script","_law_told","_law_cell_here","_law_things","_law_pairs","_law_pool_here","_law_k"] ["_law_script"] (ze zaM):=⟨rfl,rfl,rfl,by decide +kernel,rfl,by decide +kernel,by decide +kernel⟩
theorem zin {f1 f2 f3 f4 f5 f6 f7 f8:Addr} {e1 e2 e3 e4 e5 e6 e7 e8:FuncData} (F:Fun K "law" "law" zaM f fd) (U:js mg) (cC:zl P w K mg base 1 "_law_cell" f1 e1 ["_law_script","_law_at"] (zaC K)) (cPo:zl P w K mg base 1 "_law_pool" f2 e2 ["_law_cell_here"] (zb8 K)) (cFo:zl P w K mg base 2 "_law_form" f3 e3 ["_law_script","_law_at","_law_pool_here","_law_most"] (zcd K)) (cAn:zl P w K mg base 3 "_law_any" f4 e4 ["_law_cell_here","_law_more","_law_pool_here","_law_span"] (zeM K))
  (cI:zl P w K mg base 2 "_law_items" f5 e5 ["_law_things","_law_pairs","_law_cell_here"] (zay K)) (cAF:zl P w K mg base 3 "_law_any_form" f6 e6 ["_law_cell_here"] zaD) (cAC:zl P w K mg base 3 "_law_any_call" f7 e7 ["_law_cell_here","_law_told"] (zaE K)) (cR:zl P w K mg base 7 "_law_right" f8 e8 ["_law_told","_law_call"] (jK K)) :
  zC P w K mg base CX0 8 f fd ["_law_script"] (zau K):=by
 refine F.ok vN (fun vs H Q E h=>?_) (fun cdv A outer s H vs Q E hr h=>?_)
 ·obtain ⟨a,ns,rfl,_⟩:=h
  rfl
 obtain ⟨sa,ns,rfl,hS,h63,hbit,q⟩:=h
 have hr1:ya 1 _:=hr.mono (by decide)
 have hr2:ya 2 _:=hr.mono (by decide)
 have hr3:ya 3 _:=hr.mono (by decide)
 refine ⟨_,zd (zJ (zo ym (zr z5 (cF cC hr1 (ac (pv 0) (ac zg zb))) zg) zg (zx _))
   (zd (zv (i:=1) vN.nd rfl (Or.inl rfl) (cF cAF hr3 (ac (cF cC hr1 (ac (pv 0) (ac zg zb))) zb)))
   (zd (yE PassesOwn.never rfl (yH (zr y8 (zM (ac (cF cC hr1 (ac (pv 0) (ac zg zb))) zb)) (zY yj (pv 0) (z9 zg) (z9 zg)))) (zk (i:=2) vN.nd rfl (Or.inl rfl))
    (zd (wg (cF cAC hr3 (ac (zr xq (pv 2) zg) (ac (pv 1) zb))) (yc rfl (zt (zk (i:=3) vN.nd rfl (Or.inl rfl)) (zt (zk (i:=4) vN.nd rfl (Or.inl rfl)) zV))))
    (zh (zJ (wY (xF (cF cR hr (ac (pv 1) (ac (cF cI hr2 (ac (pv 3) (ac (pv 4) (ac (zr z5 (pv 2) zg) zb)))) zb))))) (zh (zw wz)) zA))))
   (zh (zw wz)))) zA)
  (zd (zv (i:=5) vN.nd rfl (Or.inl rfl) (cF cPo hr1 (ac (zr xq (cF cC hr1 (ac (pv 0) (ac zg zb))) zg) zb)))
  (zd (zv (i:=1) vN.nd rfl (Or.inl rfl) (cF cFo hr2 (ac (pv 0) (ac zg (ac (pv 5) (ac zg zb))))))
  (zd (yE PassesOwn.never rfl (zd0 rfl U.range (ac zg (ac (cB (zeC rfl) U.max boot_max (ac zg (ac (cB (zai rfl) U.min boot_min (ac (cB zB U.len PySem.boot_len (ac (pv 0) zb)) (ac zg zb))) zb))) (ac zg zb)))) (zk (i:=6) vN.nd rfl (Or.inl rfl))
    (zd (wg (cF cAn hr3 (ac (cF cC hr1 (ac (pv 0) (ac (pv 6) zb))) (ac (cF cC hr1 (ac (pv 0) (ac (zr yo (pv 6) zg) zb))) (ac (pv 5) (ac zg zb))))) (yc rfl (zt (zk (i:=3) vN.nd rfl (Or.inl rfl)) (zt (zk (i:=4) vN.nd rfl (Or.inl rfl)) zV))))
    (zh (zJ (wY (xF (cF cR hr (ac (pv 1) (ac (cF cI hr2 (ac (pv 3) (ac (pv 4) (ac (zr xq (cF cC hr1 (ac (pv 0) (ac (pv 6) zb))) zg) zb)))) zb))))) (zh (zw wz)) zA))))
  (zh (zw wz))))),?_⟩
 have bz:∀ {n:Int},(n ∈ ns\/n = 0)->Builtin.Int.intBits n<=1048600:=fun {n} h=>by
  rcases h with h | h
  ·exact Nat.le_trans (hbit n h) (by decide)
  ·rw [h]; decide
 refine ⟨_,rfl,sa,ns,3,rfl,hS,h63,fun c3 H1 s1 _=>?_⟩
 refine ⟨_,_,rfl,rfl,zp2,rfl,_,rfl,?_⟩
 refine qa (fun _=>?_) (fun _=>?_)
 ·refine ⟨_,rfl,sa,ns,0,rfl,s1.seq hS,h63,fun c0 H2 s2 _=>?_⟩
  refine ⟨c0,rfl,fun t la lb us rows bars H3 s3 ht hla hu hlb V1=>?_⟩
  have s03:=s1.trans (s2.trans s3)
  dsimp only [yg]
  refine ⟨_,rfl,sa,ns,4,rfl,s03.seq hS,h63,fun c4 H4 s4 _=>?_⟩
  refine ⟨zz1,fun l1 hl1=>?_⟩
  have s5:=zc hl1 (.lst [.int c4])
  have e5:upd H4 l1 (.lst [.int c4]) l1 = some (.lst [.int c4]):=za
  generalize upd H4 l1 (.lst [.int c4]) = H5 at s5 e5 |-
  have s35:=s4.trans s5
  refine ⟨_,rfl,_,rfl,_,rfl,sa,_,rfl,(s03.trans s35).seq hS,fun p hp=>?_⟩
  obtain ⟨ms,ems,lms⟩:∃ ms:List Int,xN (ns.map V.int) (some 5) (some 6) = ms.map V.int/\ms.length<=63:=by
   unfold xN
   refine ⟨(ns.drop _).take _,by rw [List.map_take,List.map_drop],?_⟩
   rw [List.length_take,List.length_drop]
   omega
  rw [ems]
  have s6:=zc hp (.lst (ms.map V.int))
  have e6:upd H5 p (.lst (ms.map V.int)) p = some (.lst (ms.map V.int)):=za
  generalize upd H5 p (.lst (ms.map V.int)) = H6 at s6 e6 |-
  refine ⟨l1,p,_,_,rfl,rfl,s6 _ _ e5,e6,z8 (by rw [List.length_map]; show 1 + ms.length<=1000; omega),fun l3 hl3=>?_⟩
  have s7:=zc hl3 (.lst ([.int c4] ++ ms.map V.int))
  have e7:upd H6 l3 (.lst ([.int c4] ++ ms.map V.int)) l3 = some (.lst ((c4 :: ms).map V.int)):=za
  generalize upd H6 l3 (.lst ([.int c4] ++ ms.map V.int)) = H7 at s7 e7 |-
  have s37:=s35.trans (s6.trans s7)
  refine ⟨l3,rfl,⟨_,SqL.of e7⟩,vi (K:=K) (a:=l3) (xs:=(c4 :: ms).map V.int) (fun j σ H'=>∃ (v2 v3 v4:Option V),σ = [some (.ref sa),some (.ref t),v2,v3,v4,none,none]/\zm H7 H') ⟨_,_,_,rfl,zm.refl _⟩ (fun j σ H' _ ⟨_,_,_,_,sH⟩=>SqL.of (sH _ _ e7)) ?_ ?_⟩
  ·rintro j x σ H8 hx ⟨v2,v3,v4,rfl,s8⟩
   obtain ⟨m,hm,rfl⟩:∃ m,(c4 :: ms)[j]? = some m/\x = V.int m:=by
    rw [List.getElem?_map] at hx
    cases e:(c4 :: ms)[j]? with
    | none=>rw [e] at hx; cases hx
    | some m=>rw [e] at hx; exact ⟨m,rfl,(Option.some.inj hx).symm⟩
   have s38:=s37.trans s8
   refine ⟨_,rfl,_,_,rfl,rfl,⟨by decide,by decide⟩,_,rfl,m / 64,t,la,lb,us,rows,bars,rfl,s38 _ _ ht,s38 _ _ hla,z7 s38 hu,s38 _ _ hlb,V1.l24,V1.l60,fun p9 m1 m2 ts ys ps H9 s9 ep em1 em2 hys bT bP=>?_⟩
   refine ⟨p9,_,rfl,SqT.of ep,rfl,_,_,rfl,_,_,rfl,rfl,?_⟩
   refine ⟨_,rfl,_,rfl,_,rfl,_,rfl,_,_,rfl,rfl,(by show (0:Int) < 64; decide),m1,m2,m % 64,ys,ts,ps,rfl,em1,em2,hys,by omega,by omega,fun lc zs H10 s10 _ hlc hzs=>?_⟩
   obtain ⟨cT,cP⟩:=jn (m % 64) ts ps
   have hzs:Paired (zF K T' H10 3) zs ((wk (m % 64) ts ps).map xD):=Paired.imp' (fun _ _ z=>vp (fun _ _ _=>True.intro) z) hzs
   generalize wk (m % 64) ts ps = ct at cT cP hzs
   have s310:=s38.trans (s9.trans s10)
   refine ⟨t,la,lb,lc,us,rows,bars,ct,rfl,s310 _ _ ht,s310 _ _ hla,z7 s310 hu,s310 _ _ hlb,V1,⟨⟨zs,SqL.of hlc,hzs⟩,by rw [cT]; omega,by rw [cP]; omega⟩,by rw [cT]; exact bT,by rw [cP]; exact bP,fun H11 s11=>⟨_,rfl,?_⟩⟩
   refine y9 ?_
   exact ⟨_,_,_,rfl,s8.trans (s9.trans (s10.trans s11))⟩
  ·rintro σ H8 ⟨v2,v3,v4,rfl,s8⟩
   exact q _
 ·refine ⟨_,rfl,sa,ns,3,rfl,s1.seq hS,h63,fun c3' H2 s2 _=>?_⟩
  refine ⟨_,_,rfl,rfl,⟨by decide,by decide⟩,c3' / 2,rfl,fun pa H3 s3 np hpa=>?_⟩
  generalize c3' / 2 = cp at hpa
  have hpa:H3 pa = some (.lst ((xH cp).map V.str)):=hpa
  have s03:=s1.trans (s2.trans s3)
  dsimp only [yg]
  refine ⟨_,rfl,_,rfl,sa,pa,ns,0,12,cp,rfl,s03.seq hS,h63,by decide,by decide,hpa,fun t la lb us rows bars H4 s4 ht hla hu hlb V1=>?_⟩
  have s04:=s03.trans s4
  have hpa4:=s4 _ _ hpa
  obtain ⟨N,hN,hN14⟩:∃ N:Nat,(if (if (14:Int) < ((ns.map V.int).length:Int) then 14 else ((ns.map V.int).length:Int)) > 6 then (if (14:Int) < ((ns.map V.int).length:Int) then 14 else ((ns.map V.int).length:Int)) else 6) = (N:Int)/\N<=14:=by
   by_cases h1:(14:Int) < ((ns.map V.int).length:Int)
   ·rw [if_pos h1,if_pos (by decide)]; exact ⟨14,rfl,by omega⟩
   ·rw [if_neg h1]
    by_cases h2:((ns.map V.int).length:Int) > 6
    ·rw [if_pos h2]; exact ⟨(ns.map V.int).length,rfl,by omega⟩
    ·rw [if_neg h2]; exact ⟨6,rfl,by omega⟩
  refine ⟨_,rfl,sa,_,rfl,.inl (s04.seq hS),_,_,rfl,_,_,rfl,4,N,2,(by rw [<- hN]; rfl),by decide,by omega,by decide,by decide,?_⟩
  refine zcM (n:=rsz 4 N 2) (fun i σ H'=>∃ (v3 v4 v6:Option V),σ = [some (.ref sa),some (.ref t),none,v3,v4,some (.ref pa),v6]/\zm H4 H') ⟨_,_,_,rfl,zm.refl _⟩ ?_ ?_
  rotate_left
  ·rintro σ H' ⟨v3,v4,v6,rfl,sH⟩
   exact q _
  rintro i σ H5 hi ⟨v3,v4,v6,rfl,s5⟩
  have ek:((4:Nat):Int) + (i:Int) * ((2:Nat):Int) = ((4 + i * 2:Nat):Int):=by omega
  rw [ek]
  generalize 4 + i * 2 = kk
  have s05:=s04.trans s5
  refine ⟨_,rfl,_,rfl,sa,ns,kk,rfl,s05.seq hS,h63,fun cell H6 s6 hc6=>?_⟩
  have s06:=s05.trans s6
  refine ⟨_,rfl,_,rfl,_,_,rfl,rfl,sa,ns,kk + 1,rfl,s06.seq hS,h63,fun more H7 s7 hm7=>?_⟩
  have s47:=s5.trans (s6.trans s7)
  refine ⟨_,rfl,cell,more,pa,12,xH cp,rfl,s47 _ _ hpa4,by decide,by rw [vA]; decide,bz hc6,bz hm7,fun p H8 s8 two=>?_⟩
  obtain ⟨l1,l2,ys,_,_,_,_,ep,el1,el2,hys⟩:=two
  have lT:=zgh cell
  have lP:=zgj more (xH cp) 12
  generalize zgi cell = ts at el1 lT
  generalize zeF more (xH cp) 12 = ps at hys lP
  refine ⟨p,_,rfl,SqT.of ep,rfl,_,_,rfl,_,_,rfl,rfl,?_⟩
  have s48:=s47.trans s8
  have s08:=s04.trans s48
  refine ⟨_,rfl,_,rfl,_,rfl,_,rfl,_,rfl,sa,ns,kk,rfl,s08.seq hS,h63,fun cell2 H9 s9 _=>?_⟩
  refine ⟨_,_,rfl,rfl,⟨by decide,by decide⟩,l1,l2,cell2 / 9,ys,ts,ps,rfl,s9 _ _ el1,s9 _ _ el2,yi s9 hys,by omega,by omega,fun lc zs H10 s10 _ hlc hzs=>?_⟩
  obtain ⟨cT,cP⟩:=jn (cell2 / 9) ts ps
  have hzs:Paired (zF K T' H10 3) zs ((wk (cell2 / 9) ts ps).map xD):=Paired.imp' (fun _ _ z=>vp (fun _ _ _=>True.intro) z) hzs
  generalize wk (cell2 / 9) ts ps = ct at cT cP hzs
  have s410:=s48.trans (s9.trans s10)
  refine ⟨t,la,lb,lc,us,rows,bars,ct,rfl,s410 _ _ ht,s410 _ _ hla,z7 s410 hu,s410 _ _ hlb,V1,⟨⟨zs,SqL.of hlc,hzs⟩,by rw [cT]; omega,by rw [cP]; omega⟩,by rw [cT]; omega,by rw [cP]; omega,fun H11 s11=>⟨_,rfl,?_⟩⟩
  refine y9 ?_
  exact ⟨_,_,_,rfl,s410.trans s11⟩
end
end K25
def PySem.W.Fast.tw7930699084732153020:Unit:=()
def PySem.W.Fast.tw7297111055988650655:Unit:=()
def PySem.W.Fast.tw1574387931588701975:Unit:=()
def PySem.W.Fast.tw3358483304621322392:Unit:=()
def PySem.W.Fast.tw299312629646088962:Unit:=()
def PySem.W.Fast.tw15094736882758774979:Unit:=()
def PySem.W.Fast.tw5391960776690597337:Unit:=()
def PySem.W.Fast.tw4372808474498710255:Unit:=()
def PySem.W.Fast.tw7106960561693981267:Unit:=()
def PySem.W.Fast.tw16074663842246501832:Unit:=()
def PySem.W.Fast.tw5917955038557433850:Unit:=()
def PySem.W.Fast.tw15510549955142764000:Unit:=()
def PySem.W.Fast.tw6417512888500199845:Unit:=()
def PySem.W.Fast.tw11408155701336053068:Unit:=()
def PySem.W.Fast.tw13270451798582240482:Unit:=()
def PySem.W.Fast.tw1623723906367298695:Unit:=()
def PySem.W.Fast.tw5100194596554238027:Unit:=()
def PySem.W.Fast.tw15236476272824182884:Unit:=()
def PySem.W.Fast.tw14831806009930872528:Unit:=()
def PySem.W.Fast.tw15670592919174231738:Unit:=()
def PySem.W.Fast.tw11170705969859818591:Unit:=()
def PySem.W.Fast.tw16924216199573012673:Unit:=()
def PySem.W.Fast.tw16541369999242565796:Unit:=()
def PySem.W.Fast.tw10148422586766358984:Unit:=()
def PySem.W.Fast.tw16932260360342793650:Unit:=()
def PySem.W.Fast.tw6598977587871829009:Unit:=()
def PySem.W.Fast.tw4427990329655463719:Unit:=()
def PySem.W.Fast.tw1365186911534277609:Unit:=()
def PySem.W.Fast.tw1319748368637870397:Unit:=()
def PySem.W.Fast.tw902434084005356166:Unit:=()
def PySem.W.Fast.tw4747824517867281947:Unit:=()
def PySem.W.Fast.tw14805681973532058581:Unit:=()
def PySem.W.Fast.tw11990136450171475868:Unit:=()
def PySem.W.Fast.tw6106718559909981471:Unit:=()
def PySem.W.Fast.tw16852940165191828200:Unit:=()
def PySem.W.Fast.tw1359465304423531259:Unit:=()
def PySem.W.Fast.tw16855609719347036477:Unit:=()
def PySem.W.Fast.tw10065820484525649825:Unit:=()
def PySem.W.Fast.tw65765490839168868:Unit:=()
def PySem.W.Fast.tw418020552787386360:Unit:=()
def PySem.W.Fast.tw1012710391019829288:Unit:=()
def PySem.W.Fast.tw15581839780605244486:Unit:=()
def PySem.W.Fast.tw18057302998572196984:Unit:=()
def PySem.W.Fast.tw14204984582145829103:Unit:=()
def PySem.W.Fast.tw13823124180072742412:Unit:=()
def PySem.W.Fast.tw1905734910529075691:Unit:=()
def PySem.W.Fast.tw6984029690764110628:Unit:=()
def PySem.W.Fast.tw4431219817464122734:Unit:=()
def PySem.W.Fast.tw11040050318855587446:Unit:=()
def PySem.W.Fast.tw9039551456584609151:Unit:=()
def PySem.W.Fast.tw13976865311603419078:Unit:=()
def PySem.W.Fast.tw11013959088707267202:Unit:=()
def PySem.W.Fast.tw14590074867153462560:Unit:=()
def PySem.W.Fast.tw14401229602486041454:Unit:=()
def PySem.W.Fast.tw17726971778684757610:Unit:=()
def PySem.W.Fast.tw13889200084819636998:Unit:=()
def PySem.W.Fast.tw11811319585314652256:Unit:=()
def PySem.W.Fast.tw15207281380064074476:Unit:=()
def PySem.W.Fast.tw10661631329573714744:Unit:=()
def PySem.W.Fast.tw16733060170545065393:Unit:=()
def PySem.W.Fast.tw7479705133418953503:Unit:=()
def PySem.W.Fast.tw989413090574084358:Unit:=()
def PySem.W.Fast.tw6440787365350507453:Unit:=()
def PySem.W.Fast.tw9845852650375790763:Unit:=()
def PySem.W.Fast.tw13262671854820835662:Unit:=()
def PySem.W.Fast.tw16764884364777114314:Unit:=()
def PySem.W.Fast.tw6657053963957467622:Unit:=()
def PySem.W.Fast.tw5954444834594220522:Unit:=()
def PySem.W.Fast.tw16973432597871696547:Unit:=()
def PySem.W.Fast.tw17730946742504515852:Unit:=()
def PySem.W.Fast.tw17905376662440341489:Unit:=()
def PySem.W.Fast.tw13387180805436167914:Unit:=()
def PySem.W.Fast.tw13231190708001550450:Unit:=()
namespace K25
open PySem L2 PyProof.Rows
theorem zif {K:Frag} {h:Heap} {mg:Str->Option Value} {x:Str} {C:Addr} {bm:List Value} {nid:String} (X:K.In h) (G:h.Ns mainGlobals mg) (e:nsIn K mainGlobals x = some (some (.ref C))) (q:excIn K C bm nid = true):OwnCls x C bm nid mg h:=by
 have b:mg x = some (.ref C):=mg_of X G e
 refine ⟨b,?_⟩
 simp only [excIn] at q
 split at q
 case h_2=>cases q
 rename_i dd cd sl ho
 obtain ⟨nm,bs,mro,ns,qn,hd,sn,sub,ab,col,del⟩:=cd
 obtain ⟨l⟩:=sl
 dsimp only at q
 split at q
 case h_2=>cases q
 rename_i C' m k0 k1 k2 k3 n k5
 simp only [Bool.and_eq_true,beq_iff_eq,Bool.not_eq_true'] at q
 obtain ⟨⟨⟨⟨⟨rfl,rfl⟩,rfl⟩,ht⟩,hok⟩,hni⟩:=q
 exact ⟨m,ns,nm,qn,bs,hd,sn,sub,ab,col,dd,k0,k1,k2,k3,k5,_,X _ _ ho,.of_isNs (PySem.W.isNs_of_in X hok),PySem.W.nsMap_none_of_in X hok hni,PySem.W.tail_of_in X ht⟩
theorem zg7 {w:World} {K:Frag} {Gr:Addr} {es:Array DictEntry} {n:Nat} {t0 t1 t2 t3 t4:Tok} (hl:K.lookup Gr = some ⟨.type "dict",none,.dict es n,#[]⟩) (hk:KeysLit w.params es.toList) (h0:nsIn K Gr "seat" = some (some (.int 0 t0))) (h1:nsIn K Gr "both" = some (some (.int 0 t1))) (h2:nsIn K Gr "tail" = some (some (.int 1 t2)))
  (h3:nsIn K Gr "tag" = some (some (.int 2 t3))) (h4:nsIn K Gr "bag" = some (some (.int 3 t4))):ziR w K Gr zha:=by
 refine ⟨⟨es,n,hl,hk⟩,fun x v h=>?_⟩
 unfold zha at h
 by_cases e0:x = "seat"
 ·subst e0; rw [List.lookup_cons_self] at h; cases h; exact ⟨_,h0,_,rfl⟩
 rw [List.lookup_cons,beq_eq_false_iff_ne.mpr e0] at h
 by_cases e1:x = "both"
 ·subst e1; rw [List.lookup_cons_self] at h; cases h; exact ⟨_,h1,_,rfl⟩
 rw [List.lookup_cons,beq_eq_false_iff_ne.mpr e1] at h
 by_cases e2:x = "tail"
 ·subst e2; rw [List.lookup_cons_self] at h; cases h; exact ⟨_,h2,_,rfl⟩
 rw [List.lookup_cons,beq_eq_false_iff_ne.mpr e2] at h
 by_cases e3:x = "tag"
 ·subst e3; rw [List.lookup_cons_self] at h; cases h; exact ⟨_,h3,_,rfl⟩
 rw [List.lookup_cons,beq_eq_false_iff_ne.mpr e3] at h
 by_cases e4:x = "bag"
 ·subst e4; rw [List.lookup_cons_self] at h; cases h; exact ⟨_,h4,_,rfl⟩
 rw [List.lookup_cons,beq_eq_false_iff_ne.mpr e4] at h
 cases h
theorem zku {l:PySem.W.OpenLaw} {w:World} {K:Frag} {h:Heap} {mg:Str->Option Value} {fa D C0 C1 C2 C3 C4 FM f1 f2 f3 f4 f5 f6 f7 f8 f9 f10 f11 f12 f13 f14 f15 f16 f17 f18 f19 f20 f21 f22 f23 f24 f25 f26 f27 f28 f29 f30 f31 f32 f33 f34 f35 f36 f37 f38 f39 f40 f41 f42 f43 f44 f45 f46 f47 f48 f49 f50 f51 f52 f53 f54 f55 f56 f57 f58 T8 T9 T11 T13:Addr} (X:K.In h) (G:h.Ns mainGlobals mg) (hfa:mg "law" = some (.ref fa))
  {od1 an1 od2 an2 od3 an3 od4 an4 od5 an5 od6 an6 od7 an7 od8 an8 od9 an9 od10 an10 od11 an11 od12 an12 od13 an13 od14 an14 od15 an15 od16 an16 od17 an17 od18 an18 od19 an19 od20 an20 od21 an21 od22 an22 od23 an23 od24 an24 od25 an25 od26 an26 od27 an27 od28 an28 od29 an29 od30 an30 od31 an31 od32 an32 od33 an33 od34 an34 od35 an35 od36 an36 od37 an37 od38 an38 od39 an39 od40 an40 od41 an41 od42 an42 od43 an43 od44 an44 od45 an45 od46 an46 od47 an47 od48 an48 od49 an49 od50 an50 od51 an51 od52 an52 od53 an53 od54 an54 od55 an55 od56 an56 od57 an57 od58 an58 odT8 odT9 odT11 odT13:Option Addr} {sl1 sl2 sl3 sl4 sl5 sl6 sl7 sl8 sl9 sl10 sl11 sl12 sl13 sl14 sl15 sl16 sl17 sl18 sl19 sl20 sl21 sl22 sl23 sl24 sl25 sl26 sl27 sl28 sl29 sl30 sl31 sl32 sl33 sl34 sl35 sl36 sl37 sl38 sl39 sl40 sl41 sl42 sl43 sl44 sl45 sl46 sl47 sl48 sl49 sl50 sl51 sl52 sl53 sl54 sl55 sl56 sl57 sl58 slT8 slT9 slT11 slT13:Array (Option Value)} {oc1 kV1 dc1 pm1 cd1 ct1 oc2 kV2 dc2 pm2 cd2 ct2 oc3 kV3 dc3 pm3 cd3 ct3 oc4 kV4 dc4 pm4 cd4 ct4 oc5 kV5 dc5 pm5 cd5 ct5 oc6 kV6 dc6 pm6 cd6 ct6 oc7 kV7 dc7 pm7 cd7 ct7 oc8 kV8 dc8 pm8 cd8 ct8 oc9 kV9 dc9 pm9 cd9 ct9 oc10 kV10 dc10 pm10 cd10 ct10 oc11 kV11 dc11 pm11 cd11 ct11 oc12 kV12 dc12 pm12 cd12 ct12 oc13 kV13 dc13 pm13 cd13 ct13 oc14 kV14 dc14 pm14 cd14 ct14 oc15 kV15 dc15 pm15 cd15 ct15 oc16 kV16 dc16 pm16 cd16 ct16 oc17 kV17 dc17 pm17 cd17 ct17 oc18 kV18 dc18 pm18 cd18 ct18 oc19 kV19 dc19 pm19 cd19 ct19 oc20 kV20 dc20 pm20 cd20 ct20 oc21 kV21 dc21 pm21 cd21 ct21 oc22 kV22 dc22 pm22 cd22 ct22 oc23 kV23 dc23 pm23 cd23 ct23 oc24 kV24 dc24 pm24 cd24 ct24 oc25 kV25 dc25 pm25 cd25 ct25 oc26 kV26 dc26 pm26 cd26 ct26 oc27 kV27 dc27 pm27 cd27 ct27 oc28 kV28 dc28 pm28 cd28 ct28 oc29 kV29 dc29 pm29 cd29 ct29 oc30 kV30 dc30 pm30 cd30 ct30 oc31 kV31 dc31 pm31 cd31 ct31 oc32 kV32 dc32 pm32 cd32 ct32 oc33 kV33 dc33 pm33 cd33 ct33 oc34 kV34 dc34 pm34 cd34 ct34 oc35 kV35 dc35 pm35 cd35 ct35 oc36 kV36 dc36 pm36 cd36 ct36 oc37 kV37 dc37 pm37 cd37 ct37 oc38 kV38 dc38 pm38 cd38 ct38 oc39 kV39 dc39 pm39 cd39 ct39 oc40 kV40 dc40 pm40 cd40 ct40 oc41 kV41 dc41 pm41 cd41 ct41 oc42 kV42 dc42 pm42 cd42 ct42 oc43 kV43 dc43 pm43 cd43 ct43 oc44 kV44 dc44 pm44 cd44 ct44 oc45 kV45 dc45 pm45 cd45 ct45 oc46 kV46 dc46 pm46 cd46 ct46 oc47 kV47 dc47 pm47 cd47 ct47 oc48 kV48 dc48 pm48 cd48 ct48 oc49 kV49 dc49 pm49 cd49 ct49 oc50 kV50 dc50 pm50 cd50 ct50 oc51 kV51 dc51 pm51 cd51 ct51 oc52 kV52 dc52 pm52 cd52 ct52 oc53 kV53 dc53 pm53 cd53 ct53 oc54 kV54 dc54 pm54 cd54 ct54 oc55 kV55 dc55 pm55 cd55 ct55 oc56 kV56 dc56 pm56 cd56 ct56 oc57 kV57 dc57 pm57 cd57 ct57 oc58 kV58 dc58 pm58 cd58 ct58 ocT8 ocT9 ocT11 ocT13:Value}
  {nT8 nT9 nT11 nT13:Nat}
  {E0 tP tB tO sg Gr:Addr} {tL tN tMP tMB ktP0 ktP1 ktB0 ktB1 ktO0 ktO1 ktO2 ksg0 ksg1 kG0 kG1 kG2 kG3 kG4:Tok} {odtP odtB odtO odsg:Option Addr} {ntP ntB ntO nsg nG:Nat} {sltP sltB sltO slsg:Array (Option Value)} {esG:Array DictEntry}
  (aD:nsIn K mainGlobals "Parameter" = some (some (.ref D))) (pgD:plainGet K D Str.empty = true) (hdD:hasDictIn K D = true) (poD:plainOver K D = true) (saD:findIn K (.ref D) "__setattr__" = some (some (.builtin "object.__setattr__"))) (mkD:makesIn K D = true) (kcD:keepIn K (.ref D) = true)
  (aC0:nsIn K mainGlobals "Seat" = some (some (.ref C0))) (pgC0:plainGet K C0 Str.empty = true) (hdC0:hasDictIn K C0 = true) (poC0:plainOver K C0 = true) (saC0:findIn K (.ref C0) "__setattr__" = some (some (.builtin "object.__setattr__"))) (mkC0:makesIn K C0 = true) (kcC0:keepIn K (.ref C0) = true)
  (nC0_word:findIn K (.ref C0) "word" = some none)
  (nC0_name:findIn K (.ref C0) "name" = some none)
  (nC0_may_lack:findIn K (.ref C0) "may_lack" = some none)
  (aC1:nsIn K mainGlobals "Both" = some (some (.ref C1))) (pgC1:plainGet K C1 Str.empty = true) (hdC1:hasDictIn K C1 = true) (poC1:plainOver K C1 = true) (saC1:findIn K (.ref C1) "__setattr__" = some (some (.builtin "object.__setattr__"))) (mkC1:makesIn K C1 = true) (kcC1:keepIn K (.ref C1) = true)
  (nC1_word:findIn K (.ref C1) "word" = some none)
  (nC1_name:findIn K (.ref C1) "name" = some none)
  (nC1_may_lack:findIn K (.ref C1) "may_lack" = some none)
  (aC2:nsIn K mainGlobals "Tail" = some (some (.ref C2))) (pgC2:plainGet K C2 Str.empty = true) (hdC2:hasDictIn K C2 = true) (poC2:plainOver K C2 = true) (saC2:findIn K (.ref C2) "__setattr__" = some (some (.builtin "object.__setattr__"))) (mkC2:makesIn K C2 = true) (kcC2:keepIn K (.ref C2) = true)
  (nC2_word:findIn K (.ref C2) "word" = some none)
  (nC2_name:findIn K (.ref C2) "name" = some none)
  (nC2_may_lack:findIn K (.ref C2) "may_lack" = some none)
  (aC3:nsIn K mainGlobals "Tag" = some (some (.ref C3))) (pgC3:plainGet K C3 Str.empty = true) (hdC3:hasDictIn K C3 = true) (poC3:plainOver K C3 = true) (saC3:findIn K (.ref C3) "__setattr__" = some (some (.builtin "object.__setattr__"))) (mkC3:makesIn K C3 = true) (kcC3:keepIn K (.ref C3) = true)
  (nC3_word:findIn K (.ref C3) "word" = some none)
  (nC3_name:findIn K (.ref C3) "name" = some none)
  (nC3_may_lack:findIn K (.ref C3) "may_lack" = some none)
  (aC4:nsIn K mainGlobals "Bag" = some (some (.ref C4))) (pgC4:plainGet K C4 Str.empty = true) (hdC4:hasDictIn K C4 = true) (poC4:plainOver K C4 = true) (saC4:findIn K (.ref C4) "__setattr__" = some (some (.builtin "object.__setattr__"))) (mkC4:makesIn K C4 = true) (kcC4:keepIn K (.ref C4) = true)
  (nC4_word:findIn K (.ref C4) "word" = some none)
  (nC4_name:findIn K (.ref C4) "name" = some none)
  (nC4_may_lack:findIn K (.ref C4) "may_lack" = some none)
  (aFM:nsIn K mainGlobals "Form" = some (some (.ref FM))) (pgFM:plainGet K FM Str.empty = true) (hdFM:hasDictIn K FM = true) (poFM:plainOver K FM = true) (saFM:findIn K (.ref FM) "__setattr__" = some (some (.builtin "object.__setattr__"))) (mkFM:makesIn K FM = true) (kcFM:keepIn K (.ref FM) = true)
  (nFM_row:findIn K (.ref FM) "row" = some none)
  (nFM_bar_names:findIn K (.ref FM) "bar_names" = some none)
  (nFM_place_count:findIn K (.ref FM) "place_count" = some none)
  (nFM_tail_number:findIn K (.ref FM) "tail_number" = some none)
  (nFM_bag_number:findIn K (.ref FM) "bag_number" = some none)
  (nFM_doors:findIn K (.ref FM) "doors" = some none)
  (a1:nsIn K mainGlobals "is_name" = some (some (.ref f1)))
  (l1:K.lookup f1 = some ⟨oc1,od1,.func (fnOf "is_name" "is_name" (zp sIs) (zn sIs) (ze sIs) .none kV1 dc1 pm1 an1 cd1 ct1),sl1⟩) (c1:codeIn K cd1 "is_name" = true) (k1:keepIn K (.ref f1) = true)
  (a2:findIn K (.ref D) "__init__" = some (some (.ref f2))) (i2:isFn K (.ref f2) = true)
  (l2:K.lookup f2 = some ⟨oc2,od2,.func (fnOf "__init__" "Parameter.__init__" (zp uR) (zn uR) (ze uR) .none kV2 dc2 pm2 an2 cd2 ct2),sl2⟩) (c2:codeIn K cd2 "Parameter.__init__" = true) (k2:keepIn K (.ref f2) = true)
  (a3:findIn K (.ref D) "free" = some (some (.ref f3))) (i3:isFn K (.ref f3) = true)
  (l3:K.lookup f3 = some ⟨oc3,od3,.func (fnOf "free" "Parameter.free" (zp qM) (zn qM) (ze qM) .none kV3 dc3 pm3 an3 cd3 ct3),sl3⟩) (c3:codeIn K cd3 "Parameter.free" = true) (k3:keepIn K (.ref f3) = true)
  (a4:findIn K (.ref D) "by_place" = some (some (.ref f4))) (i4:isFn K (.ref f4) = true)
  (l4:K.lookup f4 = some ⟨oc4,od4,.func (fnOf "by_place" "Parameter.by_place" (zp wv) (zn wv) (ze wv) .none kV4 dc4 pm4 an4 cd4 ct4),sl4⟩) (c4:codeIn K cd4 "Parameter.by_place" = true) (k4:keepIn K (.ref f4) = true)
  (a5:findIn K (.ref D) "by_name" = some (some (.ref f5))) (i5:isFn K (.ref f5) = true)
  (l5:K.lookup f5 = some ⟨oc5,od5,.func (fnOf "by_name" "Parameter.by_name" (zp vz) (zn vz) (ze vz) .none kV5 dc5 pm5 an5 cd5 ct5),sl5⟩) (c5:codeIn K cd5 "Parameter.by_name" = true) (k5:keepIn K (.ref f5) = true)
  (a6:findIn K (.ref D) "takes_one" = some (some (.ref f6))) (i6:isFn K (.ref f6) = true)
  (l6:K.lookup f6 = some ⟨oc6,od6,.func (fnOf "takes_one" "Parameter.takes_one" (zp zaL) (zn zaL) (ze zaL) .none kV6 dc6 pm6 an6 cd6 ct6),sl6⟩) (c6:codeIn K cd6 "Parameter.takes_one" = true) (k6:keepIn K (.ref f6) = true)
  (a7:findIn K (.ref D) "told" = some (some (.ref f7))) (i7:isFn K (.ref f7) = true)
  (l7:K.lookup f7 = some ⟨oc7,od7,.func (fnOf "told" "Parameter.told" (zp zdb) (zn zdb) (ze zdb) .none kV7 dc7 pm7 an7 cd7 ct7),sl7⟩) (c7:codeIn K cd7 "Parameter.told" = true) (k7:keepIn K (.ref f7) = true)
  (a8:findIn K (.ref C0) "__init__" = some (some (.ref f8))) (i8:isFn K (.ref f8) = true)
  (l8:K.lookup f8 = some ⟨oc8,od8,.func (fnOf "__init__" "Seat.__init__" (zp qE) (zn qE) (ze qE) (.ref T8) kV8 dc8 pm8 an8 cd8 ct8),sl8⟩) (c8:codeIn K cd8 "Seat.__init__" = true) (k8:keepIn K (.ref f8) = true)
  (t8:K.lookup T8 = some ⟨ocT8,odT8,.seq #[Value.bool false] nT8,slT8⟩)
  (a9:findIn K (.ref C1) "__init__" = some (some (.ref f9))) (i9:isFn K (.ref f9) = true)
  (l9:K.lookup f9 = some ⟨oc9,od9,.func (fnOf "__init__" "Both.__init__" (zp qU) (zn qU) (ze qU) (.ref T9) kV9 dc9 pm9 an9 cd9 ct9),sl9⟩) (c9:codeIn K cd9 "Both.__init__" = true) (k9:keepIn K (.ref f9) = true)
  (t9:K.lookup T9 = some ⟨ocT9,odT9,.seq #[Value.bool false] nT9,slT9⟩)
  (a10:findIn K (.ref C2) "__init__" = some (some (.ref f10))) (i10:isFn K (.ref f10) = true)
  (l10:K.lookup f10 = some ⟨oc10,od10,.func (fnOf "__init__" "Tail.__init__" (zp qD) (zn qD) (ze qD) .none kV10 dc10 pm10 an10 cd10 ct10),sl10⟩) (c10:codeIn K cd10 "Tail.__init__" = true) (k10:keepIn K (.ref f10) = true)
  (a11:findIn K (.ref C3) "__init__" = some (some (.ref f11))) (i11:isFn K (.ref f11) = true)
  (l11:K.lookup f11 = some ⟨oc11,od11,.func (fnOf "__init__" "Tag.__init__" (zp zdR) (zn zdR) (ze zdR) (.ref T11) kV11 dc11 pm11 an11 cd11 ct11),sl11⟩) (c11:codeIn K cd11 "Tag.__init__" = true) (k11:keepIn K (.ref f11) = true)
  (t11:K.lookup T11 = some ⟨ocT11,odT11,.seq #[Value.bool false] nT11,slT11⟩)
  (a12:findIn K (.ref C4) "__init__" = some (some (.ref f12))) (i12:isFn K (.ref f12) = true)
  (l12:K.lookup f12 = some ⟨oc12,od12,.func (fnOf "__init__" "Bag.__init__" (zp zdV) (zn zdV) (ze zdV) .none kV12 dc12 pm12 an12 cd12 ct12),sl12⟩) (c12:codeIn K cd12 "Bag.__init__" = true) (k12:keepIn K (.ref f12) = true)
  (a13:findIn K (.ref FM) "__init__" = some (some (.ref f13))) (i13:isFn K (.ref f13) = true)
  (l13:K.lookup f13 = some ⟨oc13,od13,.func (fnOf "__init__" "Form.__init__" (zp uY) (zn uY) (ze uY) (.ref T13) kV13 dc13 pm13 an13 cd13 ct13),sl13⟩) (c13:codeIn K cd13 "Form.__init__" = true) (k13:keepIn K (.ref f13) = true)
  (t13:K.lookup T13 = some ⟨ocT13,odT13,.seq #[Value.none] nT13,slT13⟩)
  (a14:findIn K (.ref FM) "keep" = some (some (.ref f14))) (i14:isFn K (.ref f14) = true)
  (l14:K.lookup f14 = some ⟨oc14,od14,.func (fnOf "keep" "Form.keep" (zp qL) (zn qL) (ze qL) .none kV14 dc14 pm14 an14 cd14 ct14),sl14⟩) (c14:codeIn K cd14 "Form.keep" = true) (k14:keepIn K (.ref f14) = true)
  (a15:findIn K (.ref FM) "parameters" = some (some (.ref f15))) (i15:isFn K (.ref f15) = true)
  (l15:K.lookup f15 = some ⟨oc15,od15,.func (fnOf "parameters" "Form.parameters" (zp uX) (zn uX) (ze uX) .none kV15 dc15 pm15 an15 cd15 ct15),sl15⟩) (c15:codeIn K cd15 "Form.parameters" = true) (k15:keepIn K (.ref f15) = true)
  (a16:findIn K (.ref FM) "bars" = some (some (.ref f16))) (i16:isFn K (.ref f16) = true)
  (l16:K.lookup f16 = some ⟨oc16,od16,.func (fnOf "bars" "Form.bars" (zp uZ) (zn uZ) (ze uZ) .none kV16 dc16 pm16 an16 cd16 ct16),sl16⟩) (c16:codeIn K cd16 "Form.bars" = true) (k16:keepIn K (.ref f16) = true)
  (a17:findIn K (.ref FM) "places" = some (some (.ref f17))) (i17:isFn K (.ref f17) = true)
  (l17:K.lookup f17 = some ⟨oc17,od17,.func (fnOf "places" "Form.places" (zp wt) (zn wt) (ze wt) .none kV17 dc17 pm17 an17 cd17 ct17),sl17⟩) (c17:codeIn K cd17 "Form.places" = true) (k17:keepIn K (.ref f17) = true)
  (a18:findIn K (.ref FM) "tail" = some (some (.ref f18))) (i18:isFn K (.ref f18) = true)
  (l18:K.lookup f18 = some ⟨oc18,od18,.func (fnOf "tail" "Form.tail" (zp uW) (zn uW) (ze uW) .none kV18 dc18 pm18 an18 cd18 ct18),sl18⟩) (c18:codeIn K cd18 "Form.tail" = true) (k18:keepIn K (.ref f18) = true)
  (a19:findIn K (.ref FM) "bag" = some (some (.ref f19))) (i19:isFn K (.ref f19) = true)
  (l19:K.lookup f19 = some ⟨oc19,od19,.func (fnOf "bag" "Form.bag" (zp qR) (zn qR) (ze qR) .none kV19 dc19 pm19 an19 cd19 ct19),sl19⟩) (c19:codeIn K cd19 "Form.bag" = true) (k19:keepIn K (.ref f19) = true)
  (a20:findIn K (.ref FM) "number_of" = some (some (.ref f20))) (i20:isFn K (.ref f20) = true)
  (l20:K.lookup f20 = some ⟨oc20,od20,.func (fnOf "number_of" "Form.number_of" (zp qQ) (zn qQ) (ze qQ) .none kV20 dc20 pm20 an20 cd20 ct20),sl20⟩) (c20:codeIn K cd20 "Form.number_of" = true) (k20:keepIn K (.ref f20) = true)
  (a21:nsIn K mainGlobals "parameter_of" = some (some (.ref f21)))
  (l21:K.lookup f21 = some ⟨oc21,od21,.func (fnOf "parameter_of" "parameter_of" (zp zdS) (zn zdS) (ze zdS) .none kV21 dc21 pm21 an21 cd21 ct21),sl21⟩) (c21:codeIn K cd21 "parameter_of" = true) (k21:keepIn K (.ref f21) = true)
  (a22:nsIn K mainGlobals "refuse_too_many" = some (some (.ref f22)))
  (l22:K.lookup f22 = some ⟨oc22,od22,.func (fnOf "refuse_too_many" "refuse_too_many" (zp uO) (zn uO) (ze uO) .none kV22 dc22 pm22 an22 cd22 ct22),sl22⟩) (c22:codeIn K cd22 "refuse_too_many" = true) (k22:keepIn K (.ref f22) = true)
  (a23:nsIn K mainGlobals "refuse_bad_order" = some (some (.ref f23)))
  (l23:K.lookup f23 = some ⟨oc23,od23,.func (fnOf "refuse_bad_order" "refuse_bad_order" (zp vt) (zn vt) (ze vt) .none kV23 dc23 pm23 an23 cd23 ct23),sl23⟩) (c23:codeIn K cd23 "refuse_bad_order" = true) (k23:keepIn K (.ref f23) = true)
  (a24:nsIn K mainGlobals "refuse_bars_without_name" = some (some (.ref f24)))
  (l24:K.lookup f24 = some ⟨oc24,od24,.func (fnOf "refuse_bars_without_name" "refuse_bars_without_name" (zp uP) (zn uP) (ze uP) .none kV24 dc24 pm24 an24 cd24 ct24),sl24⟩) (c24:codeIn K cd24 "refuse_bars_without_name" = true) (k24:keepIn K (.ref f24) = true)
  (a25:nsIn K mainGlobals "refuse_twice" = some (some (.ref f25)))
  (l25:K.lookup f25 = some ⟨oc25,od25,.func (fnOf "refuse_twice" "refuse_twice" (zp vq) (zn vq) (ze vq) .none kV25 dc25 pm25 an25 cd25 ct25),sl25⟩) (c25:codeIn K cd25 "refuse_twice" = true) (k25:keepIn K (.ref f25) = true)
  (a26:nsIn K mainGlobals "number_of_word" = some (some (.ref f26)))
  (l26:K.lookup f26 = some ⟨oc26,od26,.func (fnOf "number_of_word" "number_of_word" (zp qH) (zn qH) (ze qH) .none kV26 dc26 pm26 an26 cd26 ct26),sl26⟩) (c26:codeIn K cd26 "number_of_word" = true) (k26:keepIn K (.ref f26) = true)
  (a27:nsIn K mainGlobals "laid" = some (some (.ref f27)))
  (l27:K.lookup f27 = some ⟨oc27,od27,.func (fnOf "laid" "laid" (zp qJ) (zn qJ) (ze qJ) .none kV27 dc27 pm27 an27 cd27 ct27),sl27⟩) (c27:codeIn K cd27 "laid" = true) (k27:keepIn K (.ref f27) = true)
  (a28:nsIn K mainGlobals "misfits" = some (some (.ref f28)))
  (l28:K.lookup f28 = some ⟨oc28,od28,.func (fnOf "misfits" "misfits" (zp wq) (zn wq) (ze wq) .none kV28 dc28 pm28 an28 cd28 ct28),sl28⟩) (c28:codeIn K cd28 "misfits" = true) (k28:keepIn K (.ref f28) = true)
  (a29:nsIn K mainGlobals "fits" = some (some (.ref f29)))
  (l29:K.lookup f29 = some ⟨oc29,od29,.func (fnOf "fits" "fits" (zp qP) (zn qP) (ze qP) .none kV29 dc29 pm29 an29 cd29 ct29),sl29⟩) (c29:codeIn K cd29 "fits" = true) (k29:keepIn K (.ref f29) = true)
  (a30:nsIn K mainGlobals "shape" = some (some (.ref f30)))
  (l30:K.lookup f30 = some ⟨oc30,od30,.func (fnOf "shape" "shape" (zp uM) (zn uM) (ze uM) .none kV30 dc30 pm30 an30 cd30 ct30),sl30⟩) (c30:codeIn K cd30 "shape" = true) (k30:keepIn K (.ref f30) = true)
  (a31:nsIn K mainGlobals "first_numbers" = some (some (.ref f31)))
  (l31:K.lookup f31 = some ⟨oc31,od31,.func (fnOf "first_numbers" "first_numbers" (zp vy) (zn vy) (ze vy) .none kV31 dc31 pm31 an31 cd31 ct31),sl31⟩) (c31:codeIn K cd31 "first_numbers" = true) (k31:keepIn K (.ref f31) = true)
  (a32:nsIn K mainGlobals "misfits_of" = some (some (.ref f32)))
  (l32:K.lookup f32 = some ⟨oc32,od32,.func (fnOf "misfits_of" "misfits_of" (zp zdU) (zn zdU) (ze zdU) .none kV32 dc32 pm32 an32 cd32 ct32),sl32⟩) (c32:codeIn K cd32 "misfits_of" = true) (k32:keepIn K (.ref f32) = true)
  (a33:nsIn K mainGlobals "overs" = some (some (.ref f33)))
  (l33:K.lookup f33 = some ⟨oc33,od33,.func (fnOf "overs" "overs" (zp uS) (zn uS) (ze uS) .none kV33 dc33 pm33 an33 cd33 ct33),sl33⟩) (c33:codeIn K cd33 "overs" = true) (k33:keepIn K (.ref f33) = true)
  (a34:nsIn K mainGlobals "unwelcomes" = some (some (.ref f34)))
  (l34:K.lookup f34 = some ⟨oc34,od34,.func (fnOf "unwelcomes" "unwelcomes" (zp zdQ) (zn zdQ) (ze zdQ) .none kV34 dc34 pm34 an34 cd34 ct34),sl34⟩) (c34:codeIn K cd34 "unwelcomes" = true) (k34:keepIn K (.ref f34) = true)
  (a35:nsIn K mainGlobals "lackings" = some (some (.ref f35)))
  (l35:K.lookup f35 = some ⟨oc35,od35,.func (fnOf "lackings" "lackings" (zp qK) (zn qK) (ze qK) .none kV35 dc35 pm35 an35 cd35 ct35),sl35⟩) (c35:codeIn K cd35 "lackings" = true) (k35:keepIn K (.ref f35) = true)
  (a36:nsIn K mainGlobals "one_entry" = some (some (.ref f36)))
  (l36:K.lookup f36 = some ⟨oc36,od36,.func (fnOf "one_entry" "one_entry" (zp qG) (zn qG) (ze qG) .none kV36 dc36 pm36 an36 cd36 ct36),sl36⟩) (c36:codeIn K cd36 "one_entry" = true) (k36:keepIn K (.ref f36) = true)
  (a37:nsIn K mainGlobals "refuse" = some (some (.ref f37)))
  (l37:K.lookup f37 = some ⟨oc37,od37,.func (fnOf "refuse" "refuse" (zp jw) (zn jw) (ze jw) .none kV37 dc37 pm37 an37 cd37 ct37),sl37⟩) (c37:codeIn K cd37 "refuse" = true) (k37:keepIn K (.ref f37) = true)
  (a38:nsIn K mainGlobals "entry" = some (some (.ref f38)))
  (l38:K.lookup f38 = some ⟨oc38,od38,.func (fnOf "entry" "entry" (zp u0) (zn u0) (ze u0) .none kV38 dc38 pm38 an38 cd38 ct38),sl38⟩) (c38:codeIn K cd38 "entry" = true) (k38:keepIn K (.ref f38) = true)
  (a39:nsIn K mainGlobals "paper" = some (some (.ref f39)))
  (l39:K.lookup f39 = some ⟨oc39,od39,.func (fnOf "paper" "paper" (zp uQ) (zn uQ) (ze uQ) .none kV39 dc39 pm39 an39 cd39 ct39),sl39⟩) (c39:codeIn K cd39 "paper" = true) (k39:keepIn K (.ref f39) = true)
  (a40:nsIn K mainGlobals "_law_cell" = some (some (.ref f40)))
  (l40:K.lookup f40 = some ⟨oc40,od40,.func (fnOf "_law_cell" "_law_cell" (zp qT) (zn qT) (ze qT) .none kV40 dc40 pm40 an40 cd40 ct40),sl40⟩) (c40:codeIn K cd40 "_law_cell" = true) (k40:keepIn K (.ref f40) = true)
  (a41:nsIn K mainGlobals "_law_mix" = some (some (.ref f41)))
  (l41:K.lookup f41 = some ⟨oc41,od41,.func (fnOf "_law_mix" "_law_mix" (zp zdT) (zn zdT) (ze zdT) .none kV41 dc41 pm41 an41 cd41 ct41),sl41⟩) (c41:codeIn K cd41 "_law_mix" = true) (k41:keepIn K (.ref f41) = true)
  (a42:nsIn K mainGlobals "_law_pool" = some (some (.ref f42)))
  (l42:K.lookup f42 = some ⟨oc42,od42,.func (fnOf "_law_pool" "_law_pool" (zp qF) (zn qF) (ze qF) .none kV42 dc42 pm42 an42 cd42 ct42),sl42⟩) (c42:codeIn K cd42 "_law_pool" = true) (k42:keepIn K (.ref f42) = true)
  (a43:nsIn K mainGlobals "_law_form" = some (some (.ref f43)))
  (l43:K.lookup f43 = some ⟨oc43,od43,.func (fnOf "_law_form" "_law_form" (zp qO) (zn qO) (ze qO) .none kV43 dc43 pm43 an43 cd43 ct43),sl43⟩) (c43:codeIn K cd43 "_law_form" = true) (k43:keepIn K (.ref f43) = true)
  (a44:nsIn K mainGlobals "_law_made" = some (some (.ref f44)))
  (l44:K.lookup f44 = some ⟨oc44,od44,.func (fnOf "_law_made" "_law_made" (zp uT) (zn uT) (ze uT) .none kV44 dc44 pm44 an44 cd44 ct44),sl44⟩) (c44:codeIn K cd44 "_law_made" = true) (k44:keepIn K (.ref f44) = true)
  (a45:nsIn K mainGlobals "_law_thing" = some (some (.ref f45)))
  (l45:K.lookup f45 = some ⟨oc45,od45,.func (fnOf "_law_thing" "_law_thing" (zp uL) (zn uL) (ze uL) .none kV45 dc45 pm45 an45 cd45 ct45),sl45⟩) (c45:codeIn K cd45 "_law_thing" = true) (k45:keepIn K (.ref f45) = true)
  (a46:nsIn K mainGlobals "_law_items" = some (some (.ref f46)))
  (l46:K.lookup f46 = some ⟨oc46,od46,.func (fnOf "_law_items" "_law_items" (zp uU) (zn uU) (ze uU) .none kV46 dc46 pm46 an46 cd46 ct46),sl46⟩) (c46:codeIn K cd46 "_law_items" = true) (k46:keepIn K (.ref f46) = true)
  (a47:nsIn K mainGlobals "_law_any" = some (some (.ref f47)))
  (l47:K.lookup f47 = some ⟨oc47,od47,.func (fnOf "_law_any" "_law_any" (zp zdW) (zn zdW) (ze zdW) .none kV47 dc47 pm47 an47 cd47 ct47),sl47⟩) (c47:codeIn K cd47 "_law_any" = true) (k47:keepIn K (.ref f47) = true)
  (a48:nsIn K mainGlobals "_law_digit" = some (some (.ref f48)))
  (l48:K.lookup f48 = some ⟨oc48,od48,.func (fnOf "_law_digit" "_law_digit" (zp u5) (zn u5) (ze u5) .none kV48 dc48 pm48 an48 cd48 ct48),sl48⟩) (c48:codeIn K cd48 "_law_digit" = true) (k48:keepIn K (.ref f48) = true)
  (a49:nsIn K mainGlobals "_law_any_name" = some (some (.ref f49)))
  (l49:K.lookup f49 = some ⟨oc49,od49,.func (fnOf "_law_any_name" "_law_any_name" (zp ww) (zn ww) (ze ww) .none kV49 dc49 pm49 an49 cd49 ct49),sl49⟩) (c49:codeIn K cd49 "_law_any_name" = true) (k49:keepIn K (.ref f49) = true)
  (a50:nsIn K mainGlobals "_law_any_form" = some (some (.ref f50)))
  (l50:K.lookup f50 = some ⟨oc50,od50,.func (fnOf "_law_any_form" "_law_any_form" (zp wx) (zn wx) (ze wx) .none kV50 dc50 pm50 an50 cd50 ct50),sl50⟩) (c50:codeIn K cd50 "_law_any_form" = true) (k50:keepIn K (.ref f50) = true)
  (a51:nsIn K mainGlobals "_law_any_call" = some (some (.ref f51)))
  (l51:K.lookup f51 = some ⟨oc51,od51,.func (fnOf "_law_any_call" "_law_any_call" (zp wy) (zn wy) (ze wy) .none kV51 dc51 pm51 an51 cd51 ct51),sl51⟩) (c51:codeIn K cd51 "_law_any_call" = true) (k51:keepIn K (.ref f51) = true)
  (a52:nsIn K mainGlobals "_law_packed" = some (some (.ref f52)))
  (l52:K.lookup f52 = some ⟨oc52,od52,.func (fnOf "_law_packed" "_law_packed" (zp vw) (zn vw) (ze vw) .none kV52 dc52 pm52 an52 cd52 ct52),sl52⟩) (c52:codeIn K cd52 "_law_packed" = true) (k52:keepIn K (.ref f52) = true)
  (a53:nsIn K mainGlobals "_law_left" = some (some (.ref f53)))
  (l53:K.lookup f53 = some ⟨oc53,od53,.func (fnOf "_law_left" "_law_left" (zp qI) (zn qI) (ze qI) .none kV53 dc53 pm53 an53 cd53 ct53),sl53⟩) (c53:codeIn K cd53 "_law_left" = true) (k53:keepIn K (.ref f53) = true)
  (a54:nsIn K mainGlobals "_law_freed" = some (some (.ref f54)))
  (l54:K.lookup f54 = some ⟨oc54,od54,.func (fnOf "_law_freed" "_law_freed" (zp uV) (zn uV) (ze uV) .none kV54 dc54 pm54 an54 cd54 ct54),sl54⟩) (c54:codeIn K cd54 "_law_freed" = true) (k54:keepIn K (.ref f54) = true)
  (a55:nsIn K mainGlobals "_law_counted" = some (some (.ref f55)))
  (l55:K.lookup f55 = some ⟨oc55,od55,.func (fnOf "_law_counted" "_law_counted" (zp wu) (zn wu) (ze wu) .none kV55 dc55 pm55 an55 cd55 ct55),sl55⟩) (c55:codeIn K cd55 "_law_counted" = true) (k55:keepIn K (.ref f55) = true)
  (a56:nsIn K mainGlobals "_law_one_less" = some (some (.ref f56)))
  (l56:K.lookup f56 = some ⟨oc56,od56,.func (fnOf "_law_one_less" "_law_one_less" (zp wp) (zn wp) (ze wp) .none kV56 dc56 pm56 an56 cd56 ct56),sl56⟩) (c56:codeIn K cd56 "_law_one_less" = true) (k56:keepIn K (.ref f56) = true)
  (a57:nsIn K mainGlobals "_law_right" = some (some (.ref f57)))
  (l57:K.lookup f57 = some ⟨oc57,od57,.func (fnOf "_law_right" "_law_right" (zp uN) (zn uN) (ze uN) .none kV57 dc57 pm57 an57 cd57 ct57),sl57⟩) (c57:codeIn K cd57 "_law_right" = true) (k57:keepIn K (.ref f57) = true)
  (a58:nsIn K mainGlobals "law" = some (some (.ref f58)))
  (l58:K.lookup f58 = some ⟨oc58,od58,.func (fnOf "law" "law" (zp zaM) (zn zaM) (ze zaM) .none kV58 dc58 pm58 an58 cd58 ct58),sl58⟩) (c58:codeIn K cd58 "law" = true) (k58:keepIn K (.ref f58) = true)
  (zisinstance:nsIn K mainGlobals "isinstance" = some none)
  (zstr:nsIn K mainGlobals "str" = some none)
  (zbool:nsIn K mainGlobals "bool" = some none)
  (zlen:nsIn K mainGlobals "len" = some none)
  (zall:nsIn K mainGlobals "all" = some none)
  (zrange:nsIn K mainGlobals "range" = some none)
  (zlist:nsIn K mainGlobals "list" = some none)
  (zenumerate:nsIn K mainGlobals "enumerate" = some none)
  (zset:nsIn K mainGlobals "set" = some none)
  (zmin:nsIn K mainGlobals "min" = some none)
  (zmax:nsIn K mainGlobals "max" = some none)
  (zint:nsIn K mainGlobals "int" = some none)
  (ztuple:nsIn K mainGlobals "tuple" = some none)
  (zsorted:nsIn K mainGlobals "sorted" = some none)
  (gL:nsIn K mainGlobals "LETTERS" = some (some (.str letters tL)))
  (gN:nsIn K mainGlobals "LONGEST" = some (some (.int 8 tN)))
  (gMP:nsIn K mainGlobals "MOST_PARAMETERS" = some (some (.int 24 tMP)))
  (gMB:nsIn K mainGlobals "MOST_BARS" = some (some (.int 60 tMB)))
  (ytP:nsIn K mainGlobals "BY_PLACE" = some (some (.ref tP)))
  (utP:K.lookup tP = some ⟨.type "tuple",odtP,.seq #[.str "seat" ktP0,.str "both" ktP1] ntP,sltP⟩)
  (ytB:nsIn K mainGlobals "BY_NAME" = some (some (.ref tB)))
  (utB:K.lookup tB = some ⟨.type "tuple",odtB,.seq #[.str "both" ktB0,.str "tag" ktB1] ntB,sltB⟩)
  (ytO:nsIn K mainGlobals "OF_ONE_THING" = some (some (.ref tO)))
  (utO:K.lookup tO = some ⟨.type "tuple",odtO,.seq #[.str "seat" ktO0,.str "both" ktO1,.str "tag" ktO2] ntO,sltO⟩)
  (ysg:nsIn K mainGlobals "SINGLE_GROUPS" = some (some (.ref sg)))
  (usg:K.lookup sg = some ⟨.type "tuple",odsg,.seq #[.int 1 ksg0,.int 3 ksg1] nsg,slsg⟩)
  (yGr:nsIn K mainGlobals "GROUPS" = some (some (.ref Gr)))
  (lGr:K.lookup Gr = some ⟨.type "dict",none,.dict esG nG,#[]⟩)
  (kGr:KeysLit w.params esG.toList)
  (eG0:nsIn K Gr "seat" = some (some (.int 0 kG0)))
  (eG1:nsIn K Gr "both" = some (some (.int 0 kG1)))
  (eG2:nsIn K Gr "tail" = some (some (.int 1 kG2)))
  (eG3:nsIn K Gr "tag" = some (some (.int 2 kG3)))
  (eG4:nsIn K Gr "bag" = some (some (.int 3 kG4)))
  (dga:specialIn K (.ref D) "__getattribute__" = some (some (.builtin "type.__getattribute__")))
  (drd:PySem.W.readsIn K D (.type "type") = true)
  (dfc:PySem.W.findCls K (.ref D) (.type "type") "__init__" = some (.val (.ref f2)))
  (h0_3:findIn K (.ref C0) "free" = some (some (.ref f3)))
  (h0_4:findIn K (.ref C0) "by_place" = some (some (.ref f4)))
  (h0_5:findIn K (.ref C0) "by_name" = some (some (.ref f5)))
  (h0_6:findIn K (.ref C0) "takes_one" = some (some (.ref f6)))
  (h0_7:findIn K (.ref C0) "told" = some (some (.ref f7)))
  (h1_3:findIn K (.ref C1) "free" = some (some (.ref f3)))
  (h1_4:findIn K (.ref C1) "by_place" = some (some (.ref f4)))
  (h1_5:findIn K (.ref C1) "by_name" = some (some (.ref f5)))
  (h1_6:findIn K (.ref C1) "takes_one" = some (some (.ref f6)))
  (h1_7:findIn K (.ref C1) "told" = some (some (.ref f7)))
  (h2_3:findIn K (.ref C2) "free" = some (some (.ref f3)))
  (h2_4:findIn K (.ref C2) "by_place" = some (some (.ref f4)))
  (h2_5:findIn K (.ref C2) "by_name" = some (some (.ref f5)))
  (h2_6:findIn K (.ref C2) "takes_one" = some (some (.ref f6)))
  (h2_7:findIn K (.ref C2) "told" = some (some (.ref f7)))
  (h3_3:findIn K (.ref C3) "free" = some (some (.ref f3)))
  (h3_4:findIn K (.ref C3) "by_place" = some (some (.ref f4)))
  (h3_5:findIn K (.ref C3) "by_name" = some (some (.ref f5)))
  (h3_6:findIn K (.ref C3) "takes_one" = some (some (.ref f6)))
  (h3_7:findIn K (.ref C3) "told" = some (some (.ref f7)))
  (h4_3:findIn K (.ref C4) "free" = some (some (.ref f3)))
  (h4_4:findIn K (.ref C4) "by_place" = some (some (.ref f4)))
  (h4_5:findIn K (.ref C4) "by_name" = some (some (.ref f5)))
  (h4_6:findIn K (.ref C4) "takes_one" = some (some (.ref f6)))
  (h4_7:findIn K (.ref C4) "told" = some (some (.ref f7)))
  (yE0:nsIn K mainGlobals "NoName" = some (some (.ref E0)))
  (xo:excIn K E0 [.type "ValueError",.type "Exception",.type "BaseException",.type "object"] "ValueError.__new__" = true)
  : ∃ fd:FuncData,(∀ (s:Shared) (v:Value),BindsTo s fd ⟨[v],[]⟩ [("_law_script",v)])/\∀ base:Heap,K.In base->base.Ns mainGlobals mg->zC l.prog w K mg base CX0 8 fa fd ["_law_script"] (zau K):=by
 have e:=hfa.symm.trans (mg_of X G a58)
 cases e
 have F1:=zD (st:=sIs) l1 c1 k1
 have b1:=F1.binds (ps:=["thing"]) fun _ _ _ _ _ _ us hl=>match us,hl with | [_],_=>rfl
 have F2:=zD (st:=uR) l2 c2 k2
 have b2:=F2.binds (ps:=["self","word","name","may_lack"]) fun _ _ _ _ _ _ us hl=>match us,hl with | [_,_,_,_],_=>rfl
 have F3:=zD (st:=qM) l3 c3 k3
 have b3:=F3.binds (ps:=["self"]) fun _ _ _ _ _ _ us hl=>match us,hl with | [_],_=>rfl
 have F4:=zD (st:=wv) l4 c4 k4
 have b4:=F4.binds (ps:=["self"]) fun _ _ _ _ _ _ us hl=>match us,hl with | [_],_=>rfl
 have F5:=zD (st:=vz) l5 c5 k5
 have b5:=F5.binds (ps:=["self"]) fun _ _ _ _ _ _ us hl=>match us,hl with | [_],_=>rfl
 have F6:=zD (st:=zaL) l6 c6 k6
 have b6:=F6.binds (ps:=["self"]) fun _ _ _ _ _ _ us hl=>match us,hl with | [_],_=>rfl
 have F7:=zD (st:=zdb) l7 c7 k7
 have b7:=F7.binds (ps:=["self"]) fun _ _ _ _ _ _ us hl=>match us,hl with | [_],_=>rfl
 have F8:=jF (st:=qE) (items:=[Value.bool false]) l8 c8 k8 t8 rfl
 have F9:=jF (st:=qU) (items:=[Value.bool false]) l9 c9 k9 t9 rfl
 have F10:=zD (st:=qD) l10 c10 k10
 have b10:=F10.binds (ps:=["self","name"]) fun _ _ _ _ _ _ us hl=>match us,hl with | [_,_],_=>rfl
 have F11:=jF (st:=zdR) (items:=[Value.bool false]) l11 c11 k11 t11 rfl
 have F12:=zD (st:=zdV) l12 c12 k12
 have b12:=F12.binds (ps:=["self","name"]) fun _ _ _ _ _ _ us hl=>match us,hl with | [_,_],_=>rfl
 have F13:=jF (st:=uY) (items:=[Value.none]) l13 c13 k13 t13 rfl
 have F14:=zD (st:=qL) l14 c14 k14
 have b14:=F14.binds (ps:=["self","parameters","bars"]) fun _ _ _ _ _ _ us hl=>match us,hl with | [_,_,_],_=>rfl
 have F15:=zD (st:=uX) l15 c15 k15
 have b15:=F15.binds (ps:=["self"]) fun _ _ _ _ _ _ us hl=>match us,hl with | [_],_=>rfl
 have F16:=zD (st:=uZ) l16 c16 k16
 have b16:=F16.binds (ps:=["self"]) fun _ _ _ _ _ _ us hl=>match us,hl with | [_],_=>rfl
 have F17:=zD (st:=wt) l17 c17 k17
 have b17:=F17.binds (ps:=["self"]) fun _ _ _ _ _ _ us hl=>match us,hl with | [_],_=>rfl
 have F18:=zD (st:=uW) l18 c18 k18
 have b18:=F18.binds (ps:=["self"]) fun _ _ _ _ _ _ us hl=>match us,hl with | [_],_=>rfl
 have F19:=zD (st:=qR) l19 c19 k19
 have b19:=F19.binds (ps:=["self"]) fun _ _ _ _ _ _ us hl=>match us,hl with | [_],_=>rfl
 have F20:=zD (st:=qQ) l20 c20 k20
 have b20:=F20.binds (ps:=["self","name"]) fun _ _ _ _ _ _ us hl=>match us,hl with | [_,_],_=>rfl
 have F21:=zD (st:=zdS) l21 c21 k21
 have b21:=F21.binds (ps:=["told"]) fun _ _ _ _ _ _ us hl=>match us,hl with | [_],_=>rfl
 have F22:=zD (st:=uO) l22 c22 k22
 have b22:=F22.binds (ps:=["parameters","bars"]) fun _ _ _ _ _ _ us hl=>match us,hl with | [_,_],_=>rfl
 have F23:=zD (st:=vt) l23 c23 k23
 have b23:=F23.binds (ps:=["parameters"]) fun _ _ _ _ _ _ us hl=>match us,hl with | [_],_=>rfl
 have F24:=zD (st:=uP) l24 c24 k24
 have b24:=F24.binds (ps:=["bars"]) fun _ _ _ _ _ _ us hl=>match us,hl with | [_],_=>rfl
 have F25:=zD (st:=vq) l25 c25 k25
 have b25:=F25.binds (ps:=["parameters","bars"]) fun _ _ _ _ _ _ us hl=>match us,hl with | [_,_],_=>rfl
 have F26:=zD (st:=qH) l26 c26 k26
 have b26:=F26.binds (ps:=["parameters","word"]) fun _ _ _ _ _ _ us hl=>match us,hl with | [_,_],_=>rfl
 have F27:=zD (st:=qJ) l27 c27 k27
 have b27:=F27.binds (ps:=["call"]) fun _ _ _ _ _ _ us hl=>match us,hl with | [_],_=>rfl
 have F28:=zD (st:=wq) l28 c28 k28
 have b28:=F28.binds (ps:=["form","call"]) fun _ _ _ _ _ _ us hl=>match us,hl with | [_,_],_=>rfl
 have F29:=zD (st:=qP) l29 c29 k29
 have b29:=F29.binds (ps:=["form","call"]) fun _ _ _ _ _ _ us hl=>match us,hl with | [_,_],_=>rfl
 have F30:=zD (st:=uM) l30 c30 k30
 have b30:=F30.binds (ps:=["call"]) fun _ _ _ _ _ _ us hl=>match us,hl with | [_],_=>rfl
 have F31:=zD (st:=vy) l31 c31 k31
 have b31:=F31.binds (ps:=["names"]) fun _ _ _ _ _ _ us hl=>match us,hl with | [_],_=>rfl
 have F32:=zD (st:=zdU) l32 c32 k32
 have b32:=F32.binds (ps:=["form","many","names"]) fun _ _ _ _ _ _ us hl=>match us,hl with | [_,_,_],_=>rfl
 have F33:=zD (st:=uS) l33 c33 k33
 have b33:=F33.binds (ps:=["form","many"]) fun _ _ _ _ _ _ us hl=>match us,hl with | [_,_],_=>rfl
 have F34:=zD (st:=zdQ) l34 c34 k34
 have b34:=F34.binds (ps:=["form","many","firsts"]) fun _ _ _ _ _ _ us hl=>match us,hl with | [_,_,_],_=>rfl
 have F35:=zD (st:=qK) l35 c35 k35
 have b35:=F35.binds (ps:=["form","many","firsts"]) fun _ _ _ _ _ _ us hl=>match us,hl with | [_,_,_],_=>rfl
 have F36:=zD (st:=qG) l36 c36 k36
 have b36:=F36.binds (ps:=["parameter","number","many","firsts"]) fun _ _ _ _ _ _ us hl=>match us,hl with | [_,_,_,_],_=>rfl
 have F37:=zD (st:=jw) l37 c37 k37
 have b37:=F37.binds (ps:=["word","number"]) fun _ _ _ _ _ _ us hl=>match us,hl with | [_,_],_=>rfl
 have F38:=zD (st:=u0) l38 c38 k38
 have b38:=F38.binds (ps:=["form","number","many","firsts"]) fun _ _ _ _ _ _ us hl=>match us,hl with | [_,_,_,_],_=>rfl
 have F39:=zD (st:=uQ) l39 c39 k39
 have b39:=F39.binds (ps:=["form","call"]) fun _ _ _ _ _ _ us hl=>match us,hl with | [_,_],_=>rfl
 have F40:=zD (st:=qT) l40 c40 k40
 have b40:=F40.binds (ps:=["_law_script","_law_at"]) fun _ _ _ _ _ _ us hl=>match us,hl with | [_,_],_=>rfl
 have F41:=zD (st:=zdT) l41 c41 k41
 have b41:=F41.binds (ps:=["_law_cell_here","_law_k"]) fun _ _ _ _ _ _ us hl=>match us,hl with | [_,_],_=>rfl
 have F42:=zD (st:=qF) l42 c42 k42
 have b42:=F42.binds (ps:=["_law_cell_here"]) fun _ _ _ _ _ _ us hl=>match us,hl with | [_],_=>rfl
 have F43:=zD (st:=qO) l43 c43 k43
 have b43:=F43.binds (ps:=["_law_script","_law_at","_law_pool_here","_law_most"]) fun _ _ _ _ _ _ us hl=>match us,hl with | [_,_,_,_],_=>rfl
 have F44:=zD (st:=uT) l44 c44 k44
 have b44:=F44.binds (ps:=["_law_told"]) fun _ _ _ _ _ _ us hl=>match us,hl with | [_],_=>rfl
 have F45:=zD (st:=uL) l45 c45 k45
 have b45:=F45.binds (ps:=["_law_cell_here","_law_k"]) fun _ _ _ _ _ _ us hl=>match us,hl with | [_,_],_=>rfl
 have F46:=zD (st:=uU) l46 c46 k46
 have b46:=F46.binds (ps:=["_law_things","_law_pairs","_law_cell_here"]) fun _ _ _ _ _ _ us hl=>match us,hl with | [_,_,_],_=>rfl
 have F47:=zD (st:=zdW) l47 c47 k47
 have b47:=F47.binds (ps:=["_law_cell_here","_law_more","_law_pool_here","_law_span"]) fun _ _ _ _ _ _ us hl=>match us,hl with | [_,_,_,_],_=>rfl
 have F48:=zD (st:=u5) l48 c48 k48
 have b48:=F48.binds (ps:=["_law_pot","_law_many"]) fun _ _ _ _ _ _ us hl=>match us,hl with | [_,_],_=>rfl
 have F49:=zD (st:=ww) l49 c49 k49
 have b49:=F49.binds (ps:=["_law_pot"]) fun _ _ _ _ _ _ us hl=>match us,hl with | [_],_=>rfl
 have F50:=zD (st:=wx) l50 c50 k50
 have b50:=F50.binds (ps:=["_law_cell_here"]) fun _ _ _ _ _ _ us hl=>match us,hl with | [_],_=>rfl
 have F51:=zD (st:=wy) l51 c51 k51
 have b51:=F51.binds (ps:=["_law_cell_here","_law_told"]) fun _ _ _ _ _ _ us hl=>match us,hl with | [_,_],_=>rfl
 have F52:=zD (st:=vw) l52 c52 k52
 have b52:=F52.binds (ps:=["_law_things","_law_pairs"]) fun _ _ _ _ _ _ us hl=>match us,hl with | [_,_],_=>rfl
 have F53:=zD (st:=qI) l53 c53 k53
 have b53:=F53.binds (ps:=["_law_things","_law_pairs","_law_found"]) fun _ _ _ _ _ _ us hl=>match us,hl with | [_,_,_],_=>rfl
 have F54:=zD (st:=uV) l54 c54 k54
 have b54:=F54.binds (ps:=["_law_told","_law_numbers"]) fun _ _ _ _ _ _ us hl=>match us,hl with | [_,_],_=>rfl
 have F55:=zD (st:=wu) l55 c55 k55
 have b55:=F55.binds (ps:=["_law_found","_law_many","_law_names"]) fun _ _ _ _ _ _ us hl=>match us,hl with | [_,_,_],_=>rfl
 have F56:=zD (st:=wp) l56 c56 k56
 have b56:=F56.binds (ps:=["_law_form_here","_law_things","_law_pairs"]) fun _ _ _ _ _ _ us hl=>match us,hl with | [_,_,_],_=>rfl
 have F57:=zD (st:=uN) l57 c57 k57
 have b57:=F57.binds (ps:=["_law_told","_law_call"]) fun _ _ _ _ _ _ us hl=>match us,hl with | [_,_],_=>rfl
 have F58:=zD (st:=zaM) l58 c58 k58
 have no:∀ {x:Str},nsIn K mainGlobals x = some none->mg x = none:=fun z=>PySem.W.mg_none_of X G z
 have T:zjJ K mg:=⟨no zisinstance,no zstr,no zbool,no zlen,no zall,no zrange,⟨tL,mg_of X G gL⟩,⟨tN,mg_of X G gN⟩,jq K,zcB K,zbL K,zbJ K,zaR K,zbK K,zcA K,zaS K⟩
 have Wd:Wds K mg tP tB tO:=⟨mg_of X G ytP,mg_of X G ytB,mg_of X G ytO,fun H=>.inr ⟨_,_,_,utP,rfl,rfl,zz2,.cons ⟨_,rfl⟩ (.cons ⟨_,rfl⟩ (.nil))⟩,fun H=>.inr ⟨_,_,_,utB,rfl,rfl,zz2,.cons ⟨_,rfl⟩ (.cons ⟨_,rfl⟩ (.nil))⟩,fun H=>.inr ⟨_,_,_,utO,rfl,rfl,zz3,.cons ⟨_,rfl⟩ (.cons ⟨_,rfl⟩ (.cons ⟨_,rfl⟩ (.nil)))⟩⟩
 have TF:zb2 w K mg Gr sg:=⟨no zlen,no zenumerate,no zlist,no zset,⟨tMP,mg_of X G gMP⟩,⟨tMB,mg_of X G gMB⟩,mg_of X G yGr,zg7 lGr kGr eG0 eG1 eG2 eG3 eG4,mg_of X G ysg,fun H=>.inr ⟨_,_,_,usg,rfl,rfl,zz2,.cons ⟨_,rfl⟩ (.cons ⟨_,rfl⟩ .nil)⟩⟩
 have pc0:PC K ⟨f3,f4,f5,f6,f7⟩ C0:=⟨⟨pgC0,hdC0,poC0,saC0⟩,nC0_word,nC0_name,nC0_may_lack,⟨h0_3,i3,k3⟩,⟨h0_4,i4,k4⟩,⟨h0_5,i5,k5⟩,⟨h0_6,i6,k6⟩,⟨h0_7,i7,k7⟩⟩
 have pc1:PC K ⟨f3,f4,f5,f6,f7⟩ C1:=⟨⟨pgC1,hdC1,poC1,saC1⟩,nC1_word,nC1_name,nC1_may_lack,⟨h1_3,i3,k3⟩,⟨h1_4,i4,k4⟩,⟨h1_5,i5,k5⟩,⟨h1_6,i6,k6⟩,⟨h1_7,i7,k7⟩⟩
 have pc2:PC K ⟨f3,f4,f5,f6,f7⟩ C2:=⟨⟨pgC2,hdC2,poC2,saC2⟩,nC2_word,nC2_name,nC2_may_lack,⟨h2_3,i3,k3⟩,⟨h2_4,i4,k4⟩,⟨h2_5,i5,k5⟩,⟨h2_6,i6,k6⟩,⟨h2_7,i7,k7⟩⟩
 have pc3:PC K ⟨f3,f4,f5,f6,f7⟩ C3:=⟨⟨pgC3,hdC3,poC3,saC3⟩,nC3_word,nC3_name,nC3_may_lack,⟨h3_3,i3,k3⟩,⟨h3_4,i4,k4⟩,⟨h3_5,i5,k5⟩,⟨h3_6,i6,k6⟩,⟨h3_7,i7,k7⟩⟩
 have pc4:PC K ⟨f3,f4,f5,f6,f7⟩ C4:=⟨⟨pgC4,hdC4,poC4,saC4⟩,nC4_word,nC4_name,nC4_may_lack,⟨h4_3,i3,k3⟩,⟨h4_4,i4,k4⟩,⟨h4_5,i5,k5⟩,⟨h4_6,i6,k6⟩,⟨h4_7,i7,k7⟩⟩
 have PP:Pcs K ⟨f3,f4,f5,f6,f7⟩ ⟨C0,C1,C2,C3,C4⟩:=fun k hk=>by
  rcases lt5 hk with rfl | rfl | rfl | rfl | rfl
  ·exact pc0
  ·exact pc1
  ·exact pc2
  ·exact pc3
  ·exact pc4
 have FK:FC K FM:=⟨⟨pgFM,hdFM,poFM,saFM⟩,nFM_row,nFM_bar_names,nFM_place_count,nFM_tail_number,nFM_bag_number,nFM_doors⟩
 have UL:js mg:=⟨no zlen,no zrange,no zmin,no zmax,no zenumerate,no zlist,no zisinstance,no zbool,no zint⟩
 have T2:zjI K mg:=⟨no zisinstance,no zstr,no zbool,no zint,no ztuple,no zlist,no zlen,no zrange,no zenumerate⟩
 have b8_0:zS K _ ["self","name","free"] []:=fun s us KX hl=>match us,hl with | [u,v,x],_=>F8.bindsTo (fun _ _ _ _ _ _ _=>⟨_,rfl,rfl⟩) KX
 have b8_1:zS K _ ["self","name","free"] [.bool false]:=fun s us KX hl=>match us,(show us.length = 2 by simpa using hl) with | [u,v],_=>F8.bindsTo (fun _ _ _ _ _ _ _=>⟨_,rfl,rfl⟩) KX
 have b8_2:v0 K _ ["self","name","free"] ["free"] g21 g21:=⟨fun s us ws KX hl=>match us,ws,hl with | [u,v],[x],_=>F8.bindsTo (fun _ _ _ _ _ _ _=>⟨_,rfl,rfl⟩) KX,fun r z=>jE r z⟩
 have b9_0:zS K _ ["self","name","free"] []:=fun s us KX hl=>match us,hl with | [u,v,x],_=>F9.bindsTo (fun _ _ _ _ _ _ _=>⟨_,rfl,rfl⟩) KX
 have b9_1:zS K _ ["self","name","free"] [.bool false]:=fun s us KX hl=>match us,(show us.length = 2 by simpa using hl) with | [u,v],_=>F9.bindsTo (fun _ _ _ _ _ _ _=>⟨_,rfl,rfl⟩) KX
 have b9_2:v0 K _ ["self","name","free"] ["free"] g21 g21:=⟨fun s us ws KX hl=>match us,ws,hl with | [u,v],[x],_=>F9.bindsTo (fun _ _ _ _ _ _ _=>⟨_,rfl,rfl⟩) KX,fun r z=>jE r z⟩
 have b11_0:zS K _ ["self","name","free"] []:=fun s us KX hl=>match us,hl with | [u,v,x],_=>F11.bindsTo (fun _ _ _ _ _ _ _=>⟨_,rfl,rfl⟩) KX
 have b11_1:zS K _ ["self","name","free"] [.bool false]:=fun s us KX hl=>match us,(show us.length = 2 by simpa using hl) with | [u,v],_=>F11.bindsTo (fun _ _ _ _ _ _ _=>⟨_,rfl,rfl⟩) KX
 have b11_2:v0 K _ ["self","name","free"] ["free"] g21 g21:=⟨fun s us ws KX hl=>match us,ws,hl with | [u,v],[x],_=>F11.bindsTo (fun _ _ _ _ _ _ _=>⟨_,rfl,rfl⟩) KX,fun r z=>jE r z⟩
 have b13_0:zS K _ ["self","parameters","bars"] []:=fun s us KX hl=>match us,hl with | [u,v,x],_=>F13.bindsTo (fun _ _ _ _ _ _ _=>⟨_,rfl,rfl⟩) KX
 have b13_1:zS K _ ["self","parameters","bars"] [.none]:=fun s us KX hl=>match us,(show us.length = 2 by simpa using hl) with | [u,v],_=>F13.bindsTo (fun _ _ _ _ _ _ _=>⟨_,rfl,rfl⟩) KX
 have b13_2:v0 K _ ["self","parameters","bars"] ["bars"] g21 g21:=⟨fun s us ws KX hl=>match us,ws,hl with | [u,v],[x],_=>F13.bindsTo (fun _ _ _ _ _ _ _=>⟨_,rfl,rfl⟩) KX,fun r z=>jE r z⟩
 refine ⟨fnOf "law" "law" (zp zaM) (zn zaM) (ze zaM) .none kV58 dc58 pm58 an58 cd58 ct58,fun s v=>.of_eq rfl,fun base KB GB=>?_⟩
 have cI:zl l.prog w K mg base 1 "is_name" f1 _ ["thing"] (zgs K):=⟨zjm F1 T ,mg_of X G a1,k1,b1⟩
 have GP:zC l.prog w K mg base (CXe l.prog w) 2 f2 _ ["self","word","name","may_lack"] (spP K ⟨f3,f4,f5,f6,f7⟩ E0):=zfr F2 (zif KB GB yE0 xo) cI
 have CB:qr K D "__init__" f2:=⟨dga,drd,dfc,k2⟩
 have mD:=mg_of X G aD
 have UC:zhD l.prog w K mg base ⟨C0,C1,C2,C3,C4⟩ E0 f8 f9 f10 f11 f12 _ _ _ _ _:=⟨⟨⟨mkC0,a8,i8,kcC0⟩,zdj F8 pc0 CB mD GP b2,mg_of X G aC0,b8_0⟩,⟨⟨mkC0,a8,i8,kcC0⟩,zdj F8 pc0 CB mD GP b2,mg_of X G aC0,b8_1⟩,b8_2,⟨⟨mkC1,a9,i9,kcC1⟩,zdk F9 pc1 CB mD GP b2,mg_of X G aC1,b9_0⟩,⟨⟨mkC1,a9,i9,kcC1⟩,zdk F9 pc1 CB mD GP b2,mg_of X G aC1,b9_1⟩,b9_2,⟨⟨mkC2,a10,i10,kcC2⟩,zgR F10 pc2 CB mD GP b2,mg_of X G aC2,b10⟩,⟨⟨mkC3,a11,i11,kcC3⟩,zfo F11 pc3 CB mD GP b2,mg_of X G aC3,b11_0⟩,⟨⟨mkC3,a11,i11,kcC3⟩,zfo F11 pc3 CB mD GP b2,mg_of X G aC3,b11_1⟩,b11_2,⟨⟨mkC4,a12,i12,kcC4⟩,zio F12 pc4 CB mD GP b2,mg_of X G aC4,b12⟩⟩
 have GF:zC l.prog w K mg base CX0 1 f3 _ ["self"] (zcc K ⟨f3,f4,f5,f6,f7⟩):=zgZ F3
 have GQ:zC l.prog w K mg base CX0 1 f4 _ ["self"] (zaz K ⟨f3,f4,f5,f6,f7⟩ bpL):=zbx F4 Wd
 have GN:zC l.prog w K mg base CX0 1 f5 _ ["self"] (zaz K ⟨f3,f4,f5,f6,f7⟩ bnL):=zcp F5 Wd
 have cM1:zl l.prog w K mg base 1 "refuse_too_many" f22 _ ["parameters","bars"] (zb9 K):=⟨zgV F22 TF ,mg_of X G a22,k22,b22⟩
 have cM2:zl l.prog w K mg base 1 "refuse_bad_order" f23 _ ["parameters"] (zeK ⟨C0,C1,C2,C3,C4⟩):=⟨zfu F23 TF PP ,mg_of X G a23,k23,b23⟩
 have cM3:zl l.prog w K mg base 2 "refuse_bars_without_name" f24 _ ["bars"] zhQ:=⟨zfq F24 cI ,mg_of X G a24,k24,b24⟩
 have cM4:zl l.prog w K mg base 2 "refuse_twice" f25 _ ["parameters","bars"] (zhP ⟨C0,C1,C2,C3,C4⟩):=⟨zfm F25 TF PP GN b5 ,mg_of X G a25,k25,b25⟩
 have cW:zl l.prog w K mg base 1 "number_of_word" f26 _ ["parameters","word"] (zhS ⟨C0,C1,C2,C3,C4⟩):=⟨zgU F26 TF PP ,mg_of X G a26,k26,b26⟩
 have GK:zC l.prog w K mg base CX0 2 f14 _ ["self","parameters","bars"] (zcb ⟨C0,C1,C2,C3,C4⟩ FM):=zgY F14 TF PP FK cW GQ b4 GN b5
 have GI:zC l.prog w K mg base CX0 3 f13 _ ["self","parameters","bars"] (zeL ⟨C0,C1,C2,C3,C4⟩ FM):=zfB F13 FK ⟨a14,i14,k14⟩ cM1 cM2 cM3 cM4 GK b14
 have kF0:qp l.prog w K mg base CX0 3 "Form" FM f13 _ ["self","parameters","bars"] [] (zeL ⟨C0,C1,C2,C3,C4⟩ FM):=⟨⟨mkFM,a13,i13,kcFM⟩,GI,mg_of X G aFM,b13_0⟩
 have kF1:qp l.prog w K mg base CX0 3 "Form" FM f13 _ ["self","parameters","bars"] [.none] (zeL ⟨C0,C1,C2,C3,C4⟩ FM):=⟨⟨mkFM,a13,i13,kcFM⟩,GI,mg_of X G aFM,b13_1⟩
 have mpa:y6 K FM "parameters" f15:=⟨a15,i15,k15⟩
 have Gpa:zC l.prog w K mg base CX0 1 f15 _ ["self"] (jL ⟨C0,C1,C2,C3,C4⟩ FM):=zfA F15 TF FK
 have mba:y6 K FM "bars" f16:=⟨a16,i16,k16⟩
 have Gba:zC l.prog w K mg base CX0 1 f16 _ ["self"] (zcf ⟨C0,C1,C2,C3,C4⟩ FM):=zfC F16 TF FK
 have mpl:y6 K FM "places" f17:=⟨a17,i17,k17⟩
 have Gpl:zC l.prog w K mg base CX0 1 f17 _ ["self"] (wV ⟨C0,C1,C2,C3,C4⟩ FM):=zcn F17 FK
 have mta:y6 K FM "tail" f18:=⟨a18,i18,k18⟩
 have Gta:zC l.prog w K mg base CX0 1 f18 _ ["self"] (wU ⟨C0,C1,C2,C3,C4⟩ FM 2):=zfy F18 FK
 have mbg:y6 K FM "bag" f19:=⟨a19,i19,k19⟩
 have Gbg:zC l.prog w K mg base CX0 1 f19 _ ["self"] (wU ⟨C0,C1,C2,C3,C4⟩ FM 4):=zg3 F19 FK
 have mnu:y6 K FM "number_of" f20:=⟨a20,i20,k20⟩
 have Gnu:zC l.prog w K mg base CX0 1 f20 _ ["self","name"] (zc2 ⟨C0,C1,C2,C3,C4⟩ FM):=zg1 F20 FK
 have cL:zl l.prog w K mg base 1 "laid" f27 _ ["call"] (zav K):=⟨zgX F27 ,mg_of X G a27,k27,b27⟩
 have cSh:zl l.prog w K mg base 2 "shape" f30 _ ["call"] (jt K):=⟨zfp F30 (no zlen) cL ,mg_of X G a30,k30,b30⟩
 have cFn:zl l.prog w K mg base 1 "first_numbers" f31 _ ["names"] uc:=⟨zd9 F31 (no zenumerate) ,mg_of X G a31,k31,b31⟩
 have cOv:zl l.prog w K mg base 2 "overs" f33 _ ["form","many"] (zas ⟨C0,C1,C2,C3,C4⟩ FM):=⟨zft F33 (no zrange) FK mta Gta b18 mpl Gpl b17 ,mg_of X G a33,k33,b33⟩
 have cUn:zl l.prog w K mg base 2 "unwelcomes" f34 _ ["form","many","firsts"] (zeI ⟨C0,C1,C2,C3,C4⟩ FM):=⟨zii F34 (no zset) FK mba Gba b16 mnu Gnu b20 mbg Gbg b19 mpl Gpl b17 ,mg_of X G a34,k34,b34⟩
 have cEn:zl l.prog w K mg base 2 "one_entry" f36 _ ["parameter","number","many","firsts"] (zat ⟨C0,C1,C2,C3,C4⟩):=⟨zgT F36 PP GQ b4 GN b5 ,mg_of X G a36,k36,b36⟩
 have cLa:zl l.prog w K mg base 3 "lackings" f35 _ ["form","many","firsts"] (zaw ⟨C0,C1,C2,C3,C4⟩ FM):=⟨zfw F35 (no zenumerate) PP FK mpa Gpa b15 GF b3 cEn ,mg_of X G a35,k35,b35⟩
 have cMo:zl l.prog w K mg base 4 "misfits_of" f32 _ ["form","many","names"] (zc3 ⟨C0,C1,C2,C3,C4⟩ FM):=⟨zik F32 (no zenumerate) cFn cOv cUn cLa ,mg_of X G a32,k32,b32⟩
 have cMi:zl l.prog w K mg base 5 "misfits" f28 _ ["form","call"] (zbf K ⟨C0,C1,C2,C3,C4⟩ FM):=⟨zim F28 cSh cMo ,mg_of X G a28,k28,b28⟩
 have cFi:zl l.prog w K mg base 6 "fits" f29 _ ["form","call"] (zce K ⟨C0,C1,C2,C3,C4⟩ FM):=⟨zg2 F29 cMi ,mg_of X G a29,k29,b29⟩
 have cRe:zl l.prog w K mg base 1 "refuse" f37 _ ["word","number"] zhR:=⟨zjl ,mg_of X G a37,k37,b37⟩
 have cEy:zl l.prog w K mg base 3 "entry" f38 _ ["form","number","many","firsts"] (zaB K ⟨C0,C1,C2,C3,C4⟩ FM):=⟨zfD F38 (no zrange) (no zlist) FK mta Gta b18 mpl Gpl b17 mbg Gbg b19 mnu Gnu b20 mpa Gpa b15 cEn ,mg_of X G a38,k38,b38⟩
 have cPa:zl l.prog w K mg base 5 "paper" f39 _ ["form","call"] (zar K ⟨C0,C1,C2,C3,C4⟩ FM):=⟨zfs F39 (no zrange) (no zlen) FK cSh cMo cRe cFn cEy mpa Gpa b15 ,mg_of X G a39,k39,b39⟩
 have cPf:za5 l.prog w K mg base 5 "parameter_of" f21 _ ["told"] (zeJ K ⟨C0,C1,C2,C3,C4⟩ E0):=⟨zij F21 UC ,mg_of X G a21,k21,b21⟩
 have cC:zl l.prog w K mg base 1 "_law_cell" f40 _ ["_law_script","_law_at"] (zaC K):=⟨zg4 F40 ,mg_of X G a40,k40,b40⟩
 have cMx:zl l.prog w K mg base 1 "_law_mix" f41 _ ["_law_cell_here","_law_k"] qB:=⟨zil F41 ,mg_of X G a41,k41,b41⟩
 have cPl:zl l.prog w K mg base 1 "_law_pool" f42 _ ["_law_cell_here"] (zb8 K):=⟨zgS F42 T2 ,mg_of X G a42,k42,b42⟩
 have cFo:zl l.prog w K mg base 2 "_law_form" f43 _ ["_law_script","_law_at","_law_pool_here","_law_most"] (zcd K):=⟨zg0 F43 UL cC cMx ,mg_of X G a43,k43,b43⟩
 have cMd:zl l.prog w K mg base 6 "_law_made" f44 _ ["_law_told"] (zax ⟨C0,C1,C2,C3,C4⟩ FM):=⟨zfv F44 (no zlist) (mg_of X G aFM) ⟨mkFM,a13,i13,kcFM⟩ GI b13_0 cPf ,mg_of X G a44,k44,b44⟩
 have cTh:zl l.prog w K mg base 2 "_law_thing" f45 _ ["_law_cell_here","_law_k"] zaq:=⟨zfn F45 cMx ,mg_of X G a45,k45,b45⟩
 have cIt:zl l.prog w K mg base 2 "_law_items" f46 _ ["_law_things","_law_pairs","_law_cell_here"] (zay K):=⟨zfx F46 UL cMx ,mg_of X G a46,k46,b46⟩
 have cAn:zl l.prog w K mg base 3 "_law_any" f47 _ ["_law_cell_here","_law_more","_law_pool_here","_law_span"] (zeM K):=⟨ziq F47 UL cMx cTh ,mg_of X G a47,k47,b47⟩
 have cDg:zl l.prog w K mg base 1 "_law_digit" f48 _ ["_law_pot","_law_many"] ud:=⟨zfE F48 ,mg_of X G a48,k48,b48⟩
 have cNm:zl l.prog w K mg base 2 "_law_any_name" f49 _ ["_law_pot"] zc4:=⟨zfF F49 (no zrange) cDg ,mg_of X G a49,k49,b49⟩
 have cAF:zl l.prog w K mg base 3 "_law_any_form" f50 _ ["_law_cell_here"] zaD:=⟨zfG F50 UL cDg cNm ,mg_of X G a50,k50,b50⟩
 have cAC:zl l.prog w K mg base 3 "_law_any_call" f51 _ ["_law_cell_here","_law_told"] (zaE K):=⟨zfH F51 UL cDg cNm ,mg_of X G a51,k51,b51⟩
 have cPk:zl l.prog w K mg base 1 "_law_packed" f52 _ ["_law_things","_law_pairs"] (ub K):=⟨zd8 F52 ,mg_of X G a52,k52,b52⟩
 have cLe:zl l.prog w K mg base 1 "_law_left" f53 _ ["_law_things","_law_pairs","_law_found"] (zca K):=⟨zgW F53 UL ,mg_of X G a53,k53,b53⟩
 have cFr:zl l.prog w K mg base 1 "_law_freed" f54 _ ["_law_told","_law_numbers"] zaA:=⟨zfz F54 UL ,mg_of X G a54,k54,b54⟩
 have cCn:zl l.prog w K mg base 1 "_law_counted" f55 _ ["_law_found","_law_many","_law_names"] (uJ K):=⟨zco F55 UL (no zsorted) ,mg_of X G a55,k55,b55⟩
 have cOl:zl l.prog w K mg base 6 "_law_one_less" f56 _ ["_law_form_here","_law_things","_law_pairs"] (uI K ⟨C0,C1,C2,C3,C4⟩ FM):=⟨zcm F56 UL cMi cPk ,mg_of X G a56,k56,b56⟩
 have cRi:zl l.prog w K mg base 7 "_law_right" f57 _ ["_law_told","_law_call"] (jK K):=⟨zd7 F57 UL cMd cL cMi cLe cPk cFr cFi cPa cCn cOl ,mg_of X G a57,k57,b57⟩
 exact zin F58 UL cC cPl cFo cAn cIt cAF cAC cRi
theorem zkB {l:PySem.W.OpenLaw} {q:Program} {loose:List Str} {XP:(Str->Option Value)->Heap->Prop} {YP:World->Heap->Prop} {d:DefRec} {K:Params->Frag} (hn:l.most = some 63) (hdf:d.params.defaults = [])
  (hY:∀ (w:World) (h:Heap),YP w h->(K w.params).In h)
  (F:∀ (w:World) (mg:Str->Option Value) (fa:Addr) (h:Heap),(K w.params).In h->h.Ns mainGlobals mg->mg d.name = some (.ref fa)->
   ∃ fd:FuncData,(∀ (s:Shared) (u:Value),BindsTo s fd ⟨[u],[]⟩ [("_law_script",u)])/\∀ base:Heap,(K w.params).In base->base.Ns mainGlobals mg->zC l.prog w (K w.params) mg base CX0 8 fa fd ["_law_script"] (zau (K w.params))) :
  PySem.W.WalkO q loose XP YP l.row.toRowW d [] (fun f vs=>PySem.call f vs):=
 L2.ziU (n:=63) (k:=8) (x:="_law_script") (CX:=fun _=>CX0) (sp:=fun w=>zau (K w.params)) hn (by decide) hdf ⟨rfl,by decide,by decide⟩ hY F (fun _ _ a ns hl hb _ hS=>⟨a,ns,rfl,hS,hl,hb,fun _=>rfl⟩) fun _ _ _ _ _ z=>z
end K25
open PySem PySem.W PyProof.Rows
set_option maxRecDepth 100000 in
set_option maxHeartbeats 0 in
theorem PySem.Challenge.cw_callbinds_k25_whole_mended_calls_holds : PySem.Challenge.rw_callbinds_k25_whole_mended_calls.Holds := by
 w_on; o_law; k_head; (case hw => w_witness2)
 k_fill
 refine K25.zkB (l := PySem.Challenge.rw_callbinds_k25_whole_mended_calls) rfl rfl (fun w h Y => PySem.W.kIn_of Y) ?F
 case F =>
  intro w mg fa h KX G hmg
  refine' K25.zku KX G hmg ?aD ?pgD ?hdD ?poD ?saD ?mkD ?kcD ?aC0 ?pgC0 ?hdC0 ?poC0 ?saC0 ?mkC0 ?kcC0 ?nC0_word ?nC0_name ?nC0_may_lack ?aC1 ?pgC1 ?hdC1 ?poC1 ?saC1 ?mkC1 ?kcC1 ?nC1_word ?nC1_name ?nC1_may_lack ?aC2 ?pgC2 ?hdC2 ?poC2 ?saC2 ?mkC2 ?kcC2 ?nC2_word ?nC2_name ?nC2_may_lack ?aC3 ?pgC3 ?hdC3 ?poC3 ?saC3 ?mkC3 ?kcC3 ?nC3_word ?nC3_name ?nC3_may_lack ?aC4 ?pgC4 ?hdC4 ?poC4 ?saC4 ?mkC4 ?kcC4 ?nC4_word ?nC4_name ?nC4_may_lack ?aFM ?pgFM ?hdFM ?poFM ?saFM ?mkFM ?kcFM ?nFM_row ?nFM_bar_names ?nFM_place_count ?nFM_tail_number ?nFM_bag_number ?nFM_doors ?a1 ?l1 ?c1 ?k1 ?a2 ?i2 ?l2 ?c2 ?k2 ?a3 ?i3 ?l3 ?c3 ?k3 ?a4 ?i4 ?l4 ?c4 ?k4 ?a5 ?i5 ?l5 ?c5 ?k5 ?a6 ?i6 ?l6 ?c6 ?k6 ?a7 ?i7 ?l7 ?c7 ?k7 ?a8 ?i8 ?l8 ?c8 ?k8 ?t8 ?a9 ?i9 ?l9 ?c9 ?k9 ?t9 ?a10 ?i10 ?l10 ?c10 ?k10 ?a11 ?i11 ?l11 ?c11 ?k11 ?t11 ?a12 ?i12 ?l12 ?c12 ?k12 ?a13 ?i13 ?l13 ?c13 ?k13 ?t13 ?a14 ?i14 ?l14 ?c14 ?k14 ?a15 ?i15 ?l15 ?c15 ?k15 ?a16 ?i16 ?l16 ?c16 ?k16 ?a17 ?i17 ?l17 ?c17 ?k17 ?a18 ?i18 ?l18 ?c18 ?k18 ?a19 ?i19 ?l19 ?c19 ?k19 ?a20 ?i20 ?l20 ?c20 ?k20 ?a21 ?l21 ?c21 ?k21 ?a22 ?l22 ?c22 ?k22 ?a23 ?l23 ?c23 ?k23 ?a24 ?l24 ?c24 ?k24 ?a25 ?l25 ?c25 ?k25 ?a26 ?l26 ?c26 ?k26 ?a27 ?l27 ?c27 ?k27 ?a28 ?l28 ?c28 ?k28 ?a29 ?l29 ?c29 ?k29 ?a30 ?l30 ?c30 ?k30 ?a31 ?l31 ?c31 ?k31 ?a32 ?l32 ?c32 ?k32 ?a33 ?l33 ?c33 ?k33 ?a34 ?l34 ?c34 ?k34 ?a35 ?l35 ?c35 ?k35 ?a36 ?l36 ?c36 ?k36 ?a37 ?l37 ?c37 ?k37 ?a38 ?l38 ?c38 ?k38 ?a39 ?l39 ?c39 ?k39 ?a40 ?l40 ?c40 ?k40 ?a41 ?l41 ?c41 ?k41 ?a42 ?l42 ?c42 ?k42 ?a43 ?l43 ?c43 ?k43 ?a44 ?l44 ?c44 ?k44 ?a45 ?l45 ?c45 ?k45 ?a46 ?l46 ?c46 ?k46 ?a47 ?l47 ?c47 ?k47 ?a48 ?l48 ?c48 ?k48 ?a49 ?l49 ?c49 ?k49 ?a50 ?l50 ?c50 ?k50 ?a51 ?l51 ?c51 ?k51 ?a52 ?l52 ?c52 ?k52 ?a53 ?l53 ?c53 ?k53 ?a54 ?l54 ?c54 ?k54 ?a55 ?l55 ?c55 ?k55 ?a56 ?l56 ?c56 ?k56 ?a57 ?l57 ?c57 ?k57 ?a58 ?l58 ?c58 ?k58 ?zisinstance ?zstr ?zbool ?zlen ?zall ?zrange ?zlist ?zenumerate ?zset ?zmin ?zmax ?zint ?ztuple ?zsorted ?gL ?gN ?gMP ?gMB ?ytP ?utP ?ytB ?utB ?ytO ?utO ?ysg ?usg ?yGr ?lGr ?kGr ?eG0 ?eG1 ?eG2 ?eG3 ?eG4 ?dga ?drd ?dfc ?h0_3 ?h0_4 ?h0_5 ?h0_6 ?h0_7 ?h1_3 ?h1_4 ?h1_5 ?h1_6 ?h1_7 ?h2_3 ?h2_4 ?h2_5 ?h2_6 ?h2_7 ?h3_3 ?h3_4 ?h3_5 ?h3_6 ?h3_7 ?h4_3 ?h4_4 ?h4_5 ?h4_6 ?h4_7 ?yE0 ?xo
  (case yE0 => k_is)
  (case aD => k_is)
  (case pgD => k_is)
  (case hdD => k_is)
  (case poD => k_is)
  (case saD => k_is)
  (case mkD => k_is)
  (case kcD => k_is)
  (case aC0 => k_is)
  (case pgC0 => k_is)
  (case hdC0 => k_is)
  (case poC0 => k_is)
  (case saC0 => k_is)
  (case mkC0 => k_is)
  (case kcC0 => k_is)
  (case nC0_word => k_is)
  (case nC0_name => k_is)
  (case nC0_may_lack => k_is)
  (case aC1 => k_is)
  (case pgC1 => k_is)
  (case hdC1 => k_is)
  (case poC1 => k_is)
  (case saC1 => k_is)
  (case mkC1 => k_is)
  (case kcC1 => k_is)
  (case nC1_word => k_is)
  (case nC1_name => k_is)
  (case nC1_may_lack => k_is)
  (case aC2 => k_is)
  (case pgC2 => k_is)
  (case hdC2 => k_is)
  (case poC2 => k_is)
  (case saC2 => k_is)
  (case mkC2 => k_is)
  (case kcC2 => k_is)
  (case nC2_word => k_is)
  (case nC2_name => k_is)
  (case nC2_may_lack => k_is)
  (case aC3 => k_is)
  (case pgC3 => k_is)
  (case hdC3 => k_is)
  (case poC3 => k_is)
  (case saC3 => k_is)
  (case mkC3 => k_is)
  (case kcC3 => k_is)
  (case nC3_word => k_is)
  (case nC3_name => k_is)
  (case nC3_may_lack => k_is)
  (case aC4 => k_is)
  (case pgC4 => k_is)
  (case hdC4 => k_is)
  (case poC4 => k_is)
  (case saC4 => k_is)
  (case mkC4 => k_is)
  (case kcC4 => k_is)
  (case nC4_word => k_is)
  (case nC4_name => k_is)
  (case nC4_may_lack => k_is)
  (case aFM => k_is)
  (case pgFM => k_is)
  (case hdFM => k_is)
  (case poFM => k_is)
  (case saFM => k_is)
  (case mkFM => k_is)
  (case kcFM => k_is)
  (case nFM_row => k_is)
  (case nFM_bar_names => k_is)
  (case nFM_place_count => k_is)
  (case nFM_tail_number => k_is)
  (case nFM_bag_number => k_is)
  (case nFM_doors => k_is)
  (case a1 => k_is)
  (case l1 => k_is)
  (case c1 => k_is)
  (case k1 => k_is)
  (case a2 => k_is)
  (case i2 => k_is)
  (case l2 => k_is)
  (case c2 => k_is)
  (case k2 => k_is)
  (case a3 => k_is)
  (case i3 => k_is)
  (case l3 => k_is)
  (case c3 => k_is)
  (case k3 => k_is)
  (case a4 => k_is)
  (case i4 => k_is)
  (case l4 => k_is)
  (case c4 => k_is)
  (case k4 => k_is)
  (case a5 => k_is)
  (case i5 => k_is)
  (case l5 => k_is)
  (case c5 => k_is)
  (case k5 => k_is)
  (case a6 => k_is)
  (case i6 => k_is)
  (case l6 => k_is)
  (case c6 => k_is)
  (case k6 => k_is)
  (case a7 => k_is)
  (case i7 => k_is)
  (case l7 => k_is)
  (case c7 => k_is)
  (case k7 => k_is)
  (case a8 => k_is)
  (case i8 => k_is)
  (case l8 => k_is)
  (case c8 => k_is)
  (case k8 => k_is)
  (case t8 => k_is)
  (case a9 => k_is)
  (case i9 => k_is)
  (case l9 => k_is)
  (case c9 => k_is)
  (case k9 => k_is)
  (case t9 => k_is)
  (case a10 => k_is)
  (case i10 => k_is)
  (case l10 => k_is)
  (case c10 => k_is)
  (case k10 => k_is)
  (case a11 => k_is)
  (case i11 => k_is)
  (case l11 => k_is)
  (case c11 => k_is)
  (case k11 => k_is)
  (case t11 => k_is)
  (case a12 => k_is)
  (case i12 => k_is)
  (case l12 => k_is)
  (case c12 => k_is)
  (case k12 => k_is)
  (case a13 => k_is)
  (case i13 => k_is)
  (case l13 => k_is)
  (case c13 => k_is)
  (case k13 => k_is)
  (case t13 => k_is)
  (case a14 => k_is)
  (case i14 => k_is)
  (case l14 => k_is)
  (case c14 => k_is)
  (case k14 => k_is)
  (case a15 => k_is)
  (case i15 => k_is)
  (case l15 => k_is)
  (case c15 => k_is)
  (case k15 => k_is)
  (case a16 => k_is)
  (case i16 => k_is)
  (case l16 => k_is)
  (case c16 => k_is)
  (case k16 => k_is)
  (case a17 => k_is)
  (case i17 => k_is)
  (case l17 => k_is)
  (case c17 => k_is)
  (case k17 => k_is)
  (case a18 => k_is)
  (case i18 => k_is)
  (case l18 => k_is)
  (case c18 => k_is)
  (case k18 => k_is)
  (case a19 => k_is)
  (case i19 => k_is)
  (case l19 => k_is)
  (case c19 => k_is)
  (case k19 => k_is)
  (case a20 => k_is)
  (case i20 => k_is)
  (case l20 => k_is)
  (case c20 => k_is)
  (case k20 => k_is)
  (case a21 => k_is)
  (case l21 => k_is)
  (case c21 => k_is)
  (case k21 => k_is)
  (case a22 => k_is)
  (case l22 => k_is)
  (case c22 => k_is)
  (case k22 => k_is)
  (case a23 => k_is)
  (case l23 => k_is)
  (case c23 => k_is)
  (case k23 => k_is)
  (case a24 => k_is)
  (case l24 => k_is)
  (case c24 => k_is)
  (case k24 => k_is)
  (case a25 => k_is)
  (case l25 => k_is)
  (case c25 => k_is)
  (case k25 => k_is)
  (case a26 => k_is)
  (case l26 => k_is)
  (case c26 => k_is)
  (case k26 => k_is)
  (case a27 => k_is)
  (case l27 => k_is)
  (case c27 => k_is)
  (case k27 => k_is)
  (case a28 => k_is)
  (case l28 => k_is)
  (case c28 => k_is)
  (case k28 => k_is)
  (case a29 => k_is)
  (case l29 => k_is)
  (case c29 => k_is)
  (case k29 => k_is)
  (case a30 => k_is)
  (case l30 => k_is)
  (case c30 => k_is)
  (case k30 => k_is)
  (case a31 => k_is)
  (case l31 => k_is)
  (case c31 => k_is)
  (case k31 => k_is)
  (case a32 => k_is)
  (case l32 => k_is)
  (case c32 => k_is)
  (case k32 => k_is)
  (case a33 => k_is)
  (case l33 => k_is)
  (case c33 => k_is)
  (case k33 => k_is)
  (case a34 => k_is)
  (case l34 => k_is)
  (case c34 => k_is)
  (case k34 => k_is)
  (case a35 => k_is)
  (case l35 => k_is)
  (case c35 => k_is)
  (case k35 => k_is)
  (case a36 => k_is)
  (case l36 => k_is)
  (case c36 => k_is)
  (case k36 => k_is)
  (case a37 => k_is)
  (case l37 => k_is)
  (case c37 => k_is)
  (case k37 => k_is)
  (case a38 => k_is)
  (case l38 => k_is)
  (case c38 => k_is)
  (case k38 => k_is)
  (case a39 => k_is)
  (case l39 => k_is)
  (case c39 => k_is)
  (case k39 => k_is)
  (case a40 => k_is)
  (case l40 => k_is)
  (case c40 => k_is)
  (case k40 => k_is)
  (case a41 => k_is)
  (case l41 => k_is)
  (case c41 => k_is)
  (case k41 => k_is)
  (case a42 => k_is)
  (case l42 => k_is)
  (case c42 => k_is)
  (case k42 => k_is)
  (case a43 => k_is)
  (case l43 => k_is)
  (case c43 => k_is)
  (case k43 => k_is)
  (case a44 => k_is)
  (case l44 => k_is)
  (case c44 => k_is)
  (case k44 => k_is)
  (case a45 => k_is)
  (case l45 => k_is)
  (case c45 => k_is)
  (case k45 => k_is)
  (case a46 => k_is)
  (case l46 => k_is)
  (case c46 => k_is)
  (case k46 => k_is)
  (case a47 => k_is)
  (case l47 => k_is)
  (case c47 => k_is)
  (case k47 => k_is)
  (case a48 => k_is)
  (case l48 => k_is)
  (case c48 => k_is)
  (case k48 => k_is)
  (case a49 => k_is)
  (case l49 => k_is)
  (case c49 => k_is)
  (case k49 => k_is)
  (case a50 => k_is)
  (case l50 => k_is)
  (case c50 => k_is)
  (case k50 => k_is)
  (case a51 => k_is)
  (case l51 => k_is)
  (case c51 => k_is)
  (case k51 => k_is)
  (case a52 => k_is)
  (case l52 => k_is)
  (case c52 => k_is)
  (case k52 => k_is)
  (case a53 => k_is)
  (case l53 => k_is)
  (case c53 => k_is)
  (case k53 => k_is)
  (case a54 => k_is)
  (case l54 => k_is)
  (case c54 => k_is)
  (case k54 => k_is)
  (case a55 => k_is)
  (case l55 => k_is)
  (case c55 => k_is)
  (case k55 => k_is)
  (case a56 => k_is)
  (case l56 => k_is)
  (case c56 => k_is)
  (case k56 => k_is)
  (case a57 => k_is)
  (case l57 => k_is)
  (case c57 => k_is)
  (case k57 => k_is)
  (case a58 => k_is)
  (case l58 => k_is)
  (case c58 => k_is)
  (case k58 => k_is)
  (case zisinstance => k_is)
  (case zstr => k_is)
  (case zbool => k_is)
  (case zlen => k_is)
  (case zall => k_is)
  (case zrange => k_is)
  (case zlist => k_is)
  (case zenumerate => k_is)
  (case zset => k_is)
  (case zmin => k_is)
  (case zmax => k_is)
  (case zint => k_is)
  (case ztuple => k_is)
  (case zsorted => k_is)
  (case gL => k_is)
  (case gN => k_is)
  (case gMP => k_is)
  (case gMB => k_is)
  (case ytP => k_is)
  (case utP => k_is)
  (case ytB => k_is)
  (case utB => k_is)
  (case ytO => k_is)
  (case utO => k_is)
  (case ysg => k_is)
  (case usg => k_is)
  (case yGr => k_is)
  (case lGr => k_is)
  (case kGr => k_keys)
  (case eG0 => k_is)
  (case eG1 => k_is)
  (case eG2 => k_is)
  (case eG3 => k_is)
  (case eG4 => k_is)
  (case dga => k_is)
  (case drd => k_is)
  (case dfc => k_is)
  (case h0_3 => k_is)
  (case h0_4 => k_is)
  (case h0_5 => k_is)
  (case h0_6 => k_is)
  (case h0_7 => k_is)
  (case h1_3 => k_is)
  (case h1_4 => k_is)
  (case h1_5 => k_is)
  (case h1_6 => k_is)
  (case h1_7 => k_is)
  (case h2_3 => k_is)
  (case h2_4 => k_is)
  (case h2_5 => k_is)
  (case h2_6 => k_is)
  (case h2_7 => k_is)
  (case h3_3 => k_is)
  (case h3_4 => k_is)
  (case h3_5 => k_is)
  (case h3_6 => k_is)
  (case h3_7 => k_is)
  (case h4_3 => k_is)
  (case h4_4 => k_is)
  (case h4_5 => k_is)
  (case h4_6 => k_is)
  (case h4_7 => k_is)
  (case xo => k_exc)
#print axioms PySem.Challenge.cw_callbinds_k25_whole_mended_calls_holds
