import PyProof.Rows.All
import Wide.All
import OpenK.AllK
import Wide.FinOn
import Lean
import PyProof.EqAt
import PyProof.EqKinds
import PyProof.TupleCall
import KE.KTryMore
import PyProof.ExcAttrAll.ValueError
import KE.KRevIter
import PyProof.SetNew
import PyProof.SetRoads
import PyProof.Rows.SetObj
import PyProof.DictCompW
import PyProof.DictItems
import PyProof.Rows.SetFrom
import PyProof.ListRange
import PyProof.Rows.Range3
import KE.IntBitsLaws
import PyProof.AttrMissHeap
import PyProof.FactsAll.bool_1
import KE.KDictOf
import PyProof.DictRoadsH
import PyProof.P3Eq
import PyProof.Rows.SortStr
import PyProof.Rows.SortWalk
import PyProof.FactsAll.set
import PyProof.CollectWalk
import PyProof.WalkInts
import PyProof.CollectIter
import KE.KMinBuiltin
import PyProof.Rows.CallKwBuiltin
import PyProof.ConsumeS
import PyProof.StrCalls2
import PyProof.StrLawsJoin
import PyProof.NeData
import KE.RegKIsAll
import KE.RegKTryMore
import PySem.Challenge.RW_callbinds_k33_whole_no_fewer
set_option Elab.async false
set_option linter.all false
set_option maxRecDepth 100000
set_option maxHeartbeats 4000000
open PySem.W (instObj methodObj lookIn plainGet hasDictIn findIn plainGet_of isFn plainOver takerIn makesIn emptyDict keepIn methodCall_KW kitOne kia_one callWith_K fnOf codeIn KeysLit nsIn mg_of Frag)
namespace L2
open PySem PySem.Spec PyProof.Rows
theorem zz0 : 0<=sizeLine:=by decide
theorem zz2 : 2<=sizeLine:=by decide
theorem zz1 : 1<=sizeLine:=by decide
theorem zz3 : 3<=sizeLine:=by decide
abbrev Key:=Sum Int Str
def jm:Key->Value->Bool
 | .inl k,v=>Value.isInt k v
 | .inr x,v=>Value.isStrOf x v
def zjN (w:World):Key->Int
 | .inl k=>hashInt k
 | .inr x=>hashStr w x
theorem yt:∀ {k:Key} {v:Value},jm k v = true->(∃ i t,k = Sum.inl i/\v = Value.int i t)\/(∃ x t,k = Sum.inr x/\v = Value.str x t)
 | .inl i,v,h=>by
  obtain ⟨t,e⟩:=Value.isInt_shape (k:=i) (v:=v) h
  exact .inl ⟨i,t,rfl,e⟩
 | .inr x,v,h=>by
  obtain ⟨t,e⟩:=Value.isStrOf_shape (x:=x) (v:=v) h
  exact .inr ⟨x,t,rfl,e⟩
theorem zdn (i:Int) (t:Tok):jm (.inl i) (.int i t) = true:=by simp [jm,Value.isInt]
theorem zdm (x:Str) (t:Tok):jm (.inr x) (.str x t) = true:=by simp [jm,Value.isStrOf]
theorem zid (a b:Int):decide ((Sum.inl a:Key) = Sum.inl b) = (a == b):=by
 by_cases e:a = b
 ·subst e; simp
 ·have h:¬ (Sum.inl a:Key) = Sum.inl b:=fun q=>e (Sum.inl.inj q)
  rw [decide_eq_false h]
  exact (beq_eq_false_iff_ne.mpr e).symm
theorem ze9 (a b:Str):decide ((Sum.inr a:Key) = Sum.inr b) = decide (a = b):=by
 by_cases e:a = b
 ·subst e; simp
 ·have h:¬ (Sum.inr a:Key) = Sum.inr b:=fun q=>e (Sum.inr.inj q)
  rw [decide_eq_false h,decide_eq_false e]
theorem zic (a:Int) (b:Str):decide ((Sum.inl a:Key) = Sum.inr b) = false:=decide_eq_false (fun q=>nomatch q)
theorem zib (a:Str) (b:Int):decide ((Sum.inr a:Key) = Sum.inl b) = false:=decide_eq_false (fun q=>nomatch q)
def yg (prog:Program) (w:World):PySem.KeyKind prog w Key where
 is:=jm
 hash:=zjN w
 inj:=fun v a b ha hb=>by
  rcases yt ha with ⟨i,t,rfl,rfl⟩ | ⟨x,t,rfl,rfl⟩
  ·rcases yt hb with ⟨j,u,rfl,e⟩ | ⟨y,u,rfl,e⟩
   ·injection e with e1 _; rw [e1]
   ·exact nomatch e
  ·rcases yt hb with ⟨j,u,rfl,e⟩ | ⟨y,u,rfl,e⟩
   ·exact nomatch e
   ·injection e with e1 _; rw [e1]
 byValue:=fun k v h=>by
  rcases yt h with ⟨i,t,rfl,rfl⟩ | ⟨x,t,rfl,rfl⟩ <;> rfl
 pyHash:=fun hv h=>by
  rcases yt hv with ⟨i,t,rfl,rfl⟩ | ⟨x,t,rfl,rfl⟩
  ·exact wpAny_pyHash_int h
  ·exact wpAny_pyHash_str h
 eqBool:=fun hu hv h=>by
  rcases yt hu with ⟨i,t,rfl,rfl⟩ | ⟨x,t,rfl,rfl⟩
  ·rcases yt hv with ⟨j,u,rfl,rfl⟩ | ⟨y,u,rfl,rfl⟩
   ·rw [zid] at h; exact wpAny_eqBool_int h
   ·rw [zic] at h; exact SeqAt.EqAt.int_str i t y u _ _ _ _ h
  ·rcases yt hv with ⟨j,u,rfl,rfl⟩ | ⟨y,u,rfl,rfl⟩
   ·rw [zib] at h; exact SeqAt.EqAt.str_int x t j u _ _ _ _ h
   ·rw [ze9] at h; exact wpAny_eqBool_str h
 «strs»:=fun k x t v h=>by
  rcases yt h with ⟨i,u,rfl,e⟩ | ⟨y,u,rfl,e⟩
  ·exact nomatch e
  ·injection e with e1 _
   subst e1
   cases v <;> rfl
theorem zaK (prog:Program) (w:World) (i:Int) (t:Tok):(yg prog w).is (.inl i) (.int i t) = true:=zdn i t
theorem zaJ (prog:Program) (w:World) (x:Str) (t:Tok):(yg prog w).is (.inr x) (.str x t) = true:=zdm x t
inductive V where
 | non | bl (b:Bool) | int (i:Int) | str (x:Str) | byt (b:Array UInt8) | flt (b:UInt64) | ref (a:Addr) | ty (n:String)
 deriving DecidableEq
def zR:V->Value->Prop
 | .non,u=>u = Value.none
 | .bl b,u=>u = Value.bool b
 | .int i,u=>∃ t,u = Value.int i t
 | .str x,u=>∃ t,u = Value.str x t
 | .byt b,u=>∃ t,u = Value.bytes b t
 | .flt b,u=>∃ t,u = Value.float b t
 | .ref a,u=>u = Value.ref a
 | .ty n,u=>u = Value.type n
abbrev zS:List V->List Value->Prop:=Paired zR
theorem zS.length {xs:List V} {us:List Value} (r:zS xs us):xs.length = us.length:=Paired.length r
theorem zS.get:∀ {xs:List V} {us:List Value} {i:Nat} {x:V},zS xs us->xs[i]? = some x->∃ u,us[i]? = some u/\zR x u
 | _,_,_,_,.nil,e=>by simp at e
 | _,_,0,_,.cons r _,e=>by simp at e; subst e; exact ⟨_,rfl,r⟩
 | _,_,i + 1,x,.cons _ t,e=>by
  obtain ⟨u,h1,h2⟩:=zS.get (i:=i) (x:=x) t (by simpa using e)
  exact ⟨u,by simpa using h1,h2⟩
theorem zS.append:∀ {xs ys:List V} {us ws:List Value},zS xs us->zS ys ws->zS (xs ++ ys) (us ++ ws)
 | _,_,_,_,.nil,s=>s
 | _,_,_,_,.cons r t,s=>.cons r (zS.append t s)
theorem zS.take:∀ {xs:List V} {us:List Value} (n:Nat),zS xs us->zS (xs.take n) (us.take n)
 | _,_,0,_=>.nil
 | _,_,_ + 1,.nil=>.nil
 | _,_,n + 1,.cons r t=>.cons r (zS.take n t)
theorem zS.drop:∀ {xs:List V} {us:List Value} (n:Nat),zS xs us->zS (xs.drop n) (us.drop n)
 | _,_,0,r=>r
 | _,_,_ + 1,.nil=>.nil
 | _,_,n + 1,.cons _ t=>zS.drop n t
def wF:Option V->Option Value->Prop
 | some v,some u=>zR v u
 | none,none=>True
 | _,_=>False
def KV {κ : Type}:List (κ × V)->List (κ × Value)->Prop:=Paired fun (p : κ × V) (q : κ × Value)=>p.1 = q.1/\zR p.2 q.2
def kV:Key->V
 | .inl i=>.int i
 | .inr x=>.str x
inductive HO where
 | lst (xs:List V)
 | tup (xs:List V)
 | dK (kvs:List (Key × V)) | dT (kvs:List (List Key × V))
 | set (S:Int->Bool) (n:Nat)
 | ins (C dx:Addr) (fs:List (Str × V))
 | own (x:Addr)
 | xd (fs:List (Str × V))
 | met (f x:Addr)
 | rng (lo hi:Int)
 | frz (o:Obj) (u:HO)
 | tbl (ps:Array Value)
 | ext (φ : Heap->Prop)
abbrev Hp:=Addr->Option HO
def upd (H:Hp) (a:Addr) (o:HO):Hp:=fun b=>if b = a then some o else H b
theorem za {H:Hp} {a:Addr} {o:HO}:upd H a o a = some o:=by unfold upd; rw [if_pos rfl]
theorem zg {H:Hp} {a b:Addr} {o:HO} (h:b ≠ a):upd H a o b = H b:=by unfold upd; rw [if_neg h]
theorem qe {H:Hp} {a:Addr} {o u:HO}:upd (upd H a o) a u = upd H a u:=by
 funext b; unfold upd; split <;> rfl
theorem xA {H:Hp} {a b:Addr} {o u:HO} (h:H a = some o) (h':H b = some u) (d:o ≠ u):a ≠ b:=by
 intro e; subst e; rw [h] at h'; exact d (Option.some.inj h')
theorem zf {H:Hp} {a b:Addr} {o:HO} (h:H a = some o) (h':H b = none):a ≠ b:=by
 intro e; subst e; rw [h] at h'; cases h'
section
variable (P:Program) (w:World)
def yy (H:Hp) (h:Heap) (a:Addr):HO->Prop
 | .lst xs=>xs.length<=sizeLine/\∃ (its:List Value) (n:Nat),zS xs its/\h.get? a = some { cls:=.type "list",data:=.seq its.toArray n }
 | .tup xs=>xs.length<=sizeLine/\∃ its:List Value,zS xs its/\IsTup h a its.toArray
 | .dK kvs=>kvs.length<=sizeLine/\(a == sysModules) = false/\∃ vs,KV kvs vs/\h.DictOf (yg P w) a vs
 | .dT kvs=>kvs.length<=sizeLine/\(a == sysModules) = false/\∃ xs:List (List Key × Addr × Value),
   Paired (fun (p:List Key × V) (q:List Key × Addr × Value)=>p.1 = q.1/\H q.2.1 = some (.tup (p.1.map kV))/\zR p.2 q.2.2) kvs xs/\
   ∃ o es ep,h.get? a = some o/\o.ExactDict/\o.data = .dict es ep/\es.toList = xs.map (entryOfKey (tupleKind (yg P w)))/\(xs.map (·.1)).Nodup
 | .set S n=>h.SetOf (intKind P w) a S n
 | .ins C dx fs=>H dx = some (.own a)/\fs.length<=1000/\dx ≠ a/\h.get? a = some (instObj C dx)/\
   ∃ mA,h.Ns1 dx mA/\(∀ f,wF (fs.lookup f) (mA f))/\PySem.Within mA (fs.map (·.1))
 | .own _=>∃ o,h.get? a = some o
 | .xd fs=>∃ mA,h.Ns1 a mA/\∀ f,wF (fs.lookup f) (mA f)
 | .rng lo hi=>∃ t u v,h.get? a = some { cls:=.type "range",data:=.fields #[.int lo t,.int hi u,.int 1 v] }
 | .frz o u=>h.get? a = some o/\yy H h a u
 | .tbl ps=>h.get? a = some { cls:=.none,data:=.fields ps }
 | .met f x=>h.get? a = some (methodObj (.ref f) (.ref x))
 | .ext φ=>φ h/\(∃ o,h.get? a = some o)/\∀ h1 h2:Heap,φ h1->(∀ o,h1.get? a = some o->h2.get? a = some o)->φ h2
def HOk (H:Hp) (h:Heap):Prop:=∀ a o,H a = some o->yy P w H h a o
end
section
variable {P:Program} {w:World} {H H':Hp} {h h':Heap} {a:Addr} {o:HO}
theorem yy.lt (x:yy P w H h a o):a < h.objs.size:=by
 cases o with
 | lst xs=>obtain ⟨_,_,_,_,e⟩:=x; exact Heap.lt_size e
 | tup xs=>obtain ⟨_,_,_,p⟩:=x; exact p.lt
 | dK kvs=>obtain ⟨_,_,_,_,o,_,_,e,_⟩:=x; exact Heap.lt_size e
 | dT kvs=>obtain ⟨_,_,_,_,o,_,_,e,_⟩:=x; exact Heap.lt_size e
 | set S n=>obtain ⟨o,_,_,_,e,_⟩:=x; exact Heap.lt_size e
 | ins C dx fs=>obtain ⟨_,_,_,e,_⟩:=x; exact Heap.lt_size e
 | own y=>obtain ⟨_,e⟩:=x; exact Heap.lt_size e
 | xd fs=>obtain ⟨_,⟨_,_,_,e,_⟩,_⟩:=x; exact Heap.lt_size e
 | rng lo hi=>obtain ⟨_,_,_,e⟩:=x; exact Heap.lt_size e
 | frz ob u=>obtain ⟨e,_⟩:=x; exact Heap.lt_size e
 | tbl ps=>exact Heap.lt_size (show h.get? a = some _ from x)
 | met f y=>exact Heap.lt_size (show h.get? a = some _ from x)
 | ext φ=>obtain ⟨_,⟨_,e⟩,_⟩:=x; exact Heap.lt_size e
theorem Paired.mapP {α β : Type} {F G : α->β->Prop}:∀ {l₁:List α} {l₂:List β},Paired F l₁ l₂->(∀ a b,F a b->G a b)->Paired G l₁ l₂
 | _,_,.nil,_=>.nil
 | _,_,.cons r t,f=>.cons (f _ _ r) (Paired.mapP t f)
theorem Paired.imp' {α β : Type} {F G : α->β->Prop} (f:∀ a b,F a b->G a b) {l₁:List α} {l₂:List β} (r:Paired F l₁ l₂):Paired G l₁ l₂:=Paired.mapP r f
theorem yy.stay (x:yy P w H h a o) (k:∀ b u,(b = a\/H b = some (.own a))->h.get? b = some u->h'.get? b = some u)
  (ho:∀ b,H b = some (.own a)->H' b = some (.own a)) (ht:∀ b xs,H b = some (.tup xs)->H' b = some (.tup xs)):yy P w H' h' a o:=by
 induction o with
 | lst xs=>obtain ⟨z,its,n,r,e⟩:=x; exact ⟨z,its,n,r,k _ _ (.inl rfl) e⟩
 | tup xs=>obtain ⟨z,its,r,ob,e,c⟩:=x; exact ⟨z,its,r,ob,k _ _ (.inl rfl) e,c⟩
 | dK kvs=>obtain ⟨z,y,vs,r,ob,es,ep,e,c⟩:=x; exact ⟨z,y,vs,r,ob,es,ep,k _ _ (.inl rfl) e,c⟩
 | dT kvs=>
  obtain ⟨z,y,xs,r,ob,es,ep,e,c⟩:=x
  exact ⟨z,y,xs,Paired.mapP r fun p q z=>⟨z.1,ht _ _ z.2.1,z.2.2⟩,ob,es,ep,k _ _ (.inl rfl) e,c⟩
 | set S n=>obtain ⟨ob,es,ep,t,e,c⟩:=x; exact ⟨ob,es,ep,t,k _ _ (.inl rfl) e,c⟩
 | ins C dx fs=>
  obtain ⟨d,z,ne,e,mA,⟨od,es,ep,e2,c⟩,r⟩:=x
  exact ⟨ho _ d,z,ne,k _ _ (.inl rfl) e,mA,⟨od,es,ep,k _ _ (.inr d) e2,c⟩,r⟩
 | own y=>obtain ⟨ob,e⟩:=x; exact ⟨ob,k _ _ (.inl rfl) e⟩
 | xd fs=>obtain ⟨mA,⟨od,es,ep,e,c⟩,r⟩:=x; exact ⟨mA,⟨od,es,ep,k _ _ (.inl rfl) e,c⟩,r⟩
 | rng lo hi=>obtain ⟨t,u,v,e⟩:=x; exact ⟨t,u,v,k _ _ (.inl rfl) e⟩
 | frz ob u ih=>obtain ⟨e,q⟩:=x; exact ⟨k _ _ (.inl rfl) e,ih q⟩
 | tbl ps=>
  have e:h.get? a = some { cls:=.none,data:=.fields ps }:=x
  show h'.get? a = some { cls:=.none,data:=.fields ps }
  exact k a _ (.inl rfl) e
 | met f y=>
  have e:h.get? a = some (methodObj (.ref f) (.ref y)):=x
  show h'.get? a = some (methodObj (.ref f) (.ref y))
  exact k a _ (.inl rfl) e
 | ext φ=>obtain ⟨p,⟨o,e⟩,st⟩:=x; exact ⟨st _ _ p fun o q=>k _ _ (.inl rfl) q,⟨o,k _ _ (.inl rfl) e⟩,st⟩
theorem HOk.lt (x:HOk P w H h) (e:H a = some o):a < h.objs.size:=(x a o e).lt
theorem HOk.fresh (x:HOk P w H h) (e:h.objs.size<=a):H a = none:=by
 cases q:H a with
 | none=>rfl
 | some u=>exact absurd (Nat.lt_of_lt_of_le (x.lt q) e) (Nat.lt_irrefl _)
theorem HOk.kept (x:HOk P w H h) (k:∀ b u,h.get? b = some u->h'.get? b = some u):HOk P w H h':=fun a o e=>
 (x a o e).stay (fun b u _ q=>k b u q) (fun _ q=>q) fun _ _ q=>q
theorem HOk.laid (x:HOk P w H h) (k:∀ b u,h.get? b = some u->h'.get? b = some u) (hp:h.objs.size<=a) (new:yy P w (upd H a o) h' a o):HOk P w (upd H a o) h':=fun b u e=>by
 have hn:=x.fresh hp
 by_cases hb:b = a
 ·subst hb; rw [za] at e; cases e; exact new
 ·rw [zg hb] at e
  exact (x b u e).stay (fun c v _ q=>k c v q) (fun c q=>by rw [zg (zf q hn)]; exact q) fun c xs q=>by rw [zg (zf q hn)]; exact q
end
def Rd (H:Hp) (a:Addr) (u:HO):Prop:=H a = some u\/∃ o,H a = some (.frz o u)
theorem Rd.ok {P:Program} {w:World} {H:Hp} {h:Heap} {a:Addr} {u:HO} (r:Rd H a u) (x:HOk P w H h):yy P w H h a u:=by
 rcases r with r | ⟨o,r⟩
 ·exact x a u r
 ·obtain ⟨_,q⟩:=x a _ r
  exact q
def Mut:Option HO->Prop
 | some (.lst _)=>True
 | some (.dK _)=>True
 | some (.dT _)=>True
 | some (.set _ _)=>True
 | some (.ins _ _ _)=>True
 | some (.ext _)=>True
 | _=>False
section
variable {P:Program} {w:World} {H:Hp} {h h':Heap} {x e:Addr} {o':HO}
theorem HOk.write (ok:HOk P w H h) (mu:Mut (H x)) (he:e = x\/H e = some (.own x)) (k:∀ b u,b ≠ e->h.get? b = some u->h'.get? b = some u) (heo:∃ u,h'.get? e = some u)
  (new:yy P w (upd H x o') h' x o'):HOk P w (upd H x o') h':=fun b u q=>by
 have nown:∀ c y,H c = some (.own y)->c ≠ x:=fun c y r z=>by subst z; rw [r] at mu; exact mu
 have ntup:∀ c xs,H c = some (.tup xs)->c ≠ x:=fun c xs r z=>by subst z; rw [r] at mu; exact mu
 by_cases hb:b = x
 ·subst hb; rw [za] at q; cases q; exact new
 ·rw [zg hb] at q
  by_cases hbe:b = e
  ·have q':H b = some (.own x):=by
    rcases he with z | z
    ·exact absurd (hbe.trans z) hb
    ·rw [hbe]; exact z
   rw [q] at q'; cases q'
   obtain ⟨v,hv⟩:=heo
   exact ⟨v,by rw [hbe]; exact hv⟩
  ·refine (ok b u q).stay (fun c v hc r=>k c v ?_ r) (fun c r=>by rw [zg (nown c b r)]; exact r) fun c xs r=>by rw [zg (ntup c xs r)]; exact r
   rcases hc with rfl | hc
   ·exact hbe
   ·rintro rfl
    rcases he with z | z
    ·exact nown c b hc z
    ·rw [hc] at z; cases z; exact hb rfl
end
structure Un (fs ex:List Addr) (H H':Hp) (h h':Heap):Prop where
 keep:∀ b o,h.get? b = some o->H b = none->b ∉ fs->b ∉ ex->h'.get? b = some o
 slot:∀ b o,h.get? b = some o->H b = none->b ∈ fs->b ∉ ex->∃ sl,h'.get? b = some { o with slots:=sl }
 free:∀ b o,h.get? b = some o->H b = none->b ∉ ex->H' b = none
 there:∀ b o,h.get? b = some o->b ∉ ex->∃ o',h'.get? b = some o'
 tups:∀ b xs,H b = some (.tup xs)->H' b = some (.tup xs)
 frzs:∀ b o u,H b = some (.frz o u)->H' b = some (.frz o u)
 tbls:∀ b ps,H b = some (.tbl ps)->∃ more,H' b = some (.tbl (ps ++ more))
section
variable {fs fs' ex ex':List Addr} {H H1 H2:Hp} {h h1 h2 h':Heap} {a x e:Addr} {o:HO}
theorem Un.any (u:Un fs ex H H1 h h1) {b:Addr} {ob:Obj} (q:h.get? b = some ob) (n:H b = none) (hx:b ∉ ex):∃ sl,h1.get? b = some { ob with slots:=sl }:=by
 by_cases hb:b ∈ fs
 ·exact u.slot b ob q n hb hx
 ·exact ⟨ob.slots,u.keep b ob q n hb hx⟩
theorem Un.kept (k:∀ b u,h.get? b = some u->h'.get? b = some u):Un fs ex H H h h':=
 ⟨fun b ob q _ _ _=>k b ob q,fun b ob q _ _ _=>⟨ob.slots,k b ob q⟩,fun _ _ _ n _=>n,fun b ob q _=>⟨ob,k b ob q⟩,fun _ _ q=>q,fun _ _ _ q=>q,fun _ ps q=>⟨#[],by rw [q]; simp⟩⟩
theorem Un.refl:Un fs ex H H h h:=Un.kept fun _ _ q=>q
theorem Un.laid (k:∀ b u,h.get? b = some u->h'.get? b = some u) (hp:h.objs.size<=a) (hn:H a = none):Un fs ex H (upd H a o) h h' where
 keep:=fun b u q _ _ _=>k b u q
 slot:=fun b u q _ _ _=>⟨u.slots,k b u q⟩
 free:=fun b u q n _=>by rw [zg (Nat.ne_of_lt (Nat.lt_of_lt_of_le (Heap.lt_size q) hp))]; exact n
 there:=fun b u q _=>⟨u,k b u q⟩
 tups:=fun b xs q=>by rw [zg (zf q hn)]; exact q
 frzs:=fun b u xs q=>by rw [zg (zf q hn)]; exact q
 tbls:=fun b ps q=>⟨#[],by rw [zg (zf q hn),q]; simp⟩
theorem Un.write (mu:Mut (H x)) (he:e = x\/H e = some (.own x)) (k:∀ b u,b ≠ e->h.get? b = some u->h'.get? b = some u) (heo:∃ u,h'.get? e = some u):Un fs ex H (upd H x o) h h':=by
 have hx:∀ b,H b = none->b ≠ x:=fun b n z=>by subst z; rw [n] at mu; exact mu
 have hb:∀ b,H b = none->b ≠ e:=fun b n z=>by
  subst z
  rcases he with r | r
  ·exact hx b n r
  ·rw [n] at r; cases r
 have hm:∀ b u,H b = some u->¬ Mut (some u)->b ≠ x:=fun b u q nm z=>by subst z; rw [q] at mu; exact nm mu
 refine ⟨fun b u q n _ _=>k b u (hb b n) q,fun b u q n _ _=>⟨u.slots,k b u (hb b n) q⟩,fun b u q n _=>by rw [zg (hx b n)]; exact n,fun b u q _=>?_,
  fun b xs q=>by rw [zg (hm b _ q fun z=>z)]; exact q,fun b u xs q=>by rw [zg (hm b _ q fun z=>z)]; exact q,fun b ps q=>⟨#[],by rw [zg (hm b _ q fun z=>z),q]; simp⟩⟩
 by_cases hbe:b = e
 ·subst hbe; exact heo
 ·exact ⟨u,k b u hbe q⟩
end
def trk (h:Heap) (H:Hp):List Addr:=(List.range h.objs.size).filter fun a=>(H a).isSome
def qO (h:Heap) (H:Hp):Heap:=PySem.W.hideAll h (trk h H)
theorem zdq (h:Heap) (H:Hp):(qO h H).objs.size = h.objs.size:=PySem.W.hideAll_size _ _
theorem zfc {h:Heap} {H:Hp} {b:Addr} {o:Obj} (e:h.get? b = some o) (n:H b = none):(qO h H).get? b = some o:=
 PySem.W.hideAll_get _ e fun hm=>by
  have q:(H b).isSome = true:=(List.mem_filter.mp hm).2
  rw [n] at q; simp at q
theorem zgp {h:Heap} {H:Hp} {b:Addr} {o:Obj} (e:(qO h H).get? b = some o):h.get? b = some o/\H b = none:=by
 have e':h.get? b = some o:=PySem.W.of_hideAll (trk h H) e
 refine ⟨e',?_⟩
 cases q:H b with
 | none=>rfl
 | some x=>
  have hm:b ∈ trk h H:=List.mem_filter.mpr ⟨List.mem_range.mpr (Heap.lt_size e'),by simp [q]⟩
  have z:(qO h H).get? b = none:=PySem.W.hideAll_none (trk h H) hm
  rw [z] at e; cases e
def zgP (g h:Heap) (L:Addr):List (Addr × Obj):=(List.range h.objs.size).filterMap fun a=>if a = L\/(g.get? a).isSome = true then none else (h.get? a).map fun o=>(a,o)
def rest (g h:Heap) (L d:Addr):List (Addr × Obj):=(zgP g h L).filter fun p=>decide (p.1 ≠ d)
structure Mod (K:Frag) (mg:Str->Option Value) (base:Heap):Prop where
 kin:K.In base
 glob:base.Ns mainGlobals mg
 blt:∃ mb,base.Ns builtinsNs mb/\∀ x:Str,x ≠ "__name__"->mb x = bootBuiltins x
 nolimit:base.NoLimit
structure Cx where
 prog:Program
 w:World
 K:Frag
 mg:Str->Option Value
 base:Heap
 A:Around
 N:List Str
 s₀:Shared
 H₀:Hp
 env:Env
 outer:List Env
 stack:List Env
 ex:List Addr
 fn:Str->Bool
 calm:Bool
 pn:List (Addr × Obj)
 xe:Value->Shared->Prop
def frs (l:List Env):List Addr:=l.filterMap (·.frame)
abbrev Cx.fs (X:Cx):List Addr:=frs X.outer
def Vis (sc:Scope) (x:Str):Prop:=sc.names.lookup x = some .local\/sc.names.lookup x = some .cell\/sc.names.lookup x = some .free
def Loc (sc:Scope) (x:Str):Prop:=sc.names.lookup x = some .local\/sc.names.lookup x = some .cell
def zjY (env:Env) (h:Heap) (m:Str->Option Value) (x:Str) (u:Value):Prop:=
 (env.kindOf x = some .local/\m x = some u)\/((env.kindOf x = some .cell\/env.kindOf x = some .free)/\∃ c,env.cells.lookup x = some c/\h.IsCell c (some u))
structure Cx.Ok (X:Cx):Prop where
 mod:Mod X.K X.mg X.base
 kind:X.env.scope.kind = .function
 glob:X.env.globals = mainGlobals
 blt:X.env.builtins = builtinsNs
 above:X.s₀.heap.objs.size<=X.env.locals
 inj:∀ x y c,X.env.cells.lookup x = some c->X.env.cells.lookup y = some c->x = y
 has:∀ x,(X.env.kindOf x = some .cell\/X.env.kindOf x = some .free)->∃ c,X.env.cells.lookup x = some c
 cab:∀ x c,X.fn x = true->X.env.cells.lookup x = some c->X.s₀.heap.objs.size<=c
 hd:X.calm = true->X.A.handled = none
 frames:X.A.frames = some X.stack
 stk:X.stack = X.outer\/(X.stack = X.env :: X.outer/\X.env.frame = some X.env.locals)
 exf:∀ b ∈ X.ex,b ≠ X.env.locals/\∀ x c,X.env.cells.lookup x = some c->c ≠ b
 bs:∀ b o,X.base.get? b = some o->X.s₀.heap.get? b = some o/\X.H₀ b = none
 bsz:X.base.objs.size<=X.s₀.heap.objs.size
 noex:∀ b o,X.base.get? b = some o->b ∉ X.ex
 exfs:∀ b ∈ X.ex,b ∉ X.fs
 funs:X.s₀.heap.FunFrames X.base X.outer
 frf:∀ b ∈ X.fs,X.H₀ b = none
structure Inv (X:Cx) (pins:List (Addr × Obj)) (σ : List (Option V)) (H:Hp) (s:Shared):Prop where
 ok:X.Ok
 os:s.os = X.s₀.os
 bare:AllBare s.gens
 base:Un X.fs X.ex X.H₀ H X.s₀.heap s.heap
 loc:∃ m,s.heap.Ns X.env.locals m/\∀ (i:Nat) (x:Str) (v:V),X.N[i]? = some x->σ[i]? = some (some v)->Vis X.env.scope x->∃ u,zR v u/\zjY X.env s.heap m x u
 cell:∀ x c,X.env.cells.lookup x = some c->∃ v,s.heap.IsCell c v
 free:H X.env.locals = none
 freeC:∀ x c,X.env.cells.lookup x = some c->H c = none
 pin:∀ p ∈ X.pn ++ pins,s.heap.get? p.1 = some p.2/\H p.1 = none/\p.1 ≠ X.env.locals/\p.1 ∉ X.fs/\∀ v,p.2.data ≠ .cell v
 hok:HOk X.prog X.w H s.heap
 len : σ.length = X.N.length
section
variable {X:Cx} {pins:List (Addr × Obj)} {σ : List (Option V)} {H H':Hp} {s:Shared} {h':Heap}
theorem Cx.Ok.nofr (ok:X.Ok) {b:Addr} {o:Obj} (e:X.base.get? b = some o):b ∉ X.fs:=fun hb=>by
 have:=(ok.funs.mem hb).1
 rw [e] at this; cases this
theorem Inv.bs (I:Inv X pins σ H s):∀ b o,X.base.get? b = some o->s.heap.get? b = some o/\H b = none:=fun b o e=>
 ⟨I.base.keep b o (I.ok.bs b o e).1 (I.ok.bs b o e).2 (I.ok.nofr e) (I.ok.noex b o e),I.base.free b o (I.ok.bs b o e).1 (I.ok.bs b o e).2 (I.ok.noex b o e)⟩
theorem Inv.bk (I:Inv X pins σ H s):∀ b o,X.base.get? b = some o->s.heap.get? b = some o:=fun b o e=>(I.bs b o e).1
theorem Inv.mod (I:Inv X pins σ H s):Mod X.K X.mg X.base:=I.ok.mod
theorem Inv.kIn (I:Inv X pins σ H s):X.K.In s.heap:=I.ok.mod.kin.keeps I.bk
theorem Inv.fr (I:Inv X pins σ H s):∃ m,Fr X.base X.env.locals s.heap m:=
 let ⟨m,hn,_⟩:=I.loc
 ⟨m,hn,I.bk,Nat.le_trans I.ok.bsz I.ok.above⟩
theorem Inv.lt (I:Inv X pins σ H s):X.env.locals < s.heap.objs.size:=let ⟨_,hn,_⟩:=I.loc; hn.lt
theorem Inv.sz (I:Inv X pins σ H s):X.s₀.heap.objs.size<=s.heap.objs.size:=Nat.le_trans I.ok.above (Nat.le_of_lt I.lt)
theorem Inv.nofs (I:Inv X pins σ H s) {a:Addr} (h:s.heap.objs.size<=a):a ∉ X.fs:=fun hb=>by
 obtain ⟨_,o,ho,_⟩:=I.ok.funs.mem hb
 exact absurd (Nat.lt_of_lt_of_le (Heap.lt_size ho) (Nat.le_trans I.sz h)) (Nat.lt_irrefl _)
theorem Inv.cne (I:Inv X pins σ H s):∀ x c,X.env.cells.lookup x = some c->c ≠ X.env.locals:=fun x c e z=>by
 obtain ⟨v,o,ho,hd⟩:=I.cell x c e
 obtain ⟨m,⟨o',es,ep,ho',hd',_⟩,_⟩:=I.loc
 rw [z,ho'] at ho; cases ho; rw [hd'] at hd; cases hd
theorem Inv.funs (I:Inv X pins σ H s):s.heap.FunFrames X.base X.outer:=by
 have all:∀ (l:List Env),(∀ b ∈ frs l,b ∈ X.fs)->X.s₀.heap.FunFrames X.base l->s.heap.FunFrames X.base l:=by
  intro l
  induction l with
  | nil=>intro _ _; trivial
  | cons env r ih=>
   intro hs hl
   obtain ⟨hk,⟨L,o,hf,hn,ho,hd⟩,hr⟩:=hl
   have hL:L ∈ X.fs:=hs L (by unfold frs; rw [List.filterMap_cons,hf]; exact List.mem_cons_self)
   obtain ⟨sl,e⟩:=I.base.slot L o ho (I.ok.frf L hL) hL fun z=>I.ok.exfs L z hL
   exact ⟨hk,⟨L,_,hf,hn,e,hd⟩,ih (fun b hb=>hs b (by unfold frs; rw [List.filterMap_cons,hf]; exact List.mem_cons_of_mem _ hb)) hr⟩
 exact all X.outer (fun _ hb=>hb) I.ok.funs
theorem Inv.stack (I:Inv X pins σ H s):s.heap.FunFrames X.base X.stack:=by
 rcases I.ok.stk with e | ⟨e,hf⟩
 ·rw [e]; exact I.funs
 ·rw [e]
  obtain ⟨m,hn,_⟩:=I.loc
  refine .cons (by rw [I.ok.kind]; decide) hf hn ?_ I.funs
  exact Heap.get?_none_of_le (Nat.le_trans I.ok.bsz I.ok.above)
theorem Inv.stkSub (I:Inv X pins σ H s):∀ b ∈ frs X.stack,b ∈ X.env.locals :: X.fs:=fun b hb=>by
 rcases I.ok.stk with e | ⟨e,hf⟩
 ·rw [e] at hb; exact List.mem_cons_of_mem _ hb
 ·rw [e] at hb
  unfold frs at hb
  rw [List.filterMap_cons,hf] at hb
  exact hb
theorem Inv.stkFree (I:Inv X pins σ H s):∀ b ∈ frs X.stack,H b = none:=fun b hb=>by
 rcases List.mem_cons.mp (I.stkSub b hb) with e | hb
 ·rw [e]; exact I.free
 ·obtain ⟨_,o,ho,_⟩:=I.ok.funs.mem hb
  exact I.base.free b o ho (I.ok.frf b hb) fun z=>I.ok.exfs b z hb
theorem Inv.step {g':Array GenState} {t':Nat} {d':Drawn} {ch:List Addr} (I:Inv X pins σ H s)
  (hch:∀ b ∈ ch,(b ∈ X.ex\/X.s₀.heap.objs.size<=b)/\b ≠ X.env.locals/\(∀ x c,X.env.cells.lookup x = some c->c ≠ b)/\∀ p ∈ X.pn ++ pins,p.1 ≠ b)
  (keep:∀ b o,b ≠ X.env.locals->b ∉ X.fs->b ∉ ch->s.heap.get? b = some o->H b = none->h'.get? b = some o)
  (slot:∀ b o,b ≠ X.env.locals->b ∈ X.fs->b ∉ ch->s.heap.get? b = some o->H b = none->∃ sl,h'.get? b = some { o with slots:=sl }) (free:∀ b o,b ∉ ch->s.heap.get? b = some o->H b = none->H' b = none)
  (there:∀ b o,b ∉ ch->s.heap.get? b = some o->∃ o',h'.get? b = some o')
  (tups:∀ b xs,H b = some (.tup xs)->H' b = some (.tup xs)) (frzs:∀ b o u,H b = some (.frz o u)->H' b = some (.frz o u)) (tbls:∀ b ps,H b = some (.tbl ps)->∃ more,H' b = some (.tbl (ps ++ more)))
  (ns:∀ m,s.heap.Ns X.env.locals m->h'.Ns X.env.locals m) (hok:HOk X.prog X.w H' h') (hg:AllBare g') :
  Inv X pins σ H' { s with heap:=h',gens:=g',drawn:=d',toks:=t' }:=by
 have neL:∀ b o,X.s₀.heap.get? b = some o->b ≠ X.env.locals:=fun b o e=>Nat.ne_of_lt (Nat.lt_of_lt_of_le (Heap.lt_size e) I.ok.above)
 have neC:∀ b o,X.s₀.heap.get? b = some o->b ∉ X.ex->b ∉ ch:=fun b o e hx hb=>by
  rcases (hch b hb).1 with z | z
  ·exact hx z
  ·exact absurd (Nat.lt_of_lt_of_le (Heap.lt_size e) z) (Nat.lt_irrefl _)
 have cellK:∀ x c,X.env.cells.lookup x = some c->∀ v,s.heap.IsCell c v->h'.IsCell c v:=fun x c e v ⟨o,ho,hd⟩=>by
  have nch:c ∉ ch:=fun z=>(hch c z).2.2.1 x c e rfl
  by_cases hc:c ∈ X.fs
  ·obtain ⟨sl,q⟩:=slot c o (I.cne x c e) hc nch ho (I.freeC x c e)
   exact ⟨_,q,hd⟩
  ·exact ⟨o,keep c o (I.cne x c e) hc nch ho (I.freeC x c e),hd⟩
 refine ⟨I.ok,I.os,hg,⟨fun b o e n hb hx=>?_,fun b o e n hb hx=>?_,fun b o e n hx=>?_,fun b o e hx=>?_,fun b xs e=>tups b xs (I.base.tups b xs e),fun b o xs e=>frzs b o xs (I.base.frzs b o xs e),fun b ps e=>?_⟩,?_,fun x c e=>?_,?_,fun x c e=>?_,fun p hp=>?_,hok,I.len⟩
 ·exact keep b o (neL b o e) hb (neC b o e hx) (I.base.keep b o e n hb hx) (I.base.free b o e n hx)
 ·obtain ⟨sl,e1⟩:=I.base.slot b o e n hb hx
  obtain ⟨sl',e2⟩:=slot b _ (neL b o e) hb (neC b o e hx) e1 (I.base.free b o e n hx)
  exact ⟨sl',e2⟩
 ·obtain ⟨o',e1⟩:=I.base.there b o e hx
  exact free b o' (neC b o e hx) e1 (I.base.free b o e n hx)
 ·obtain ⟨o',e1⟩:=I.base.there b o e hx
  exact there b o' (neC b o e hx) e1
 ·obtain ⟨m1,e1⟩:=I.base.tbls b ps e
  obtain ⟨m2,e2⟩:=tbls b _ e1
  exact ⟨m1 ++ m2,by rw [e2,Array.append_assoc]⟩
 ·obtain ⟨m,hn,hl⟩:=I.loc
  refine ⟨m,ns m hn,fun i x v e1 e2 e3=>?_⟩
  obtain ⟨u,r,l⟩:=hl i x v e1 e2 e3
  refine ⟨u,r,?_⟩
  rcases l with l | ⟨k,c,e,z⟩
  ·exact .inl l
  ·exact .inr ⟨k,c,e,cellK x c e _ z⟩
 ·obtain ⟨v,z⟩:=I.cell x c e
  exact ⟨v,cellK x c e v z⟩
 ·obtain ⟨m,⟨o,_,_,ho,_⟩,_⟩:=I.loc
  exact free _ o (fun z=>(hch _ z).2.1 rfl) ho I.free
 ·obtain ⟨v,o,ho,hd⟩:=I.cell x c e
  exact free c o (fun z=>(hch c z).2.2.1 x c e rfl) ho (I.freeC x c e)
 ·obtain ⟨e,n,ne,nf,d⟩:=I.pin p hp
  have nch:p.1 ∉ ch:=fun z=>(hch p.1 z).2.2.2 p hp rfl
  exact ⟨keep p.1 p.2 ne nf nch e n,free p.1 p.2 nch e n,ne,nf,d⟩
theorem Inv.un {t':Nat} (I:Inv X pins σ H s) (u:Un X.fs [] H H' s.heap h') (hok:HOk X.prog X.w H' h'):Inv X pins σ H' { s with heap:=h',toks:=t' }:=by
 obtain ⟨m,⟨o,es,ep,ho,r⟩,_⟩:=id I.loc
 obtain ⟨sl,hL⟩:=u.any ho I.free (by simp)
 exact I.step (g':=s.gens) (d':=s.drawn) (ch:=[]) (fun _ z=>nomatch z) (fun b o _ hb _ e n=>u.keep b o e n hb (by simp)) (fun b o _ hb _ e n=>u.slot b o e n hb (by simp)) (fun b o _ e n=>u.free b o e n (by simp)) (fun b o _ e=>u.there b o e (by simp)) u.tups u.frzs u.tbls (fun m' hm=>by
  obtain ⟨o',es',ep',ho',r'⟩:=hm
  rw [ho] at ho'; cases ho'
  exact ⟨_,es',ep',hL,r'⟩) hok I.bare
theorem Inv.call {g':Array GenState} {t':Nat} {d':Drawn} {ch:List Addr} (I:Inv X pins σ H s) (u:Un (frs X.stack) ch H H' s.heap h') (hok:HOk X.prog X.w H' h') (hg:AllBare g')
  (hch:∀ b ∈ ch,(b ∈ X.ex\/X.s₀.heap.objs.size<=b)/\b ≠ X.env.locals/\(∀ x c,X.env.cells.lookup x = some c->c ≠ b)/\∀ p ∈ X.pn ++ pins,p.1 ≠ b) :
  Inv X pins σ H' { s with heap:=h',gens:=g',drawn:=d',toks:=t' }:=by
 obtain ⟨m,⟨o,es,ep,ho,r⟩,_⟩:=id I.loc
 obtain ⟨sl,hL⟩:=u.any ho I.free fun z=>(hch _ z).2.1 rfl
 exact I.step (ch:=ch) hch (fun b o hL hb hc e n=>u.keep b o e n (fun z=>(List.mem_cons.mp (I.stkSub b z)).elim hL hb) hc) (fun b o _ _ hc e n=>u.any e n hc) (fun b o hc e n=>u.free b o e n hc) (fun b o hc e=>u.there b o e hc) u.tups u.frzs u.tbls (fun m' hm=>by
  obtain ⟨o',es',ep',ho',r'⟩:=hm
  rw [ho] at ho'; cases ho'
  exact ⟨_,es',ep',hL,r'⟩) hok hg
theorem Inv.turned {t':Nat} {it:Addr} (I:Inv X pins σ H s) (k:∀ b o,b ≠ it->s.heap.get? b = some o->h'.get? b = some o) (hn:H it = none) (hL:it ≠ X.env.locals)
  (h1:it ∈ X.ex\/X.s₀.heap.objs.size<=it) (h2:∀ x c,X.env.cells.lookup x = some c->c ≠ it) (h3:∀ p ∈ X.pn ++ pins,p.1 ≠ it):Inv X pins σ H { s with heap:=h',toks:=t' }:=by
 have nit:∀ b u,H b = some u->b ≠ it:=fun b u e z=>by rw [z,hn] at e; cases e
 refine I.step (g':=s.gens) (d':=s.drawn) (ch:=[it]) (fun b hb=>?_) (fun b o _ _ hc e _=>k b o (fun z=>hc (by simp [z])) e) (fun b o _ _ hc e _=>⟨o.slots,k b o (fun z=>hc (by simp [z])) e⟩) (fun _ _ _ _ n=>n)
  (fun b o hc e=>⟨o,k b o (fun z=>hc (by simp [z])) e⟩) (fun _ _ e=>e) (fun _ _ _ e=>e) (fun b ps e=>⟨#[],by rw [e]; simp⟩) (fun m hm=>?_) (fun b u e=>?_) I.bare
 ·have e:b = it:=by simpa using hb
  subst e
  exact ⟨h1,hL,h2,h3⟩
 ·obtain ⟨o,es,ep,ho,r⟩:=hm
  exact ⟨o,es,ep,k _ o (Ne.symm hL) ho,r⟩
 ·refine (I.hok b u e).stay (fun c v hc q=>k c v ?_ q) (fun _ q=>q) fun _ _ q=>q
  rcases hc with z | z
  ·rw [z]; exact nit b u e
  ·exact nit c _ z
theorem Inv.tok (I:Inv X pins σ H s) (t:Nat):Inv X pins σ H { s with toks:=t }:=I.un (h':=s.heap) (t':=t) Un.refl I.hok
theorem Inv.kept {t':Nat} (I:Inv X pins σ H s) (k:∀ b u,s.heap.get? b = some u->h'.get? b = some u):Inv X pins σ H { s with heap:=h',toks:=t' }:=I.un (Un.kept k) (I.hok.kept k)
theorem Inv.laid {a:Addr} {o:HO} {t':Nat} (I:Inv X pins σ H s) (k:∀ b u,s.heap.get? b = some u->h'.get? b = some u) (hp:s.heap.objs.size<=a) (new:yy X.prog X.w (upd H a o) h' a o) :
  Inv X pins σ (upd H a o) { s with heap:=h',toks:=t' }:=I.un (Un.laid k hp (I.hok.fresh hp)) (I.hok.laid k hp new)
theorem Inv.write {x e:Addr} {o:HO} {t':Nat} (I:Inv X pins σ H s) (mu:Mut (H x)) (he:e = x\/H e = some (.own x)) (k:∀ b u,b ≠ e->s.heap.get? b = some u->h'.get? b = some u) (heo:∃ u,h'.get? e = some u)
  (new:yy X.prog X.w (upd H x o) h' x o):Inv X pins σ (upd H x o) { s with heap:=h',toks:=t' }:=I.un (Un.write mu he k heo) (I.hok.write mu he k heo new)
theorem Inv.weak {σ':List (Option V)} (I:Inv X pins σ H s) (hl : σ'.length = σ.length) (w:∀ (i:Nat) v,σ'[i]? = some (some v)->σ[i]? = some (some v)):Inv X pins σ' H s:=
 ⟨I.ok,I.os,I.bare,I.base,let ⟨m,hn,hl'⟩:=I.loc; ⟨m,hn,fun i x v e1 e2 e3=>hl' i x v e1 (w i v e2) e3⟩,I.cell,I.free,I.freeC,I.pin,I.hok,hl.trans I.len⟩
theorem Inv.pins_of {pins':List (Addr × Obj)} (I:Inv X pins σ H s) (h:∀ p ∈ pins',s.heap.get? p.1 = some p.2/\H p.1 = none/\p.1 ≠ X.env.locals/\p.1 ∉ X.fs/\∀ v,p.2.data ≠ .cell v):Inv X pins' σ H s:=
 ⟨I.ok,I.os,I.bare,I.base,I.loc,I.cell,I.free,I.freeC,fun p hp=>(List.mem_append.mp hp).elim (fun z=>I.pin p (List.mem_append_left _ z)) (h p),I.hok,I.len⟩
theorem zaH {N:List Str} (hN:N.Nodup) {i j:Nat} {x:Str} (a:N[i]? = some x) (b:N[j]? = some x):i = j:=by
 obtain ⟨h1,e1⟩:=List.getElem?_eq_some_iff.mp a
 obtain ⟨h2,e2⟩:=List.getElem?_eq_some_iff.mp b
 exact (List.getElem_inj hN).mp (e1.trans e2.symm)
theorem jF {M:Model} {A:Around} {E:Value->Shared->Prop} {i:Nat} {x:Str} {v:V} {u:Value} {Q:Unit->Shared->Prop} (I:Inv X pins σ H s) (hN:X.N.Nodup) (hi:X.N[i]? = some x) (hx:Loc X.env.scope x) (r:zR v u)
  (h:∀ s',Inv X pins (σ.set i (some v)) H s'->(∃ a,Heap.SameBut a s.heap s'.heap/\(a = X.env.locals\/X.env.cells.lookup x = some a))->Q () s') (hf:X.fn x = true\/X.env.scope.names.lookup x = some .local:=by first | exact .inl rfl | exact .inr rfl | assumption):wpAny M A (storeName X.env x u) Q E s:=by
 obtain ⟨m,hn,hl⟩:=id I.loc
 have hcls:(X.env.scope.kind == .class || (X.env.scope.kind == .module && X.env.locals != X.env.globals)) = false:=by rw [I.ok.kind]; rfl
 have hiσ : i < σ.length:=by rw [I.len]; exact (List.getElem?_eq_some_iff.mp hi).1
 have cne:=I.cne
 have tracked:∀ {a:Addr} {h':Heap},(∃ o,s.heap.get? a = some o/\H a = none)->Heap.SameBut a s.heap h'->HOk X.prog X.w H h':=fun {a h'} ha hs b ob e=>by
  obtain ⟨_,_,hfree⟩:=ha
  refine (I.hok b ob e).stay (fun c w' hc q=>(hs.2 c ?_).trans q) (fun _ q=>q) fun _ _ q=>q
  rintro rfl
  rcases hc with rfl | hc
  ·rw [hfree] at e; cases e
  ·rw [hfree] at hc; cases hc
 rcases hx with hk | hk
 ·refine wpAny_storeName_local hk hn (fun h' hn' hs=>?_) hcls
  obtain ⟨oL,_,_,hoL,_⟩:=id hn
  refine h _ ⟨I.ok,I.os,I.bare,⟨fun b o e n hb hx=>?_,fun b o e n hb hx=>?_,I.base.free,fun b o e hx=>?_,I.base.tups,I.base.frzs,I.base.tbls⟩,⟨_,hn',fun j y v' e1 e2 e3=>?_⟩,fun y c e=>?_,I.free,I.freeC,fun p hp=>?_,tracked ⟨oL,hoL,I.free⟩ hs,by simpa using I.len⟩ ⟨_,hs,.inl rfl⟩
  ·exact (hs.2 b (Nat.ne_of_lt (Nat.lt_of_lt_of_le (Heap.lt_size e) I.ok.above))).trans (I.base.keep b o e n hb hx)
  ·obtain ⟨sl,e1⟩:=I.base.slot b o e n hb hx
   exact ⟨sl,(hs.2 b (Nat.ne_of_lt (Nat.lt_of_lt_of_le (Heap.lt_size e) I.ok.above))).trans e1⟩
  ·obtain ⟨o',e1⟩:=I.base.there b o e hx
   exact ⟨o',(hs.2 b (Nat.ne_of_lt (Nat.lt_of_lt_of_le (Heap.lt_size e) I.ok.above))).trans e1⟩
  ·by_cases hj:j = i
   ·subst hj
    rw [hi] at e1; cases e1
    rw [List.getElem?_set_self hiσ] at e2
    cases e2
    exact ⟨u,r,.inl ⟨hk,by simp⟩⟩
   ·rw [List.getElem?_set_ne (Ne.symm hj)] at e2
    obtain ⟨u',r',q⟩:=hl j y v' e1 e2 e3
    refine ⟨u',r',?_⟩
    rcases q with ⟨k,e⟩ | ⟨k,c,e,z⟩
    ·refine .inl ⟨k,?_⟩
     have:y ≠ x:=fun e=>hj (zaH hN e1 (e ▸ hi))
     simp [this,e]
    ·exact .inr ⟨k,c,e,z.sameBut hs (cne y c e)⟩
  ·obtain ⟨w',z⟩:=I.cell y c e
   exact ⟨w',z.sameBut hs (cne y c e)⟩
  ·obtain ⟨e,n,ne,nf,d⟩:=I.pin p hp
   exact ⟨(hs.2 p.1 ne).trans e,n,ne,nf,d⟩
 ·have hfn:X.fn x = true:=by
   rcases hf with z | z
   ·exact z
   ·rw [z] at hk; cases hk
  obtain ⟨c,hc⟩:=I.ok.has x (.inl hk)
  obtain ⟨w',z⟩:=I.cell x c hc
  refine wpAny_storeName_cell I.ok.kind hk hc z (fun h' hc' hs=>?_)
  obtain ⟨oc,hoc,hocd⟩:=id z
  refine h { s with heap:=h' } ⟨I.ok,I.os,I.bare,⟨fun b o e n hb hx=>?_,fun b o e n hb hx=>?_,I.base.free,fun b o e hx=>?_,I.base.tups,I.base.frzs,I.base.tbls⟩,⟨m,hn.sameBut hs (Ne.symm (cne x c hc)),fun j y v' e1 e2 e3=>?_⟩,fun y c' e=>?_,I.free,I.freeC,fun p hp=>?_,tracked ⟨oc,hoc,I.freeC x c hc⟩ hs,by simpa using I.len⟩ ⟨c,hs,.inr hc⟩
  ·exact (hs.2 b (Nat.ne_of_lt (Nat.lt_of_lt_of_le (Heap.lt_size e) (I.ok.cab x c hfn hc)))).trans (I.base.keep b o e n hb hx)
  ·obtain ⟨sl,e1⟩:=I.base.slot b o e n hb hx
   exact ⟨sl,(hs.2 b (Nat.ne_of_lt (Nat.lt_of_lt_of_le (Heap.lt_size e) (I.ok.cab x c hfn hc)))).trans e1⟩
  ·obtain ⟨o',e1⟩:=I.base.there b o e hx
   exact ⟨o',(hs.2 b (Nat.ne_of_lt (Nat.lt_of_lt_of_le (Heap.lt_size e) (I.ok.cab x c hfn hc)))).trans e1⟩
  ·by_cases hj:j = i
   ·subst hj
    rw [hi] at e1; cases e1
    rw [List.getElem?_set_self hiσ] at e2
    cases e2
    exact ⟨u,r,.inr ⟨.inl hk,c,hc,hc'⟩⟩
   ·rw [List.getElem?_set_ne (Ne.symm hj)] at e2
    obtain ⟨u',r',q⟩:=hl j y v' e1 e2 e3
    refine ⟨u',r',?_⟩
    rcases q with q | ⟨k,c',e,z'⟩
    ·exact .inl q
    ·refine .inr ⟨k,c',e,z'.sameBut hs ?_⟩
     rintro rfl
     exact hj (zaH hN e1 (I.ok.inj _ _ _ e hc ▸ hi))
  ·by_cases hcc:c' = c
   ·subst hcc; exact ⟨_,hc'⟩
   ·obtain ⟨w2,z2⟩:=I.cell y c' e
    exact ⟨w2,z2.sameBut hs hcc⟩
  ·obtain ⟨e,n,ne,nf,d⟩:=I.pin p hp
   refine ⟨(hs.2 p.1 ?_).trans e,n,ne,nf,d⟩
   intro q
   rw [q,hoc] at e
   have q':oc = p.2:=Option.some.inj e
   exact d w' (by rw [<- q']; exact hocd)
theorem zah {M:Model} {A:Around} {E:Value->Shared->Prop} {i:Nat} {x:Str} {v:V} {u:Value} {Q:Unit->Shared->Prop} (I:Inv X pins σ H s) (hN:X.N.Nodup) (hi:X.N[i]? = some x) (hx:Loc X.env.scope x) (r:zR v u)
  (h:∀ s',Inv X pins (σ.set i (some v)) H s'->Q () s') (hf:X.fn x = true\/X.env.scope.names.lookup x = some .local:=by first | exact .inl rfl | exact .inr rfl | assumption):wpAny M A (storeName X.env x u) Q E s:=
 jF I hN hi hx r (fun s' I' _=>h s' I') hf
theorem Inv.call' {s':Shared} {ch:List Addr} (I:Inv X pins σ H s) (ho:s'.os = s.os) (u:Un (frs X.stack) ch H H' s.heap s'.heap) (hok:HOk X.prog X.w H' s'.heap) (hg:AllBare s'.gens)
  (hch:∀ b ∈ ch,(b ∈ X.ex\/X.s₀.heap.objs.size<=b)/\b ≠ X.env.locals/\(∀ x c,X.env.cells.lookup x = some c->c ≠ b)/\∀ p ∈ X.pn ++ pins,p.1 ≠ b):Inv X pins σ H' s':=by
 obtain ⟨h',g',d',t',o'⟩:=s'
 have e:o' = s.os:=ho
 subst e
 exact I.call (g':=g') (t':=t') (d':=d') u hok hg hch
end
abbrev XK:=Value->Option Addr->Hp->Prop
abbrev St:=List (Option V)
abbrev VK:=V->Hp->Prop
abbrev TE:=St->Hp->VK->Prop
abbrev TT:=St->Hp->(Bool->Hp->Prop)->Prop
abbrev TA:=St->Hp->(List V->Hp->Prop)->Prop
structure uj where
 nx:St->Hp->Prop
 rt:VK
 bk:St->Hp->Prop:=fun _ _=>False
 ct:St->Hp->Prop:=fun _ _=>False
abbrev TS:=uj->St->Hp->Prop
def EP (X:Cx) (pins:List (Addr × Obj)) (σ : St) (Q:VK) (u:Value) (s':Shared):Prop:=∃ v H',Inv X pins σ H' s'/\zR v u/\Q v H'
def TP (X:Cx) (pins:List (Addr × Obj)) (σ : St) (Q:Bool->Hp->Prop) (b:Bool) (s':Shared):Prop:=∃ H',Inv X pins σ H' s'/\Q b H'
def AP (X:Cx) (pins:List (Addr × Obj)) (σ : St) (Q:List V->Hp->Prop) (us:List Value) (s':Shared):Prop:=∃ vs H',Inv X pins σ H' s'/\zS vs us/\Q vs H'
def SP (X:Cx) (pins:List (Addr × Obj)) (D:uj) (f:Flow) (s':Shared):Prop:=
 match f with
 | .next=>∃ σ' H',Inv X pins σ' H' s'/\D.nx σ' H'
 | .brk=>∃ σ' H',Inv X pins σ' H' s'/\D.bk σ' H'
 | .cont=>∃ σ' H',Inv X pins σ' H' s'/\D.ct σ' H'
 | .ret u=>∃ v σ' H',Inv X pins σ' H' s'/\zR v u/\D.rt v H'
structure PE (X:Cx) (e:Expr) (t:TE):Prop where
 run:∀ (pins:List (Addr × Obj)) (s:Shared) (σ : St) (H:Hp) (Q:VK),Inv X pins σ H s->t σ H Q->wpAny (model X.prog X.w) X.A (eval e X.env) (EP X pins σ Q) X.xe s
instance {X:Cx} {e:Expr} {t:TE}:CoeFun (PE X e t) (fun _=>∀ (pins:List (Addr × Obj)) (s:Shared) (σ : St) (H:Hp) (Q:VK),Inv X pins σ H s->t σ H Q->wpAny (model X.prog X.w) X.A (eval e X.env) (EP X pins σ Q) X.xe s):=⟨PE.run⟩
structure PT (X:Cx) (e:Expr) (t:TT):Prop where
 run:∀ (pins:List (Addr × Obj)) (s:Shared) (σ : St) (H:Hp) (Q:Bool->Hp->Prop),Inv X pins σ H s->t σ H Q->wpAny (model X.prog X.w) X.A (isTrue e X.env (eval e X.env)) (TP X pins σ Q) X.xe s
instance {X:Cx} {e:Expr} {t:TT}:CoeFun (PT X e t) (fun _=>∀ (pins:List (Addr × Obj)) (s:Shared) (σ : St) (H:Hp) (Q:Bool->Hp->Prop),Inv X pins σ H s->t σ H Q->wpAny (model X.prog X.w) X.A (isTrue e X.env (eval e X.env)) (TP X pins σ Q) X.xe s):=⟨PT.run⟩
structure PW (X:Cx) (e:Expr) (t:TT):Prop where
 run:∀ (whole:Sem Value) (pins:List (Addr × Obj)) (s:Shared) (σ : St) (H:Hp) (Q:Bool->Hp->Prop),Inv X pins σ H s->t σ H Q->wpAny (model X.prog X.w) X.A (isTrue e X.env whole) (TP X pins σ Q) X.xe s
instance {X:Cx} {e:Expr} {t:TT}:CoeFun (PW X e t) (fun _=>∀ (whole:Sem Value) (pins:List (Addr × Obj)) (s:Shared) (σ : St) (H:Hp) (Q:Bool->Hp->Prop),Inv X pins σ H s->t σ H Q->wpAny (model X.prog X.w) X.A (isTrue e X.env whole) (TP X pins σ Q) X.xe s):=⟨PW.run⟩
theorem PW.pt {X:Cx} {e:Expr} {t:TT} (h:PW X e t):PT X e t:=⟨h _⟩
structure PA (X:Cx) (es:List Expr) (t:TA):Prop where
 run:∀ (pos:Pos) (pins:List (Addr × Obj)) (s:Shared) (σ : St) (H:Hp) (Q:List V->Hp->Prop),Inv X pins σ H s->t σ H Q->wpAny (model X.prog X.w) X.A (spliced (backTo pos (starEach es X.env))) (AP X pins σ Q) X.xe s
instance {X:Cx} {es:List Expr} {t:TA}:CoeFun (PA X es t) (fun _=>∀ (pos:Pos) (pins:List (Addr × Obj)) (s:Shared) (σ : St) (H:Hp) (Q:List V->Hp->Prop),Inv X pins σ H s->t σ H Q->wpAny (model X.prog X.w) X.A (spliced (backTo pos (starEach es X.env))) (AP X pins σ Q) X.xe s):=⟨PA.run⟩
structure PS (X:Cx) (st:Stmt) (t:TS):Prop where
 run:∀ (pins:List (Addr × Obj)) (s:Shared) (σ : St) (H:Hp) (D:uj),Inv X pins σ H s->t D σ H->wpAny (model X.prog X.w) X.A (exec st X.env) (SP X pins D) X.xe s
instance {X:Cx} {st:Stmt} {t:TS}:CoeFun (PS X st t) (fun _=>∀ (pins:List (Addr × Obj)) (s:Shared) (σ : St) (H:Hp) (D:uj),Inv X pins σ H s->t D σ H->wpAny (model X.prog X.w) X.A (exec st X.env) (SP X pins D) X.xe s):=⟨PS.run⟩
structure PSs (X:Cx) (st:List Stmt) (t:TS):Prop where
 run:∀ (pins:List (Addr × Obj)) (s:Shared) (σ : St) (H:Hp) (D:uj),Inv X pins σ H s->t D σ H->wpAny (model X.prog X.w) X.A (execs st X.env) (SP X pins D) X.xe s
instance {X:Cx} {st:List Stmt} {t:TS}:CoeFun (PSs X st t) (fun _=>∀ (pins:List (Addr × Obj)) (s:Shared) (σ : St) (H:Hp) (D:uj),Inv X pins σ H s->t D σ H->wpAny (model X.prog X.w) X.A (execs st X.env) (SP X pins D) X.xe s):=⟨PSs.run⟩
theorem thn {α : Type} {t:Sem α} {Q Q' : α->Shared->Prop} {M:Model} {A:Around} {E:Value->Shared->Prop} {s:Shared} (h:wpAny M A t Q E s) (hQ:∀ a s,Q a s->Q' a s):wpAny M A t Q' E s:=wpAny_mono h hQ fun _ _ x=>x
section
variable {X:Cx}
theorem bin {a b:Expr} {ta tb:TE} (ha:PE X a ta) (hb:PE X b tb) {pins:List (Addr × Obj)} {s:Shared} {σ : St} {H:Hp} {R:V->V->Hp->Prop} (I:Inv X pins σ H s) (h:ta σ H fun x H1=>tb σ H1 fun y H2=>R x y H2)
  {α : Type} {Q : α->Shared->Prop} {f:Value->Value->Sem α}
  (hf:∀ v u s2 x y H2,Inv X pins σ H2 s2->zR x v->zR y u->R x y H2->wpAny (model X.prog X.w) X.A (f v u) Q X.xe s2) :
  wpAny (model X.prog X.w) X.A (eval a X.env) (fun v s₁=>wpAny (model X.prog X.w) X.A (eval b X.env) (fun u s₂=>wpAny (model X.prog X.w) X.A (f v u) Q X.xe s₂) X.xe s₁) X.xe s:=by
 refine thn (ha pins s σ H _ I h) fun v s1 ⟨x,H1,I1,r1,q1⟩=>?_
 refine thn (hb pins s1 σ H1 _ I1 q1) fun u s2 ⟨y,H2,I2,r2,q2⟩=>?_
 exact hf v u s2 x y H2 I2 r1 r2 q2
inductive zj0 (i:Nat) (σ : St) (H:Hp) (Q:VK):Prop where
 | mk (v:V) (e : σ[i]? = some (some v)) (q:Q v H)
def ziv (i:Nat):TE:=fun σ H Q=>zj0 i σ H Q
def tC (v:V):TE:=fun _ H Q=>Q v H
theorem zhU {i:Nat} {x:Str} {pos:Pos} (hN:X.N[i]? = some x) (hv:Vis X.env.scope x) (hd:(x == ("__debug__" : Str)) = false:=by decide) (hcd:(x == ("__classdict__" : Str)) = false:=by decide):PE X (.Name x pos) (ziv i):=by
 refine ⟨?_⟩
 intro pins s σ H Q I h
 obtain ⟨v,e,h⟩:=h
 obtain ⟨m,hn,hl⟩:=I.loc
 obtain ⟨u,r,l⟩:=hl i x v hN e hv
 have fin:EP X pins σ Q u s:=⟨v,H,I,r,h⟩
 rcases l with ⟨hk,hm⟩ | ⟨hk,c,hc,hcell⟩
 ·exact wpAny_Name (wpAny_loadName_local I.ok.kind hk hn hm fin) hd
 ·rcases hk with hk | hk
  ·exact wpAny_Name (wpAny_loadName_cell I.ok.kind hk hc hcell fin) hd
  ·exact wpAny_Name (wpAny_loadName_free I.ok.kind hk hc hcell fin hcd) hd
theorem ze {i j pos}:PE X (.Constant (.int i) j pos) (tC (.int i)):=⟨fun _ _ _ H _ I h=>wpAny_Constant_int ⟨.int i,H,I.tok _,⟨_,rfl⟩,h⟩⟩
theorem xw {b j pos}:PE X (.Constant (.bool b) j pos) (tC (.bl b)):=⟨fun _ _ _ H _ I h=>Constant_bool ⟨.bl b,H,I,rfl,h⟩⟩
theorem uZ {j pos}:PE X (.Constant .none j pos) (tC .non):=⟨fun _ _ _ H _ I h=>Constant_none ⟨.non,H,I,rfl,h⟩⟩
theorem zn {x j pos}:PE X (.Constant (.str x) j pos) (tC (.str x)):=⟨fun _ _ _ H _ I h=>Calls.Constant_str ⟨.str x,H,I.tok _,⟨_,rfl⟩,h⟩⟩
def Gl (X:Cx) (x:Str):Prop:=X.env.kindOf x = some .globalImplicit
theorem vG {E:Value->Shared->Prop} {pins:List (Addr × Obj)} {s:Shared} {σ : St} {H:Hp} {x:Str} {u:Value} {pos:Pos} {Q:Value->Shared->Prop} (I:Inv X pins σ H s) (hg:Gl X x) (hm:X.mg x = some u) (h:Q u s)
  (hd:(x == ("__debug__" : Str)) = false:=by decide):wpAny (model X.prog X.w) X.A (eval (.Name x pos) X.env) Q E s:=
 Calls.Name_function_global I.ok.kind hg (Calls.loadGlobal_global (by rw [I.ok.glob]; exact I.mod.glob.keeps I.bk) hm h) hd
theorem xN {E:Value->Shared->Prop} {pins:List (Addr × Obj)} {s:Shared} {σ : St} {H:Hp} {x:Str} {u:Value} {pos:Pos} {Q:Value->Shared->Prop} (I:Inv X pins σ H s) (hg:Gl X x) (hm:X.mg x = none) (hv:bootBuiltins x = some u) (h:Q u s)
  (hn:x ≠ "__name__":=by decide) (hd:(x == ("__debug__" : Str)) = false:=by decide):wpAny (model X.prog X.w) X.A (eval (.Name x pos) X.env) Q E s:=by
 obtain ⟨mb,h1,h2⟩:=I.mod.blt
 exact Calls.Name_function_global I.ok.kind hg (Calls.loadGlobal_builtin (by rw [I.ok.glob]; exact I.mod.glob.keeps I.bk) hm (by rw [I.ok.blt]; exact h1.keeps I.bk) ((h2 x hn).trans hv) h) hd
theorem wy {x:Str} {v:V} {u:Value} {pos:Pos} (hg:Gl X x) (hm:X.mg x = some u) (r:zR v u) (hd:(x == ("__debug__" : Str)) = false:=by decide):PE X (.Name x pos) (tC v):=⟨fun _ _ _ H _ I h=>vG I hg hm ⟨v,H,I,r,h⟩ hd⟩
theorem zcA {x:Str} {v:V} {u:Value} {pos:Pos} (hg:Gl X x) (hm:X.mg x = none) (hv:bootBuiltins x = some u) (r:zR v u) (hn:x ≠ "__name__":=by decide) (hd:(x == ("__debug__" : Str)) = false:=by decide):PE X (.Name x pos) (tC v):=⟨fun _ _ _ H _ I h=>xN I hg hm hv ⟨v,H,I,r,h⟩ hn hd⟩
variable {a b:Expr} {ta tb:TE} {pos:Pos}
structure PC (X:Cx) (op:CmpOp) (a b:Expr) (t:TE):Prop where
 run:∀ (pins:List (Addr × Obj)) (s:Shared) (σ : St) (H:Hp) (Q:VK),Inv X pins σ H s->t σ H Q->
  wpAny (model X.prog X.w) X.A (eval a X.env) (fun v s₁=>wpAny (model X.prog X.w) X.A (eval b X.env) (fun u s₂=>wpAny (model X.prog X.w) X.A (compareOp op v u) (EP X pins σ Q) X.xe s₂) X.xe s₁) X.xe s
instance {X:Cx} {op:CmpOp} {a b:Expr} {t:TE}:CoeFun (PC X op a b t) (fun _=>∀ (pins:List (Addr × Obj)) (s:Shared) (σ : St) (H:Hp) (Q:VK),Inv X pins σ H s->t σ H Q->
  wpAny (model X.prog X.w) X.A (eval a X.env) (fun v s₁=>wpAny (model X.prog X.w) X.A (eval b X.env) (fun u s₂=>wpAny (model X.prog X.w) X.A (compareOp op v u) (EP X pins σ Q) X.xe s₂) X.xe s₁) X.xe s):=⟨PC.run⟩
theorem zeV (b:Expr) {op:CmpOp} (h:op ≠ .In) (h2:op ≠ .NotIn):behindInMarks op b = false:=by
 have e1:(op == CmpOp.In) = false:=by cases op <;> first | rfl | exact absurd rfl h
 have e2:(op == CmpOp.NotIn) = false:=by cases op <;> first | rfl | exact absurd rfl h2
 cases b <;> simp [behindInMarks,e1,e2]
def zjj (ta:TE):TE:=fun σ H Q=>ta σ H fun x H1=>Q (.bl (decide (x = .non))) H1
def ziz (ta:TE):TE:=fun σ H Q=>ta σ H fun x H1=>Q (.bl (!decide (x = .non))) H1
theorem zR.none_iff {x:V} {v:Value} (r:zR x v):(v == Value.none) = decide (x = .non):=by
 cases x with
 | non=>cases r; rfl
 | bl _=>cases r; rfl
 | int _=>obtain ⟨t,rfl⟩:=r; rfl
 | str _=>obtain ⟨t,rfl⟩:=r; rfl
 | byt _=>obtain ⟨t,rfl⟩:=r; rfl
 | flt _=>obtain ⟨t,rfl⟩:=r; rfl
 | ref _=>cases r; rfl
 | ty _=>cases r; rfl
theorem zbF {j pos'} (ha:PE X a ta):PC X .Is a (.Constant .none j pos') (zjj ta):=by
 refine ⟨?_⟩
 intro pins s σ H Q I h
 refine thn (ha pins s σ H _ I h) fun v s1 ⟨x,H1,I1,r1,q1⟩=>?_
 exact Constant_none (is_none_gen ⟨.bl _,H1,I1,by rw [r1.none_iff]; rfl,q1⟩)
theorem zcB {j pos'} (ha:PE X a ta):PC X .IsNot a (.Constant .none j pos') (ziz ta):=by
 refine ⟨?_⟩
 intro pins s σ H Q I h
 refine thn (ha pins s σ H _ I h) fun v s1 ⟨x,H1,I1,r1,q1⟩=>?_
 exact Constant_none (isnot_none_gen ⟨.bl _,H1,I1,by rw [r1.none_iff]; rfl,q1⟩)
def tB (t:TE):TT:=fun σ H Q=>t σ H fun x H1=>∃ c,x = .bl c/\Q c H1
theorem x8 {op:CmpOp} {t:TE} (h:PC X op a b t) (h1:behindInMarks op b = false:=by first | exact zeV _ (by decide) (by decide) | rfl):PT X (.Compare a [op] [b] pos) (tB t):=by
 refine ⟨?_⟩
 intro pins s σ H Q I hw
 refine wpAny_isTrue_Compare1 (thn (h pins s σ H _ I hw) fun v s1 h1=>thn h1 fun u s2 h2=>thn h2 fun c s3 ⟨x,H1,I1,r1,q1⟩=>?_) h1
 obtain ⟨d,rfl,q⟩:=q1
 cases r1
 exact wpAny_truthy_bool ⟨H1,I1,q⟩
theorem yz {e:Expr} {t:TE} (h:PE X e t) (he:∀ whole,isTrue e X.env whole = (do let v <- whole; standAt e.pos; holding [v] (truthy v)):=by intro _; rfl):PT X e (tB t):=by
 refine ⟨?_⟩
 intro pins s σ H Q I hw
 refine isTrue_plain (thn (h pins s σ H _ I hw) fun v s1 ⟨x,H1,I1,r1,q1⟩=>?_) (he _)
 obtain ⟨d,rfl,q⟩:=q1
 cases r1
 exact wpAny_truthy_bool ⟨H1,I1,q⟩
variable {tA tB':TT} {rest:List Expr}
def zjo (t u:TT):TT:=fun σ H Q=>t σ H fun c H1=>if c = true then u σ H1 Q else Q false H1
def tOr (t u:TT):TT:=fun σ H Q=>t σ H fun c H1=>if c = true then Q true H1 else u σ H1 Q
def zjh (t:TT):TT:=fun σ H Q=>t σ H fun c H1=>Q (!c) H1
theorem z4 (ha:PT X a tA):PW X (.BoolOp .And [a] pos) tA:=by
 refine ⟨?_⟩
 intro wh pins s σ H Q I h
 refine isTrue_and (thn (ha pins s σ H Q I h) fun c s1 e=>?_)
 cases c with
 | true=>exact isTrue_and_nil e
 | false=>exact e
theorem x6 (ha:PT X a tA):PW X (.BoolOp .Or [a] pos) tA:=by
 refine ⟨?_⟩
 intro wh pins s σ H Q I h
 refine isTrue_or (thn (ha pins s σ H Q I h) fun c s1 e=>?_)
 cases c with
 | false=>exact isTrue_or_nil e
 | true=>exact e
theorem yb (ha:PT X a tA) (hb:PW X (.BoolOp .And (b :: rest) pos) tB'):PW X (.BoolOp .And (a :: b :: rest) pos) (zjo tA tB'):=by
 refine ⟨?_⟩
 intro wh pins s σ H Q I h
 refine isTrue_and (thn (ha pins s σ H _ I h) fun c s1 ⟨H1,I1,q1⟩=>?_)
 cases c with
 | true=>exact hb wh pins s1 σ H1 Q I1 q1
 | false=>exact ⟨H1,I1,q1⟩
theorem wI (ha:PT X a tA) (hb:PW X (.BoolOp .Or (b :: rest) pos) tB'):PW X (.BoolOp .Or (a :: b :: rest) pos) (tOr tA tB'):=by
 refine ⟨?_⟩
 intro wh pins s σ H Q I h
 refine isTrue_or (thn (ha pins s σ H _ I h) fun c s1 ⟨H1,I1,q1⟩=>?_)
 cases c with
 | true=>exact ⟨H1,I1,q1⟩
 | false=>exact hb wh pins s1 σ H1 Q I1 q1
theorem xy (ha:PT X a tA):PT X (.UnaryOp .Not a pos) (zjh tA):=by
 refine ⟨?_⟩
 intro pins s σ H Q I h
 exact isTrue_not (ha pins s σ H (fun c H1=>Q (!c) H1) I h)
def ziD (ta tb:TE):TE:=fun σ H Q=>ta σ H fun x H1=>∃ c,x = .bl c/\if c = true then tb σ H1 Q else Q (.bl false) H1
theorem zbD {op} {t:TE} (h:PE X a t):PE X (.BoolOp op [a] pos) t:=⟨fun pins s σ H Q I hw=>BoolOp_one (h pins s σ H Q I hw)⟩
theorem qH (ha:PE X a ta) (hb:PE X (.BoolOp .And (b :: rest) pos) tb):PE X (.BoolOp .And (a :: b :: rest) pos) (ziD ta tb):=by
 refine ⟨?_⟩
 intro pins s σ H Q I h
 refine BoolOp_and (thn (ha pins s σ H _ I h) fun v s1 ⟨x,H1,I1,r1,q1⟩=>?_)
 obtain ⟨c,rfl,q1⟩:=q1
 cases r1
 refine wpAny_truthy_bool ?_
 cases c with
 | true=>exact hb pins s1 σ H1 Q I1 q1
 | false=>exact ⟨.bl false,H1,I1,rfl,q1⟩
def tIf (t:TT) (ta tb:TE):TE:=fun σ H Q=>t σ H fun c H1=>if c = true then ta σ H1 Q else tb σ H1 Q
theorem zau {c:Expr} (hc:PT X c tA) (ha:PE X a ta) (hb:PE X b tb):PE X (.IfExp c a b pos) (tIf tA ta tb):=by
 refine ⟨?_⟩
 intro pins s σ H Q I h
 refine wpAny_IfExp (thn (hc pins s σ H _ I h) fun d s1 ⟨H1,I1,q1⟩=>?_)
 cases d with
 | true=>exact ha pins s1 σ H1 Q I1 q1
 | false=>exact hb pins s1 σ H1 Q I1 q1
end
def SqL (K:Frag) (H:Hp) (a:Addr) (xs:List V):Prop:=
 Rd H a (.lst xs)\/
  ∃ (o:Obj) (its:Array Value) (n:Nat),K.lookup a = some o/\o.cls = .type "list"/\o.dict = none/\o.data = .seq its n/\its.size<=sizeLine/\zS xs its.toList
def SqT (K:Frag) (H:Hp) (a:Addr) (xs:List V):Prop:=
 Rd H a (.tup xs)\/
  ∃ (o:Obj) (its:Array Value) (n:Nat),K.lookup a = some o/\o.cls = .type "tuple"/\o.data = .seq its n/\its.size<=sizeLine/\zS xs its.toList
def zjS:Value->Option V
 | .none=>some .non
 | .bool b=>some (.bl b)
 | .int i _=>some (.int i)
 | .str x _=>some (.str x)
 | .bytes b _=>some (.byt b)
 | .float b _=>some (.flt b)
 | .ref a=>some (.ref a)
 | .type n=>some (.ty n)
 | _=>none
theorem zR.abs {x:V} {u:Value} (r:zR x u):zjS u = some x:=by
 cases x with
 | non=>cases r; rfl
 | bl _=>cases r; rfl
 | int _=>obtain ⟨t,rfl⟩:=r; rfl
 | str _=>obtain ⟨t,rfl⟩:=r; rfl
 | byt _=>obtain ⟨t,rfl⟩:=r; rfl
 | flt _=>obtain ⟨t,rfl⟩:=r; rfl
 | ref _=>cases r; rfl
 | ty _=>cases r; rfl
theorem zR.inj {x y:V} {u:Value} (r:zR x u) (q:zR y u):x = y:=Option.some.inj (r.abs.symm.trans q.abs)
theorem zS.inj:∀ {xs ys:List V} {us:List Value},zS xs us->zS ys us->xs = ys
 | _,_,_,.nil,.nil=>rfl
 | _,_,_,.cons r t,.cons r' t'=>by rw [r.inj r',zS.inj t t']
section
variable {X:Cx} {pins:List (Addr × Obj)} {σ : St} {H:Hp} {s:Shared} {a:Addr} {xs ys:List V}
theorem SqL.of {K:Frag} (h:H a = some (.lst xs)):SqL K H a xs:=.inl (.inl h)
theorem SqT.of {K:Frag} (h:H a = some (.tup xs)):SqT K H a xs:=.inl (.inl h)
theorem Inv.list (I:Inv X pins σ H s) (h:SqL X.K H a xs):∃ its:List Value,zS xs its/\PlainL s.heap a its.toArray/\xs.length<=sizeLine:=by
 rcases h with h | ⟨o,its,n,hk,hc,hd,hs,hz,r⟩
 ·obtain ⟨z,its,n,r,e⟩:=h.ok I.hok
  exact ⟨its,r,⟨_,n,e,rfl,rfl,rfl⟩,z⟩
 ·refine ⟨its.toList,r,⟨o,n,I.kIn a o hk,hc,hd,by simpa using hs⟩,?_⟩
  have e:=r.length
  simp only [Array.length_toList] at e
  omega
theorem Inv.tuple (I:Inv X pins σ H s) (h:SqT X.K H a xs):∃ its:List Value,zS xs its/\IsTup s.heap a its.toArray/\xs.length<=sizeLine:=by
 rcases h with h | ⟨o,its,n,hk,hc,hs,hz,r⟩
 ·obtain ⟨z,its,r,p⟩:=h.ok I.hok
  exact ⟨its,r,p,z⟩
 ·refine ⟨its.toList,r,⟨o,I.kIn a o hk,hc,n,by simpa using hs⟩,?_⟩
  have e:=r.length
  simp only [Array.length_toList] at e
  omega
theorem Inv.list_inj (I:Inv X pins σ H s) (h:SqL X.K H a xs) (h':SqL X.K H a ys):xs = ys:=by
 obtain ⟨its,r,⟨o,n,e,_,_,d⟩,_⟩:=I.list h
 obtain ⟨its',r',⟨o',n',e',_,_,d'⟩,_⟩:=I.list h'
 rw [e] at e'; cases e'
 rw [d] at d'
 injection d' with d1 _
 have:its = its':=by simpa using congrArg Array.toList d1
 subst this
 exact r.inj r'
end
abbrev Cx.wish (X:Cx) (E:Value->Shared->Prop):Cx:={ X with xe:=E }
abbrev Cx.nox (X:Cx):Cx:=X.wish fun _ _=>False
theorem Cx.Ok.wish {X:Cx} (ok:X.Ok) (E:Value->Shared->Prop):(X.wish E).Ok:=
 ⟨ok.mod,ok.kind,ok.glob,ok.blt,ok.above,ok.inj,ok.has,ok.cab,ok.hd,ok.frames,ok.stk,ok.exf,ok.bs,ok.bsz,ok.noex,ok.exfs,ok.funs,ok.frf⟩
theorem Cx.Ok.unwish {X:Cx} {E:Value->Shared->Prop} (ok:(X.wish E).Ok):X.Ok:=
 ⟨ok.mod,ok.kind,ok.glob,ok.blt,ok.above,ok.inj,ok.has,ok.cab,ok.hd,ok.frames,ok.stk,ok.exf,ok.bs,ok.bsz,ok.noex,ok.exfs,ok.funs,ok.frf⟩
section
variable {X:Cx} {pins:List (Addr × Obj)} {σ : St} {H:Hp} {s:Shared} {E:Value->Shared->Prop}
theorem Inv.wish (I:Inv X pins σ H s) (E:Value->Shared->Prop):Inv (X.wish E) pins σ H s:=⟨I.ok.wish E,I.os,I.bare,I.base,I.loc,I.cell,I.free,I.freeC,I.pin,I.hok,I.len⟩
theorem Inv.unwish (I:Inv (X.wish E) pins σ H s):Inv X pins σ H s:=⟨I.ok.unwish,I.os,I.bare,I.base,I.loc,I.cell,I.free,I.freeC,I.pin,I.hok,I.len⟩
theorem SP.unwish {D:uj} {f:Flow} {s':Shared} (h:SP (X.wish E) pins D f s'):SP X pins D f s':=by
 cases f with
 | next=>obtain ⟨σ',H',I,q⟩:=h; exact ⟨σ',H',I.unwish,q⟩
 | brk=>obtain ⟨σ',H',I,q⟩:=h; exact ⟨σ',H',I.unwish,q⟩
 | cont=>obtain ⟨σ',H',I,q⟩:=h; exact ⟨σ',H',I.unwish,q⟩
 | ret u=>obtain ⟨v,σ',H',I,r,q⟩:=h; exact ⟨v,σ',H',I.unwish,r,q⟩
theorem PSs.nox {st:List Stmt} {t:TS} (h:PSs X.nox st t):PSs X st t:=⟨fun pins s σ H D I hw=>
 wpAny_mono (h pins s σ H D (I.wish _) hw) (fun _ _ q=>q.unwish) fun _ _ z=>False.elim z⟩
end
section
variable {X:Cx} {st:Stmt} {rest:List Stmt} {t u:TS} {e:Expr} {te:TE} {pos:Pos}
def zgS:TS:=fun D σ H=>D.nx σ H
def vQ (t u:TS):TS:=fun D σ H=>t { D with nx:=u D } σ H
theorem zu:PSs X [] zgS:=⟨fun _ _ σ H _ I h=>wpAny_execs_nil ⟨σ,H,I,h⟩⟩
theorem zj (h1:PS X st t) (h2:PSs X rest u):PSs X (st :: rest) (vQ t u):=by
 refine ⟨?_⟩
 intro pins s σ H D I h
 refine wpAny_execs_cons (thn (h1 pins s σ H { D with nx:=u D } I h) fun f s1 q=>?_)
 cases f with
 | next=>
  obtain ⟨σ',H',I',q⟩:=q
  exact h2 pins s1 σ' H' D I' q
 | ret v=>exact q
 | brk=>exact q
 | cont=>exact q
theorem zd (h1:PS X st t):PSs X [st] t:=by
 refine ⟨?_⟩
 intro pins s σ H D I h
 refine wpAny_execs_cons (thn (h1 pins s σ H D I h) fun f s1 q=>?_)
 cases f with
 | next=>exact wpAny_execs_nil q
 | ret v=>exact q
 | brk=>exact q
 | cont=>exact q
theorem Inv.quiet {pins:List (Addr × Obj)} {σ : St} {H:Hp} {s:Shared} (I:Inv X pins σ H s):interactive X.env = false:=by simp [interactive,I.ok.kind]
def ziB (te:TE):TS:=fun D σ H=>te σ H fun _ H1=>D.nx σ H1
theorem zI (he:PE X e te) (hs:swapsWith e none pos.line X.env = pure false:=by rfl):PS X (.Expr e pos) (ziB te):=by
 refine ⟨?_⟩
 intro pins s σ H D I h
 exact wpAny_Expr_any (thn (he pins s σ H _ I h) fun v s1 ⟨x,H1,I1,r1,q1⟩=>⟨σ,H1,I1,q1⟩) I.quiet hs
def zjg (te:TE):TS:=fun D σ H=>te σ H D.rt
theorem zp (he:PE X e te):PS X (.Return (some e) pos) (zjg te):=by
 refine ⟨?_⟩
 intro pins s σ H D I h
 exact wpAny_Return_some (thn (he pins s σ H _ I h) fun v s1 ⟨x,H1,I1,r1,q1⟩=>⟨x,σ,H1,I1,r1,q1⟩)
def zjk (c:TT) (t u:TS):TS:=fun D σ H=>c σ H fun b H1=>if b = true then t D σ H1 else u D σ H1
theorem zD {c:Expr} {a b:List Stmt} {tc:TT} (hc:PT X c tc) (ha:PSs X a t) (hb:PSs X b u):PS X (.If c a b pos) (zjk tc t u):=by
 refine ⟨?_⟩
 intro pins s σ H D I h
 refine wpAny_If (thn (hc pins s σ H _ I h) fun d s1 ⟨H1,I1,q1⟩=>?_)
 cases d with
 | true=>exact ha pins s1 σ H1 D I1 q1
 | false=>exact hb pins s1 σ H1 D I1 q1
end
abbrev TG:=V->St->Hp->(St->Hp->Prop)->Prop
abbrev TGs:=List V->St->Hp->(St->Hp->Prop)->Prop
structure PG (X:Cx) (target:Expr) (t:TG):Prop where
 run:∀ (pins:List (Addr × Obj)) (s:Shared) (σ : St) (H:Hp) (v:V) (u:Value) (Q:St->Hp->Prop),Inv X pins σ H s->zR v u->t v σ H Q->
  wpAny (model X.prog X.w) X.A (assign target X.env u) (fun _ s'=>∃ σ' H',Inv X pins σ' H' s'/\Q σ' H') X.xe s
instance {X:Cx} {target:Expr} {t:TG}:CoeFun (PG X target t) (fun _=>∀ (pins:List (Addr × Obj)) (s:Shared) (σ : St) (H:Hp) (v:V) (u:Value) (Q:St->Hp->Prop),Inv X pins σ H s->zR v u->t v σ H Q->
  wpAny (model X.prog X.w) X.A (assign target X.env u) (fun _ s'=>∃ σ' H',Inv X pins σ' H' s'/\Q σ' H') X.xe s):=⟨PG.run⟩
structure PGs (X:Cx) (ts:List Expr) (t:TGs):Prop where
 run:∀ (pins:List (Addr × Obj)) (s:Shared) (σ : St) (H:Hp) (vs:List V) (us:List Value) (Q:St->Hp->Prop),Inv X pins σ H s->zS vs us->t vs σ H Q->
  wpAny (model X.prog X.w) X.A (assignInOrder ((assignEach ts X.env).map (·.2)) us) (fun _ s'=>∃ σ' H',Inv X pins σ' H' s'/\Q σ' H') X.xe s
instance {X:Cx} {ts:List Expr} {t:TGs}:CoeFun (PGs X ts t) (fun _=>∀ (pins:List (Addr × Obj)) (s:Shared) (σ : St) (H:Hp) (vs:List V) (us:List Value) (Q:St->Hp->Prop),Inv X pins σ H s->zS vs us->t vs σ H Q->
  wpAny (model X.prog X.w) X.A (assignInOrder ((assignEach ts X.env).map (·.2)) us) (fun _ s'=>∃ σ' H',Inv X pins σ' H' s'/\Q σ' H') X.xe s):=⟨PGs.run⟩
section
variable {X:Cx} {pos:Pos}
def zB (i:Nat):TG:=fun v σ H Q=>Q (σ.set i (some v)) H
theorem zk {i:Nat} {x:Str} (hN:X.N.Nodup) (hi:X.N[i]? = some x) (hx:Loc X.env.scope x) (hf:X.fn x = true\/X.env.scope.names.lookup x = some .local:=by first | exact .inl rfl | exact .inr rfl | assumption):PG X (.Name x pos) (zB i):=by
 refine ⟨?_⟩
 intro pins s σ H v u Q I r h
 exact wpAny_assign_Name (zah I hN hi hx r (fun s' I'=>⟨_,H,I',h⟩) hf)
def zi7:TGs:=fun vs σ H Q=>vs = []/\Q σ H
def zff (t:TG) (u:TGs):TGs:=fun vs σ H Q=>∃ v r,vs = v :: r/\t v σ H fun σ' H'=>u r σ' H' Q
theorem yo:PGs X [] zi7:=by
 refine ⟨?_⟩
 intro pins s σ H vs us Q I r h
 obtain ⟨e,h⟩:=h
 subst e
 cases r
 exact assignInOrder_nil ⟨σ,H,I,h⟩
theorem zz {e:Expr} {es:List Expr} {t:TG} {u:TGs} (h1:PG X e t) (h2:PGs X es u)
  (hs:(assignEach (e :: es) X.env).map (·.2) = assign e X.env :: (assignEach es X.env).map (·.2):=by rfl):PGs X (e :: es) (zff t u):=by
 refine ⟨?_⟩
 intro pins s σ H vs us Q I r h
 obtain ⟨v,vr,e1,h⟩:=h
 subst e1
 cases r with
 | cons r rr=>
  rw [hs]
  refine assignInOrder_cons (thn (h1 pins s σ H _ _ _ I r h) fun _ s1 ⟨σ1,H1,I1,q1⟩=>?_)
  exact h2 pins s1 σ1 H1 _ _ Q I1 rr q1
def zi6 (K:Frag) (n:Nat) (t:TGs):TG:=fun v σ H Q=>∃ a xs,v = .ref a/\SqT K H a xs/\xs.length = n/\t xs σ H Q
theorem yH {es:List Expr} {k:Nat} {t:TGs} {n:Nat} (hc:X.calm = true) (h:PGs X es t)
  (hn:(assignEach es X.env).length = n:=by rfl) (hst:(assignEach es X.env).findIdx? (·.1) = none:=by rfl):PG X (.Tuple es k pos) (zi6 X.K n t):=by
 refine ⟨?_⟩
 intro pins s σ H v u Q I r hw
 obtain ⟨a,xs,e1,hq,hl,hw⟩:=hw
 subst e1
 cases r
 obtain ⟨its,rv,ht,hz⟩:=I.tuple hq
 refine assign_Tuple_tuple (I.ok.hd hc) ht (by simp [hn,<- hl,rv.length]) hst fun h' hx=>?_
 have I1:Inv X pins σ H { s with heap:=h' }:=I.kept (t':=s.toks) fun b o e=>hx b o (Nat.ne_of_lt (Heap.lt_size e)) e
 exact h pins _ σ H xs _ Q I1 (by simpa using rv) hw
def zho (te:TE) (g:TG):TS:=fun D σ H=>te σ H fun x H1=>g x σ H1 D.nx
theorem wv {tg e:Expr} {te:TE} {g:TG} (he:PE X e te) (hg:PG X tg g) (hs:swapsWithSole [tg] e pos.line X.env = pure false:=by rfl) (hw:swappedStores [tg] e X.env = pure none:=by rfl)
  (h1:(assignEach [tg] X.env).map (·.2) = [assign tg X.env]:=by rfl):PS X (.Assign [tg] e pos) (zho te g):=by
 refine ⟨?_⟩
 intro pins s σ H D I h
 refine wpAny_Assign_stores (thn (he pins s σ H _ I h) fun v s1 ⟨x,H1,I1,r1,q1⟩=>?_) hs hw
 rw [h1]
 exact thn (hg pins s1 σ H1 x v _ I1 r1 q1) fun _ s2 q=>q
theorem zw {i:Nat} {x:Str} {e:Expr} {te:TE} {pos':Pos} (hN:X.N.Nodup) (hi:X.N[i]? = some x) (hx:Loc X.env.scope x) (he:PE X e te) (hs:swapsWith e (some (.Name x pos')) pos.line X.env = pure false:=by rfl) (hf:X.fn x = true\/X.env.scope.names.lookup x = some .local:=by first | exact .inl rfl | exact .inr rfl | assumption) :
  PS X (.Assign [.Name x pos'] e pos) (zho te (zB i)):=by
 refine ⟨?_⟩
 intro pins s σ H D I h
 refine wpAny_Assign_Name (thn (he pins s σ H _ I h) fun v s1 ⟨y,H1,I1,r1,q1⟩=>?_) hs
 exact zah I1 hN hi hx r1 (fun s2 I2=>⟨_,H1,I2,q1⟩) hf
end
structure It where
 go:Nat->Hp->Prop
 yld:Nat->Hp->V->Hp->Prop
 stop:Nat->Hp->Prop
def wQ (X:Cx) (pins:List (Addr × Obj)) (H:Hp) (b:Addr):Prop:=
 H b = none/\b ≠ X.env.locals/\b ∉ X.fs/\(b ∈ X.ex\/X.s₀.heap.objs.size<=b)/\(∀ x c,X.env.cells.lookup x = some c->c ≠ b)/\∀ p ∈ X.pn ++ pins,p.1 ≠ b
theorem Inv.fpOk {X:Cx} {pins:List (Addr × Obj)} {σ : St} {H H':Hp} {s:Shared} {b:Addr} (I:Inv X pins σ H s) (hb:s.heap.objs.size<=b) (hn:H' b = none):wQ X pins H' b:=by
 refine ⟨hn,Nat.ne_of_gt (Nat.lt_of_lt_of_le I.lt hb),I.nofs hb,.inr (Nat.le_trans I.sz hb),fun x c e z=>?_,fun p hp z=>?_⟩
 ·obtain ⟨v,q⟩:=I.cell x c e
  exact absurd (Nat.lt_of_lt_of_le q.lt (by rw [z]; exact hb)) (Nat.lt_irrefl _)
 ·exact absurd (Nat.lt_of_lt_of_le (Heap.lt_size (I.pin p hp).1) (by rw [z]; exact hb)) (Nat.lt_irrefl _)
structure zaa (P:Program) (w:World) (K:Frag) (tg:Expr) (J:It) (fp:List Addr) (it:Addr) (tn:Nat->Heap->Prop):Prop where
 mem:it ∈ fp
 obj:∀ i h,tn i h->∀ b ∈ fp,∃ o,h.get? b = some o/\∀ v,o.data ≠ .cell v
 keep:∀ i h h',tn i h->(∀ b ∈ fp,∀ o,h.get? b = some o->h'.get? b = some o)->tn i h'
 item:∀ (X:Cx),X.prog = P->X.w = w->X.K = K->X.calm = true->∀ (i:Nat) (pins:List (Addr × Obj)) (s:Shared) (σ : St) (H:Hp) (E:Value->Shared->Prop),Inv X pins σ H s->(∀ b ∈ fp,wQ X pins H b)->tn i s.heap->J.go i H->
  wpAny (model P w) X.A (pyNext (.ref it)) (fun r s1=>∃ u,r = some u/\
   wpAny (model P w) X.A (letOwnedTupleGo tg (.ref it) u) (fun _ s2=>∃ x H',Inv X pins σ H' s2/\zR x u/\J.yld i H x H'/\tn (i + 1) s2.heap/\∀ b ∈ fp,H' b = none) E s1) E s
 done:∀ (X:Cx),X.prog = P->X.w = w->X.K = K->X.calm = true->∀ (i:Nat) (pins:List (Addr × Obj)) (s:Shared) (σ : St) (H:Hp) (E:Value->Shared->Prop),Inv X pins σ H s->(∀ b ∈ fp,wQ X pins H b)->tn i s.heap->J.stop i H->
  wpAny (model P w) X.A (pyNext (.ref it)) (fun r s1=>r = none/\Inv X pins σ H s1) E s
 self:∀ (A:Around) (i:Nat) (s:Shared) (Q:Value->Shared->Prop) (E:Value->Shared->Prop),tn i s.heap->Q (.ref it) s->wpAny (model P w) A (pyIter (.ref it)) Q E s
abbrev TI:=St->Hp->(It->Hp->Prop)->Prop
def PIE (X:Cx) (pins:List (Addr × Obj)) (σ : St) (tg:Expr) (R:It->Hp->Prop) (itv:Value) (s2:Shared):Prop:=
 ∃ (it:Addr) (fp:List Addr) (tn:Nat->Heap->Prop) (J:It) (H':Hp),itv = .ref it/\Inv X pins σ H' s2/\zaa X.prog X.w X.K tg J fp it tn/\tn 0 s2.heap/\(∀ b ∈ fp,wQ X pins H' b)/\R J H'
structure PI (X:Cx) (tg iter:Expr) (wi:TI):Prop where
 run:∀ (pins:List (Addr × Obj)) (s:Shared) (σ : St) (H:Hp) (R:It->Hp->Prop),Inv X pins σ H s->wi σ H R->
  wpAny (model X.prog X.w) X.A (eval iter X.env) (fun v s1=>wpAny (model X.prog X.w) X.A (pyIter v) (PIE X pins σ tg R) X.xe s1) X.xe s
instance {X:Cx} {tg iter:Expr} {wi:TI}:CoeFun (PI X tg iter wi) (fun _=>∀ (pins:List (Addr × Obj)) (s:Shared) (σ : St) (H:Hp) (R:It->Hp->Prop),Inv X pins σ H s->wi σ H R->
  wpAny (model X.prog X.w) X.A (eval iter X.env) (fun v s1=>wpAny (model X.prog X.w) X.A (pyIter v) (PIE X pins σ tg R) X.xe s1) X.xe s):=⟨PI.run⟩
theorem zcJ {M:Model} {A:Around} {E:Value->Shared->Prop} {s:Shared} {tg:Expr} {it:Addr} {u:Value} {o:Obj} {n:String} {vs:Array Value} {Q:Unit->Shared->Prop} (ho:s.heap.get? it = some o) (hc:o.cls = .type n) (hd:o.data = .fields vs)
  (hn:["enumerate","zip","dict_itemiterator","dict_reverseitemiterator","odict_iterator","itertools.zip_longest","itertools.pairwise"].contains n = false) (hQ:Q () s):wpAny M A (letOwnedTupleGo tg (.ref it) u) Q E s:=by
 unfold letOwnedTupleGo
 cases tg <;> first
  | exact wpAny_pure hQ
  | (cases u <;> first
    | exact wpAny_pure hQ
    | (refine wpAny_bind (wpAny_load ho ?_)
       rw [hc,hd]
       show wpAny M A (if (["enumerate","zip","dict_itemiterator","dict_reverseitemiterator","odict_iterator","itertools.zip_longest","itertools.pairwise"].contains n && vs[0]? == some (rawInt _)) = true then _ else _) Q E s
       rw [if_neg (by intro h; rw [hn,Bool.false_and] at h; cases h)]
       exact wpAny_pure hQ))
def Itl (K:Frag) (a:Addr):It:=
 ⟨fun i H=>∃ xs x,SqL K H a xs/\xs[i]? = some x,fun i H x H'=>H' = H/\∀ xs,SqL K H a xs->xs[i]? = some x,fun i H=>∃ xs,SqL K H a xs/\xs.length<=i⟩
def Itr (lo:Int) (n:Nat):It:=⟨fun i _=>i < n,fun i H x H'=>H' = H/\x = .int (lo + i),fun i _=>n<=i⟩
theorem zcZ {P:Program} {w:World} {K:Frag} {tg:Expr} (a it:Addr):zaa P w K tg (Itl K a) [it] it (fun i h=>h.IsListIter it a i) where
 mem:=by simp
 obj:=fun i h st b hb=>by
  have e:b = it:=by simpa using hb
  subst e
  obtain ⟨o,e,c,d⟩:=st
  exact ⟨o,e,fun v z=>by rw [d] at z; cases z⟩
 keep:=fun i h h' st k=>st.at fun o e=>k it (by simp) o e
 item:=by
  intro X hP hw hK hc i pins s σ H E I hf st hg
  subst hP hw hK
  obtain ⟨xs,x,hq,hx⟩:=hg
  obtain ⟨its,rv,p,hz⟩:=I.list hq
  obtain ⟨u,hu,ru⟩:=rv.get hx
  obtain ⟨f0,f1,f2,f3,f4,f5⟩:=hf it (by simp)
  refine wpAny_pyNext_list_item st p.isList (x:=u) (by simpa using hu) fun h' st' sb=>?_
  have I1:Inv X pins σ H { s with heap:=h' }:=I.turned (t':=s.toks) (fun b o hb e=>(sb.2 b hb).trans e) f0 f1 f3 f4 f5
  obtain ⟨o,e,c,d⟩:=id st'
  exact ⟨u,rfl,zcJ (s:={ s with heap:=h' }) e c d (by decide) ⟨x,H,I1,ru,⟨rfl,fun ys hy=>by rw [I.list_inj hy hq]; exact hx⟩,st',fun b hb=>(hf b hb).1⟩⟩
 done:=by
  intro X hP hw hK hc i pins s σ H E I hf st hg
  subst hP hw hK
  obtain ⟨xs,hq,hx⟩:=hg
  obtain ⟨its,rv,p,hz⟩:=I.list hq
  obtain ⟨f0,f1,f2,f3,f4,f5⟩:=hf it (by simp)
  have hl:=rv.length
  exact wpAny_pyNext_list_end (I.ok.hd hc) st p.isList (by simp; omega) fun h' eb=>⟨rfl,I.turned (t':=s.toks) (fun b o hb e=>eb b o hb e) f0 f1 f3 f4 f5⟩
 self:=fun _ _ _ _ _ st h=>wpAny_pyIter_listiter st h
theorem zba {P:Program} {w:World} {K:Frag} {tg:Expr} (it:Addr) (lo:Int) (n:Nat):zaa P w K tg (Itr lo n) [it] it (fun i h=>IsRangeIter h it (lo + (i:Nat) * 1) ((n:Int) - (i:Nat)) 1) where
 mem:=by simp
 obj:=fun i h st b hb=>by
  have e:b = it:=by simpa using hb
  subst e
  exact ⟨_,st,fun v z=>by
   have z':Data.fields _ = Data.cell v:=z
   cases z'⟩
 keep:=fun i h h' st k=>k it (by simp) _ st
 item:=by
  intro X hP hw hK hc i pins s σ H E I hf st hg
  subst hP hw hK
  obtain ⟨f0,f1,f2,f3,f4,f5⟩:=hf it (by simp)
  have W:=Walks.range (prog:=X.prog) (w:=X.w) (I.ok.hd hc) it lo 1 n
  refine W.item i s _ _ hg st fun v h' tk hv st' kk=>?_
  obtain ⟨t,rfl⟩:=hv
  have I1:Inv X pins σ H { s with heap:=h',toks:=tk }:=I.turned (fun b o hb e=>kk b o (by simpa using hb) e) f0 f1 f3 f4 f5
  refine ⟨_,rfl,zcJ (s:={ s with heap:=h',toks:=tk }) (n:="range_iterator") st' rfl rfl (by decide) ⟨.int (lo + i),H,I1,⟨t,?_⟩,⟨rfl,rfl⟩,st',fun b hb=>(hf b hb).1⟩⟩
  rw [Int.mul_one]
 done:=by
  intro X hP hw hK hc i pins s σ H E I hf st hg
  subst hP hw hK
  obtain ⟨f0,f1,f2,f3,f4,f5⟩:=hf it (by simp)
  exact wpAny_pyNext_range_end (I.ok.hd hc) st (by have:n<=i:=hg; omega) fun h' eb=>⟨rfl,I.turned (t':=s.toks) (fun b o hb e=>eb b o hb e) f0 f1 f3 f4 f5⟩
 self:=fun _ _ _ _ _ st h=>wpAny_pyIter_rangeiter st h
section
variable {X:Cx} {tg:Expr}
def zi4 (K:Frag) (tl:TE):TI:=fun σ H R=>tl σ H fun x H1=>∃ a,x = .ref a/\(∃ xs,SqL K H1 a xs)/\R (Itl K a) H1
theorem zU {l:Expr} {tl:TE} (hl:PE X l tl):PI X tg l (zi4 X.K tl):=by
 refine ⟨?_⟩
 intro pins s σ H R I h
 refine thn (hl pins s σ H _ I h) fun v s1 ⟨x,H1,I1,r1,q1⟩=>?_
 obtain ⟨a,e,⟨xs,hq⟩,q⟩:=q1
 subst e
 cases r1
 obtain ⟨its,rv,p,hz⟩:=I1.list hq
 refine wpAny_pyIter_list p.isList ?_
 refine ⟨s1.heap.objs.size,[s1.heap.objs.size],_,_,H1,rfl,I1.kept (t':=s1.toks) fun b o e=>Heap.get?_push_of_some _ e,zcZ a _,⟨_,Heap.get?_push_size _ rfl,rfl,rfl⟩,fun b hb=>?_,q⟩
 have e:b = s1.heap.objs.size:=by simpa using hb
 subst e
 exact I1.fpOk (Nat.le_refl _) (I1.hok.fresh (Nat.le_refl _))
theorem zas {pins:List (Addr × Obj)} {σ : St} {H:Hp} {s:Shared} {R:It->Hp->Prop} {E:Value->Shared->Prop} {lo hi:Int} {t u v:Tok} {tk:Nat} (I:Inv X pins σ H s) (h1 : -(2 ^ 62)<=lo) (h2:lo < 2 ^ 62) (h3 : -(2 ^ 62)<=hi) (h4:hi < 2 ^ 62)
  (q:R (Itr lo (hi - lo).toNat) H):wpAny (model X.prog X.w) X.A (pyIter (.ref s.heap.objs.size)) (PIE X pins σ tg R) E { s with heap:=s.heap.push { cls:=.type "range",data:=.fields #[.int lo t,.int hi u,.int 1 v] },toks:=tk }:=by
 refine wpAny_pyIter_range (IsRange.new ..) (small_one h1 h2 h3 h4) ?_
 have I1:Inv X pins σ H { s with heap:=s.heap.push { cls:=.type "range",data:=.fields #[.int lo t,.int hi u,.int 1 v] },toks:=tk }:=I.kept fun b o e=>Heap.get?_push_of_some _ e
 refine ⟨(s.heap.push { cls:=.type "range",data:=.fields #[.int lo t,.int hi u,.int 1 v] }).objs.size,[(s.heap.push { cls:=.type "range",data:=.fields #[.int lo t,.int hi u,.int 1 v] }).objs.size],_,_,H,rfl,
  I1.kept (t':=tk) fun b o e=>Heap.get?_push_of_some _ e,zba _ lo (hi - lo).toNat,?_,fun b hb=>?_,q⟩
 ·have e1:lo + ((0:Nat):Int) * 1 = lo:=by simp
  have e2:(((hi - lo).toNat:Nat):Int) - ((0:Nat):Int) = Builtin.Range.rangeSize lo hi 1:=by rw [rangeSize_one]; split <;> omega
  show IsRangeIter _ _ (lo + ((0:Nat):Int) * 1) ((((hi - lo).toNat:Nat):Int) - ((0:Nat):Int)) 1
  rw [e1,e2]
  exact Heap.get?_push_size _ rfl
 ·have e:b = (s.heap.push { cls:=.type "range",data:=.fields #[.int lo t,.int hi u,.int 1 v] }).objs.size:=by simpa using hb
  subst e
  exact I1.fpOk (Nat.le_refl _) (I1.hok.fresh (Nat.le_refl _))
def zi3 (ta:TA):TI:=fun σ H R=>ta σ H fun vs H1=>∃ j:Int,vs = [.int j]/\-(2 ^ 62)<=j/\j < 2 ^ 62/\R (Itr 0 j.toNat) H1
def zi2 (ta:TA):TI:=fun σ H R=>ta σ H fun vs H1=>∃ i j:Int,vs = [.int i,.int j]/\(-(2 ^ 62)<=i/\i < 2 ^ 62/\-(2 ^ 62)<=j/\j < 2 ^ 62)/\R (Itr i (j - i).toNat) H1
theorem yv {a:Expr} {ta:TA} {p pos:Pos} (hg:Gl X "range") (hm:X.mg "range" = none) (ha:PA X [a] ta) (hs:starEach [a] X.env = [(false,eval a X.env)]:=by rfl):PI X tg (.Call (.Name "range" p) [a] [] pos) (zi3 ta):=by
 refine ⟨?_⟩
 intro pins s σ H R I h
 refine Call_ (xN I hg hm boot_range (PyProof.Rows.callWith_type1 (thn (ha pos pins s σ H _ I h) fun us s1 ⟨vs,H1,I1,r1,q1⟩=>?_) hs rfl))
 obtain ⟨j,e,q1,q2,q⟩:=q1
 subst e
 cases r1 with
 | cons r rr=>
  cases rr
  obtain ⟨t,rfl⟩:=r
  exact call_range_1 (zas I1 (by omega) (by omega) q1 q2 (by simpa using q))
theorem zda {a b:Expr} {ta:TA} {p pos:Pos} (hg:Gl X "range") (hm:X.mg "range" = none) (ha:PA X [a,b] ta) (hs:starEach [a,b] X.env = [(false,eval a X.env),(false,eval b X.env)]:=by rfl) (hs2:starEach [b] X.env = [(false,eval b X.env)]:=by rfl) :
  PI X tg (.Call (.Name "range" p) [a,b] [] pos) (zi2 ta):=by
 refine ⟨?_⟩
 intro pins s σ H R I h
 refine Call_ (xN I hg hm boot_range (PyProof.Rows.callWith_type1 (thn (ha pos pins s σ H _ I h) fun us s1 ⟨vs,H1,I1,r1,q1⟩=>?_) (by rw [hs,hs2]) (by rw [hs2]; rfl)))
 obtain ⟨i,j,e,⟨q1,q2,q3,q4⟩,q⟩:=q1
 subst e
 cases r1 with
 | cons r rr=>
  cases rr with
  | cons r' rr=>
   cases rr
   obtain ⟨t,rfl⟩:=r
   obtain ⟨t',rfl⟩:=r'
   exact call_range_2 (zas I1 q1 q2 q3 q4 q)
def zjm (wi:TI) (g:TG) (tb:TS):TS:=fun D σ H=>wi σ H fun J H1=>∃ W:Nat->Nat->St->Hp->Prop,(∃ m,W 0 m σ H1)/\∀ i m σ H,W i m σ H->
 (J.stop i H/\D.nx σ H)\/(J.go i H/\∃ N:St->Hp->Prop,(∀ σ' H',N σ' H'->∃ m',m' < m/\W (i + 1) m' σ' H')/\∀ x H',J.yld i H x H'->g x σ H' fun σ2 H2=>tb { D with nx:=N,ct:=N,bk:=D.nx } σ2 H2)
def vU (fp:List Addr) (h:Heap):List (Addr × Obj):=fp.filterMap fun b=>(h.get? b).map fun o=>(b,o)
theorem xn {fp:List Addr} {h:Heap} {b:Addr} {o:Obj} (hb:b ∈ fp) (e:h.get? b = some o):(b,o) ∈ vU fp h:=List.mem_filterMap.mpr ⟨b,hb,by rw [e]; rfl⟩
theorem zdh {fp:List Addr} {h:Heap} {p:Addr × Obj} (hp:p ∈ vU fp h):p.1 ∈ fp/\h.get? p.1 = some p.2:=by
 obtain ⟨b,hb,e⟩:=List.mem_filterMap.mp hp
 cases q:h.get? b with
 | none=>rw [q] at e; cases e
 | some o=>
  rw [q] at e
  have e':(b,o) = p:=Option.some.inj e
  subst e'
  exact ⟨hb,q⟩
theorem Inv.pinned {pins:List (Addr × Obj)} {σ : St} {H:Hp} {s:Shared} {fp:List Addr} (I:Inv X pins σ H s) (hf:∀ b ∈ fp,wQ X pins H b) (ho:∀ b ∈ fp,∃ o,s.heap.get? b = some o/\∀ v,o.data ≠ .cell v):Inv X (pins ++ vU fp s.heap) σ H s:=
 I.pins_of fun p hp=>(List.mem_append.mp hp).elim (fun z=>I.pin p (List.mem_append_right _ z)) fun z=>by
  obtain ⟨hb,e⟩:=zdh z
  obtain ⟨f0,f1,f2,_⟩:=hf p.1 hb
  obtain ⟨o,e',d⟩:=ho p.1 hb
  rw [e] at e'; cases e'
  exact ⟨e,f0,f1,f2,d⟩
theorem Inv.unpinned {pins pl:List (Addr × Obj)} {σ : St} {H:Hp} {s:Shared} (I:Inv X (pins ++ pl) σ H s):Inv X pins σ H s:=I.pins_of fun p hp=>I.pin p (List.mem_append_right _ (List.mem_append_left _ hp))
theorem yn {iter:Expr} {body:List Stmt} {wi:TI} {g:TG} {tb:TS} {pos:Pos} (hp:PassesOwn (model X.prog X.w) X.A X.env X.xe) (hc:X.calm = true) (hi:PI X tg iter wi) (hg:PG X tg g) (hb:PSs X body tb)
  (hs:∀ x,foldedSetIterable iter X.env x = pure x:=by intro _; rfl):PS X (.For tg iter body [] pos) (zjm wi g tb):=by
 refine ⟨?_⟩
 intro pins s σ H D I h
 refine wpAny_For (thn (hi pins s σ H _ I h) fun v s1 h1=>thn h1 fun itv s2 h2=>?_) hs
 obtain ⟨it,fp,tn,J,H2,e,I2,T,st2,f2,W,⟨m0,w0⟩,turn⟩:=h2
 subst e
 have stat:∀ {H':Hp},(∀ b ∈ fp,H' b = none)->∀ b ∈ fp,wQ X pins H' b:=fun hn b hb=>⟨hn b hb,(f2 b hb).2⟩
 refine codeAny_forLoop_any (fun n s'=>∃ i σ' H',Inv X pins σ' H' s'/\tn i s'.heap/\(∀ b ∈ fp,H' b = none)/\W i n σ' H') ?_ m0 ⟨0,σ,H2,I2,st2,fun b hb=>(f2 b hb).1,w0⟩
 rintro n s3 ⟨i,σ3,H3,I3,st3,fr3,w3⟩
 rcases turn i n σ3 H3 w3 with ⟨stop,qn⟩ | ⟨go,N,hN,step⟩
 ·refine wpAny_passesOwn hp (thn (T.done X rfl rfl rfl hc i pins s3 σ3 H3 X.xe I3 (stat fr3) st3 stop) fun r s4 ⟨hr,I4⟩=>?_)
  subst hr
  exact wpAny_execs_nil ⟨σ3,H3,I4,qn⟩
 ·refine wpAny_passesOwn hp (thn (T.item X rfl rfl rfl hc i pins s3 σ3 H3 X.xe I3 (stat fr3) st3 go) fun r s4 ⟨u,hr,h4⟩=>?_)
  subst hr
  refine wpAny_passesOwn hp (thn h4 fun _ s5 ⟨x,H5,I5,r5,y5,st5,fr5⟩=>?_)
  have I5':=I5.pinned (stat fr5) (T.obj _ _ st5)
  refine wpAny_passesOwn hp (thn (hg _ s5 σ3 H5 x u _ I5' r5 (step x H5 y5)) fun _ s6 ⟨σ6,H6,I6,q6⟩=>?_)
  refine wpAny_passesOwn hp (thn (hb _ s6 σ6 H6 _ I6 q6) fun f s7 q7=>?_)
  have again:∀ {σ7:St} {H7:Hp},Inv X (pins ++ vU fp s5.heap) σ7 H7 s7->N σ7 H7->∃ m,m < n/\∃ i σ' H',Inv X pins σ' H' s7/\tn i s7.heap/\(∀ b ∈ fp,H' b = none)/\W i m σ' H':=fun {σ7 H7} I7 n7=>by
   obtain ⟨m',hm,w7⟩:=hN σ7 H7 n7
   refine ⟨m',hm,i + 1,σ7,H7,I7.unpinned,T.keep _ _ _ st5 fun b hb o e=>(I7.pin (b,o) (List.mem_append_right _ (List.mem_append_right _ (xn hb e)))).1,fun b hb=>?_,w7⟩
   obtain ⟨o,e,d⟩:=T.obj _ _ st5 b hb
   exact (I7.pin (b,o) (List.mem_append_right _ (List.mem_append_right _ (xn hb e)))).2.1
  cases f with
  | next=>obtain ⟨σ7,H7,I7,n7⟩:=q7; exact again I7 n7
  | cont=>obtain ⟨σ7,H7,I7,n7⟩:=q7; exact again I7 n7
  | brk=>obtain ⟨σ7,H7,I7,q7⟩:=q7; exact ⟨σ7,H7,I7.unpinned,q7⟩
  | ret v=>obtain ⟨x7,σ7,H7,I7,r7,q7⟩:=q7; exact ⟨x7,σ7,H7,I7.unpinned,r7,q7⟩
end
theorem yJ {K:Frag} {a:Addr} {xs:List V} {g:TG} {tb:TS} {D:uj} {σ : St} {H:Hp} (Pv:Nat->St->Hp->Prop) (h0:Pv 0 σ H) (hl:∀ i σ H,i<=xs.length->Pv i σ H->SqL K H a xs)
  (hs:∀ i x σ H,xs[i]? = some x->Pv i σ H->g x σ H fun σ2 H2=>tb { D with nx:=Pv (i + 1),ct:=Pv (i + 1),bk:=D.nx } σ2 H2) (hd:∀ σ H,Pv xs.length σ H->D.nx σ H) :
  ∃ W:Nat->Nat->St->Hp->Prop,(∃ m,W 0 m σ H)/\∀ i m σ H,W i m σ H->
   ((Itl K a).stop i H/\D.nx σ H)\/((Itl K a).go i H/\∃ N:St->Hp->Prop,(∀ σ' H',N σ' H'->∃ m',m' < m/\W (i + 1) m' σ' H')/\∀ x H',(Itl K a).yld i H x H'->g x σ H' fun σ2 H2=>tb { D with nx:=N,ct:=N,bk:=D.nx } σ2 H2):=by
 refine ⟨fun i m σ H=>m = xs.length - i/\i<=xs.length/\Pv i σ H,⟨xs.length,by simp,Nat.zero_le _,h0⟩,?_⟩
 rintro i m σ H ⟨rfl,hi,p⟩
 have q:=hl i σ H hi p
 by_cases hlt:i < xs.length
 ·refine .inr ⟨⟨xs,xs[i],q,by simp [hlt]⟩,Pv (i + 1),fun σ' H' p'=>⟨xs.length - (i + 1),by omega,rfl,hlt,p'⟩,fun x H' y=>?_⟩
  obtain ⟨e,y⟩:=y
  subst e
  exact hs i x σ _ (y xs q) p
 ·have e:i = xs.length:=by omega
  subst e
  exact .inl ⟨⟨xs,q,Nat.le_refl _⟩,hd σ H p⟩
theorem xH {lo:Int} {n:Nat} {g:TG} {tb:TS} {D:uj} {σ : St} {H:Hp} (Pv:Nat->St->Hp->Prop) (h0:Pv 0 σ H)
  (hs:∀ i σ H,i < n->Pv i σ H->g (.int (lo + i)) σ H fun σ2 H2=>tb { D with nx:=Pv (i + 1),ct:=Pv (i + 1),bk:=D.nx } σ2 H2) (hd:∀ σ H,Pv n σ H->D.nx σ H) :
  ∃ W:Nat->Nat->St->Hp->Prop,(∃ m,W 0 m σ H)/\∀ i m σ H,W i m σ H->
   ((Itr lo n).stop i H/\D.nx σ H)\/((Itr lo n).go i H/\∃ N:St->Hp->Prop,(∀ σ' H',N σ' H'->∃ m',m' < m/\W (i + 1) m' σ' H')/\∀ x H',(Itr lo n).yld i H x H'->g x σ H' fun σ2 H2=>tb { D with nx:=N,ct:=N,bk:=D.nx } σ2 H2):=by
 refine ⟨fun i m σ H=>m = n - i/\i<=n/\Pv i σ H,⟨n,by simp,Nat.zero_le _,h0⟩,?_⟩
 rintro i m σ H ⟨rfl,hi,p⟩
 by_cases hlt:i < n
 ·refine .inr ⟨hlt,Pv (i + 1),fun σ' H' p'=>⟨n - (i + 1),by omega,rfl,hlt,p'⟩,fun x H' y=>?_⟩
  obtain ⟨e,y⟩:=y
  subst e y
  exact hs i σ _ hlt p
 ·have e:i = n:=by omega
  subst e
  exact .inl ⟨Nat.le_refl _,hd σ H p⟩
abbrev R2:=V->V->Hp->VK->Prop
def OpR (X:Cx) (f:Value->Value->Sem Value) (r:R2):Prop:=
 ∀ (pins:List (Addr × Obj)) (s:Shared) (σ : St) (H:Hp) (x y:V) (v u:Value) (Q:VK),Inv X pins σ H s->zR x v->zR y u->r x y H Q->
  wpAny (model X.prog X.w) X.A (f v u) (EP X pins σ Q) X.xe s
def UnR (X:Cx) (f:Value->Sem Value) (r:V->Hp->VK->Prop):Prop:=
 ∀ (pins:List (Addr × Obj)) (s:Shared) (σ : St) (H:Hp) (x:V) (v:Value) (Q:VK),Inv X pins σ H s->zR x v->r x H Q->
  wpAny (model X.prog X.w) X.A (f v) (EP X pins σ Q) X.xe s
def yN (X:Cx) (f:Value) (r:List V->Hp->VK->Prop):Prop:=
 ∀ (pins:List (Addr × Obj)) (s:Shared) (σ : St) (H:Hp) (xs:List V) (us:List Value) (Q:VK),Inv X pins σ H s->zS xs us->r xs H Q->
  wpAny (model X.prog X.w) X.A (call f us) (EP X pins σ Q) X.xe s
def tOp (r:R2) (ta tb:TE):TE:=fun σ H Q=>ta σ H fun x H1=>tb σ H1 fun y H2=>r x y H2 Q
def tUn (r:V->Hp->VK->Prop) (ta:TE):TE:=fun σ H Q=>ta σ H fun x H1=>r x H1 Q
inductive IrI (C:Int->Int->Prop) (g:Int->Int->V) (x y:V) (H:Hp) (Q:VK):Prop where
 | mk (i j:Int) (e1:x = .int i) (e2:y = .int j) (c:C i j) (q:Q (g i j) H)
def rI (C:Int->Int->Prop) (g:Int->Int->V):R2:=fun x y H Q=>IrI C g x y H Q
inductive zjZ (g:Int->Int->V) (x y:V) (H:Hp) (Q:VK):Prop where
 | mk (i j:Int) (e1:x = .int i) (e2:y = .int j) (q:Q (g i j) H)
def rI0 (g:Int->Int->V):R2:=fun x y H Q=>zjZ g x y H Q
def rU (g:Int->V):V->Hp->VK->Prop:=fun x H Q=>∃ i,x = .int i/\Q (g i) H
section
variable {X:Cx} {a b c:Expr} {ta tb tc:TE} {pos:Pos}
theorem zil (ha:PE X a ta) (hb:PE X b tb) {pins:List (Addr × Obj)} {s:Shared} {σ : St} {H:Hp} {R:V->V->Hp->Prop} (I:Inv X pins σ H s)
  (h:ta σ H fun x H1=>tb σ H1 fun y H2=>R x y H2) {Q:Value->Shared->Prop} {f:Value->Value->Sem Value}
  (hf:∀ v u s2 x y H2,Inv X pins σ H2 s2->zR x v->zR y u->R x y H2->wpAny (model X.prog X.w) X.A (f v u) Q X.xe s2) :
  wpAny (model X.prog X.w) X.A (eval a X.env) (fun v s₁=>wpAny (model X.prog X.w) X.A (eval b X.env) (fun u s₂=>wpAny (model X.prog X.w) X.A (f v u) Q X.xe s₂) X.xe s₁) X.xe s:=by
 refine thn (ha pins s σ H _ I h) fun v s1 ⟨x,H1,I1,r1,q1⟩=>?_
 refine thn (hb pins s1 σ H1 _ I1 q1) fun u s2 ⟨y,H2,I2,r2,q2⟩=>?_
 exact hf v u s2 x y H2 I2 r1 r2 q2
theorem zq {op:Operator} {r:R2} (ho:OpR X (binaryOp op) r) (ha:PE X a ta) (hb:PE X b tb):PE X (.BinOp a op b pos) (tOp r ta tb):=by
 refine ⟨?_⟩
 intro pins s σ H Q I h
 exact wpAny_BinOp (zil ha hb I h fun v u s2 x y H2 I2 rx ry q=>ho pins s2 σ H2 x y v u Q I2 rx ry q)
theorem zg6 {op:UnaryOp} {r:V->Hp->VK->Prop} (ho:UnR X (unaryOp op) r) (ha:PE X a ta):PE X (.UnaryOp op a pos) (tUn r ta):=by
 refine ⟨?_⟩
 intro pins s σ H Q I h
 exact UnaryOp_ (thn (ha pins s σ H _ I h) fun v s1 ⟨x,H1,I1,r1,q1⟩=>ho pins s1 σ H1 x v Q I1 r1 q1)
theorem opI {f:Value->Value->Sem Value} {C:Int->Int->Prop} {g:Int->Int->Int}
  (rule:∀ (i j:Int) (t u:Tok) (s:Shared) (Q:Value->Shared->Prop) (E:Value->Shared->Prop),C i j->Q (.int (g i j) s.toks) { s with toks:=s.toks + 1 }->wpAny (model X.prog X.w) X.A (f (.int i t) (.int j u)) Q E s) :
  OpR X f (rI C fun i j=>.int (g i j)):=by
 intro pins s σ H x y v u Q I rx ry h
 obtain ⟨i,j,rfl,rfl,hc,q⟩:=h
 obtain ⟨t,rfl⟩:=rx
 obtain ⟨t',rfl⟩:=ry
 exact rule i j t t' s _ _ hc ⟨.int (g i j),H,I.tok _,⟨_,rfl⟩,q⟩
theorem ziU {f:Value->Value->Sem Value} {g:Int->Int->Int}
  (rule:∀ (i j:Int) (t u:Tok) (s:Shared) (Q:Value->Shared->Prop) (E:Value->Shared->Prop),Q (.int (g i j) s.toks) { s with toks:=s.toks + 1 }->wpAny (model X.prog X.w) X.A (f (.int i t) (.int j u)) Q E s) :
  OpR X f (rI0 fun i j=>.int (g i j)):=by
 intro pins s σ H x y v u Q I rx ry h
 obtain ⟨i,j,rfl,rfl,q⟩:=h
 obtain ⟨t,rfl⟩:=rx
 obtain ⟨t',rfl⟩:=ry
 exact rule i j t t' s _ _ ⟨.int (g i j),H,I.tok _,⟨_,rfl⟩,q⟩
theorem zf5 {f:Value->Value->Sem Value} {g:Int->Int->Bool}
  (rule:∀ (i j:Int) (t u:Tok) (s:Shared) (Q:Value->Shared->Prop) (E:Value->Shared->Prop),Q (.bool (g i j)) s->wpAny (model X.prog X.w) X.A (f (.int i t) (.int j u)) Q E s) :
  OpR X f (rI0 fun i j=>.bl (g i j)):=by
 intro pins s σ H x y v u Q I rx ry h
 obtain ⟨i,j,rfl,rfl,q⟩:=h
 obtain ⟨t,rfl⟩:=rx
 obtain ⟨t',rfl⟩:=ry
 exact rule i j t t' s _ _ ⟨.bl (g i j),H,I,rfl,q⟩
def zj4 (i j:Int):Prop:=0 < j/\j < 1073741824
def zj3 (i j:Int):Prop:=0<=j/\j<=1000000/\i.natAbs < 2 ^ 64
def zit (i j:Int):Prop:=(-(2 ^ 64) < i/\i < 2 ^ 64)\/(-(2 ^ 64) < j/\j < 2 ^ 64)
theorem zit.ok {i j:Int} (h:zit i j):IntMulOk i j:=by
 rcases h with ⟨h1,h2⟩ | ⟨h1,h2⟩
 ·exact .of_left (intBits_le_64 h1 h2)
 ·exact .of_right (intBits_le_64 h1 h2)
theorem yc:OpR X (binaryOp .Add) (rI0 fun i j=>.int (i + j)):=ziU fun _ _ _ _ _ _ _ q=>add_int q
theorem xL:OpR X (binaryOp .Sub) (rI0 fun i j=>.int (i - j)):=ziU fun _ _ _ _ _ _ _ q=>sub_int q
theorem xM:OpR X (binaryOp .Mult) (rI zit fun i j=>.int (i * j)):=opI fun _ _ _ _ _ _ _ hc q=>mul_int q hc.ok
theorem wX:OpR X (binaryOp .FloorDiv) (rI zj4 fun i j=>.int (i / j)):=opI fun i j _ _ _ _ _ hc q=>by
 have h1:(0:Int) < j:=hc.1
 have h2:j < 1073741824:=hc.2
 exact floordiv_int (by omega) (by rw [Int.fdiv_eq_ediv_of_nonneg i (by omega)]; exact q) (.inl (PyProof.noPylong_small (by omega)))
theorem xm:OpR X (binaryOp .Mod) (rI (fun _ j=>0 < j) fun i j=>.int (i % j)):=opI fun i j _ _ _ _ _ hc q=>by
 have h1:(0:Int) < j:=hc
 exact mod_int' (by omega) (by rw [Int.fmod_eq_emod_of_nonneg i (by omega)]; exact q)
theorem u9:OpR X (binaryOp .Pow) (rI zj3 fun i j=>.int (i ^ j.toNat)):=opI fun _ _ _ _ _ _ _ hc q=>pow_int_small hc.1 hc.2.1 hc.2.2 q
theorem unI {f:Value->Sem Value} {g:Int->Int}
  (rule:∀ (i:Int) (t:Tok) (s:Shared) (Q:Value->Shared->Prop) (E:Value->Shared->Prop),Q (.int (g i) s.toks) { s with toks:=s.toks + 1 }->wpAny (model X.prog X.w) X.A (f (.int i t)) Q E s) :
  UnR X f (rU fun i=>.int (g i)):=by
 intro pins s σ H x v Q I rx h
 obtain ⟨i,rfl,q⟩:=h
 obtain ⟨t,rfl⟩:=rx
 exact rule i t s _ _ ⟨.int (g i),H,I.tok _,⟨_,rfl⟩,q⟩
theorem zdR:UnR X (unaryOp .USub) (rU fun i=>.int (-i)):=unI fun _ _ _ _ _ q=>neg_int q
end
def ziJ:V->V->Bool
 | .non,.non=>true | .non,.int _=>true | .int _,.non=>true | .non,.bl _=>true | .bl _,.non=>true | .non,.str _=>true | .str _,.non=>true
 | .int _,.int _=>true | .bl _,.bl _=>true | .str _,.str _=>true | .byt _,.byt _=>true
 | .int _,.str _=>true | .str _,.int _=>true | .bl _,.str _=>true | .str _,.bl _=>true
 | _,_=>false
def rEq:R2:=fun x y H Q=>ziJ x y = true/\Q (.bl (decide (x = y))) H
def rNe:R2:=fun x y H Q=>ziJ x y = true/\Q (.bl (!decide (x = y))) H
theorem zcP {i j:Int}:decide (V.int i = V.int j) = (i == j):=by
 rw [Bool.eq_iff_iff]
 simp
theorem zfo {i j:Bool}:decide (V.bl i = V.bl j) = (i == j):=by
 rw [Bool.eq_iff_iff]
 simp
theorem zcO {i j:Str}:decide (V.str i = V.str j) = (i == j):=by
 rw [Bool.eq_iff_iff]
 simp
theorem zcQ {i j:Array UInt8}:decide (V.byt i = V.byt j) = (i.toList == j.toList):=by
 rw [Bool.eq_iff_iff]
 cases i
 cases j
 simp
section
variable {X:Cx} {a b c:Expr} {ta tb tc:TE} {pos:Pos}
theorem zZ {pins:List (Addr × Obj)} {σ : St} {H:Hp} {s:Shared} {Q:VK} {k k':Bool} (I:Inv X pins σ H s) (q:Q (.bl k) H) (e:k = k'):EP X pins σ Q (.bool k') s:=by
 subst e
 exact ⟨.bl k,H,I,rfl,q⟩
theorem z5:OpR X (compareOp .Eq) rEq:=by
 intro pins s σ H x y v u Q I rx ry h
 obtain ⟨hs,q⟩:=h
 cases x with
 | non=>
  cases rx
  cases y with
  | non=>cases ry; exact PySem.EqNone.eq_none_none (zZ I q (by simp))
  | bl j=>cases ry; exact PySem.EqNone.eq_none_bool (zZ I q (by simp))
  | int j=>obtain ⟨t',rfl⟩:=ry; exact PySem.EqNone.eq_none_int (zZ I q (by simp))
  | str j=>obtain ⟨t',rfl⟩:=ry; exact PySem.EqNone.eq_none_str (zZ I q (by simp))
  | _=>exact absurd (show false = true from hs) Bool.false_ne_true
 | bl i=>
  cases rx
  cases y with
  | non=>cases ry; exact PySem.EqNone.eq_bool_none (zZ I q (by simp))
  | bl j=>cases ry; exact eq_bool (zZ I q zfo)
  | str j=>obtain ⟨t',rfl⟩:=ry; exact PySem.EqMixed.eq_bool_str (zZ I q (by simp))
  | _=>exact absurd (show false = true from hs) Bool.false_ne_true
 | int i=>
  obtain ⟨t,rfl⟩:=rx
  cases y with
  | non=>cases ry; exact PySem.EqNone.eq_int_none (zZ I q (by simp))
  | int j=>obtain ⟨t',rfl⟩:=ry; exact eq_int (zZ I q zcP)
  | str j=>obtain ⟨t',rfl⟩:=ry; exact PySem.EqMixed.eq_int_str (zZ I q (by simp))
  | _=>exact absurd (show false = true from hs) Bool.false_ne_true
 | str i=>
  obtain ⟨t,rfl⟩:=rx
  cases y with
  | non=>cases ry; exact PySem.EqNone.eq_str_none (zZ I q (by simp))
  | bl j=>cases ry; exact PySem.EqMixed.eq_str_bool (zZ I q (by simp))
  | int j=>obtain ⟨t',rfl⟩:=ry; exact PySem.EqMixed.eq_str_int (zZ I q (by simp))
  | str j=>obtain ⟨t',rfl⟩:=ry; exact eq_str (zZ I q zcO)
  | _=>exact absurd (show false = true from hs) Bool.false_ne_true
 | byt i=>
  obtain ⟨t,rfl⟩:=rx
  cases y with
  | byt j=>obtain ⟨t',rfl⟩:=ry; exact PySem.W.eq_bytes (zZ I q zcQ)
  | _=>exact absurd (show false = true from hs) Bool.false_ne_true
 | _=>cases y <;> exact absurd (show false = true from hs) Bool.false_ne_true
theorem zey:OpR X (compareOp .NotEq) rNe:=by
 intro pins s σ H x y v u Q I rx ry h
 obtain ⟨hs,q⟩:=h
 cases x with
 | non=>
  cases rx
  cases y with
  | non=>cases ry; exact PySem.EqNone.ne_none_none (zZ I q (by simp))
  | bl j=>cases ry; exact PySem.EqNone.ne_none_bool (zZ I q (by simp))
  | int j=>obtain ⟨t',rfl⟩:=ry; exact PySem.EqNone.ne_none_int (zZ I q (by simp))
  | str j=>obtain ⟨t',rfl⟩:=ry; exact PySem.EqNone.ne_none_str (zZ I q (by simp))
  | _=>exact absurd (show false = true from hs) Bool.false_ne_true
 | bl i=>
  cases rx
  cases y with
  | non=>cases ry; exact PySem.EqNone.ne_bool_none (zZ I q (by simp))
  | bl j=>cases ry; exact ne_bool (zZ I q (congrArg not zfo))
  | str j=>obtain ⟨t',rfl⟩:=ry; exact PySem.EqMixed.ne_bool_str (zZ I q (by simp))
  | _=>exact absurd (show false = true from hs) Bool.false_ne_true
 | int i=>
  obtain ⟨t,rfl⟩:=rx
  cases y with
  | non=>cases ry; exact PySem.EqNone.ne_int_none (zZ I q (by simp))
  | int j=>obtain ⟨t',rfl⟩:=ry; exact ne_int (zZ I q (congrArg not zcP))
  | str j=>obtain ⟨t',rfl⟩:=ry; exact PySem.EqMixed.ne_int_str (zZ I q (by simp))
  | _=>exact absurd (show false = true from hs) Bool.false_ne_true
 | str i=>
  obtain ⟨t,rfl⟩:=rx
  cases y with
  | non=>cases ry; exact PySem.EqNone.ne_str_none (zZ I q (by simp))
  | bl j=>cases ry; exact PySem.EqMixed.ne_str_bool (zZ I q (by simp))
  | int j=>obtain ⟨t',rfl⟩:=ry; exact PySem.EqMixed.ne_str_int (zZ I q (by simp))
  | str j=>obtain ⟨t',rfl⟩:=ry; exact ne_str (zZ I q (congrArg not zcO))
  | _=>exact absurd (show false = true from hs) Bool.false_ne_true
 | byt i=>
  obtain ⟨t,rfl⟩:=rx
  cases y with
  | byt j=>obtain ⟨t',rfl⟩:=ry; exact PySem.W.ne_bytes (zZ I q (congrArg not zcQ))
  | _=>exact absurd (show false = true from hs) Bool.false_ne_true
 | _=>cases y <;> exact absurd (show false = true from hs) Bool.false_ne_true
theorem xZ:OpR X (compareOp .Lt) (rI0 fun i j=>.bl (decide (i < j))):=zf5 fun _ _ _ _ _ _ _ q=>lt_int q
theorem zg7:OpR X (compareOp .LtE) (rI0 fun i j=>.bl (decide (i<=j))):=zf5 fun _ _ _ _ _ _ _ q=>le_int q
theorem jN:OpR X (compareOp .Gt) (rI0 fun i j=>.bl (decide (j < i))):=zf5 fun _ _ _ _ _ _ _ q=>gt_int q
theorem ziT:OpR X (compareOp .GtE) (rI0 fun i j=>.bl (decide (j<=i))):=zf5 fun _ _ _ _ _ _ _ q=>ge_int q
theorem zdd:OpR X (compareOp .In) (fun x y H Q=>∃ i j,x = .str i/\y = .str j/\Q (.bl (!(Builtin.Str.occurrences j i 0 j.length 1).isEmpty)) H):=by
 intro pins s σ H x y v u Q I rx ry h
 obtain ⟨i,j,rfl,rfl,q⟩:=h
 obtain ⟨t,rfl⟩:=rx
 obtain ⟨t',rfl⟩:=ry
 exact in_str (zZ I q rfl)
theorem zcD:OpR X (compareOp .IsNot) (fun x y H Q=>y = .non/\Q (.bl (!decide (x = .non))) H):=by
 intro pins s σ H x y v u Q I rx ry h
 obtain ⟨rfl,q⟩:=h
 cases ry
 refine isnot_none_gen (zZ I q ?_)
 cases x <;> first
  | (cases rx; rfl)
  | (obtain ⟨t,rfl⟩:=rx; rfl)
theorem zr (b:Expr) {op:CmpOp} (h:op ≠ .In:=by decide) (h2:op ≠ .NotIn:=by decide):behindInMarks op b = false:=by
 have e1:(op == CmpOp.In) = false:=by cases op <;> first | rfl | exact absurd rfl h
 have e2:(op == CmpOp.NotIn) = false:=by cases op <;> first | rfl | exact absurd rfl h2
 cases b <;> simp [behindInMarks,e1,e2]
theorem yM {op:CmpOp} {r:R2} (ho:OpR X (compareOp op) r) (ha:PE X a ta) (hb:PE X b tb) (hm:behindInMarks op b = false):PE X (.Compare a [op] [b] pos) (tOp r ta tb):=by
 refine ⟨?_⟩
 intro pins s σ H Q I h
 exact wpAny_Compare1 (zil ha hb I h fun v u s2 x y H2 I2 rx ry q=>ho pins s2 σ H2 x y v u Q I2 rx ry q) hm
inductive zjd (x:V) (H:Hp) (Q:Bool->Hp->Prop):Prop where
 | mk (k:Bool) (e:x = .bl k) (q:Q k H)
def zgR (t:TE):TT:=fun σ H Q=>t σ H fun x H'=>zjd x H' Q
theorem zi {op:CmpOp} {r:R2} (ho:OpR X (compareOp op) r) (ha:PE X a ta) (hb:PE X b tb) (hm:behindInMarks op b = false):PT X (.Compare a [op] [b] pos) (zgR (tOp r ta tb)):=by
 refine ⟨?_⟩
 intro pins s σ H Q I h
 refine wpAny_isTrue_Compare1 (thn (ha pins s σ H _ I h) fun v s1 ⟨x,H1,I1,r1,q1⟩=>thn (hb pins s1 σ H1 _ I1 q1) fun u s2 ⟨y,H2,I2,r2,q2⟩=>
  thn (ho pins s2 σ H2 x y v u _ I2 r1 r2 q2) fun c s3 ⟨z,H3,I3,r3,k,e,q3⟩=>?_) hm
 subst e
 cases r3
 exact wpAny_truthy_bool ⟨H3,I3,q3⟩
def zhn (r r':R2) (ta tb tc:TE):TE:=fun σ H Q=>ta σ H fun x H1=>tb σ H1 fun y H2=>r x y H2 fun z H3=>∃ k,z = .bl k/\
 (if k = true then tc σ H3 fun w' H4=>r' y w' H4 Q else Q (.bl false) H3)
theorem zet {op op':CmpOp} {r r':R2} (ho:OpR X (compareOp op) r) (ho':OpR X (compareOp op') r') (ha:PE X a ta) (hb:PE X b tb) (hc:PE X c tc)
  (hm:lastMarks [op,op'] [b,c] = false:=by with_unfolding_all rfl):PT X (.Compare a [op,op'] [b,c] pos) (zgR (zhn r r' ta tb tc)):=by
 refine ⟨?_⟩
 intro pins s σ H Q I h
 refine isTrue_chain (thn (ha pins s σ H _ I h) fun v s1 ⟨x,H1,I1,r1,q1⟩=>test_link (thn (hb pins s1 σ H1 _ I1 q1) fun u s2 ⟨y,H2,I2,r2,q2⟩=>
  thn (ho pins s2 σ H2 x y v u _ I2 r1 r2 q2) fun d s3 ⟨z,H3,I3,r3,k,e,q3⟩=>?_)) hm
 subst e
 cases r3
 refine wpAny_truthy_bool ?_
 cases k with
 | false=>
  obtain ⟨k',e',q'⟩:=q3
  cases e'
  exact ite_ff ⟨H3,I3,q'⟩
 | true=>
  refine ite_tt (test_last (thn (hc pins s3 σ H3 _ I3 q3) fun w' s4 ⟨z',H4,I4,r4,q4⟩=>thn (ho' pins s4 σ H4 y z' u w' _ I4 r2 r4 q4) fun d' s5 ⟨z2,H5,I5,r5,k2,e2,q5⟩=>?_))
  subst e2
  cases r5
  exact wpAny_truthy_bool ⟨H5,I5,q5⟩
theorem vY:(sizeLine:Nat) < 2 ^ 63:=by rw [sizeLine_eq]; decide
theorem xt {x:V} {us:List Value} (r:zS [x] us):∃ u,us = [u]/\zR x u:=by
 cases r with
 | cons r1 r2=>cases r2; exact ⟨_,rfl,r1⟩
theorem zb8 {x y:V} {us:List Value} (r:zS [x,y] us):∃ u w',us = [u,w']/\zR x u/\zR y w':=by
 cases r with
 | cons r1 r2=>
  cases r2 with
  | cons r3 r4=>cases r4; exact ⟨_,_,rfl,r1,r3⟩
theorem za5:yN X (.builtin "abs") (fun xs H Q=>∃ i,xs = [.int i]/\Q (.int (if i < 0 then -i else i)) H):=by
 intro pins s σ H xs us Q I r h
 obtain ⟨i,rfl,q⟩:=h
 obtain ⟨u,rfl,t,rfl⟩:=xt r
 exact call_abs_int fun u tk=>⟨.int (if i < 0 then -i else i),H,I.tok _,⟨_,rfl⟩,q⟩
theorem j7 (hc:X.calm = true):yN X (.builtin "max") (fun xs H Q=>∃ i j,xs = [.int i,.int j]/\Q (.int (if j > i then j else i)) H):=by
 intro pins s σ H xs us Q I r h
 obtain ⟨i,j,rfl,q⟩:=h
 obtain ⟨u,w',rfl,⟨t,rfl⟩,⟨t',rfl⟩⟩:=zb8 r
 refine max_two_ints (I.ok.hd hc) fun h' tk k=>⟨_,H,I.kept k,?_,q⟩
 by_cases hj:j > i
 ·rw [if_pos hj,if_pos hj]; exact ⟨_,rfl⟩
 ·rw [if_neg hj,if_neg hj]; exact ⟨_,rfl⟩
theorem uh (hc:X.calm = true):yN X (.builtin "min") (fun xs H Q=>∃ i j,xs = [.int i,.int j]/\Q (.int (if j < i then j else i)) H):=by
 intro pins s σ H xs us Q I r h
 obtain ⟨i,j,rfl,q⟩:=h
 obtain ⟨u,w',rfl,⟨t,rfl⟩,⟨t',rfl⟩⟩:=zb8 r
 refine min_two_ints (I.ok.hd hc) fun h' tk k=>⟨_,H,I.kept k,?_,q⟩
 by_cases hj:j < i
 ·rw [if_pos hj,if_pos hj]; exact ⟨_,rfl⟩
 ·rw [if_neg hj,if_neg hj]; exact ⟨_,rfl⟩
theorem ui:yN X (.type "int") (fun xs H Q=>(∃ i,xs = [.int i]/\Q (.int i) H)\/∃ k,xs = [.bl k]/\Q (.int (if k then 1 else 0)) H):=by
 intro pins s σ H xs us Q I r h
 rcases h with ⟨i,rfl,q⟩ | ⟨k,rfl,q⟩
 ·obtain ⟨u,rfl,t,rfl⟩:=xt r
  exact call_int_int ⟨.int i,H,I,⟨_,rfl⟩,q⟩
 ·obtain ⟨u,rfl,r1⟩:=xt r
  cases r1
  exact call_int_bool ⟨.int (if k then 1 else 0),H,I.tok _,⟨_,rfl⟩,q⟩
end
structure zb3 (h:Heap) (x dx C:Addr) (mA:Str->Option Value):Prop where
 obj:h.get? x = some (instObj C dx)
 ns:h.Ns1 dx mA
 ne:dx ≠ x
theorem zdk {h:Heap} {dx:Addr} {mA:Str->Option Value} (n:h.Ns1 dx mA):∃ od,h.get? dx = some od/\∀ name,lookIn name od = some (mA name):=by
 obtain ⟨o,es,ep,ho,hd,hk,_,hm⟩:=n
 refine ⟨o,ho,fun name=>?_⟩
 have e:=hm name
 unfold nsFind findBy at e
 rw [<- Array.find?_toList] at e
 unfold lookIn
 rw [hd]
 dsimp only
 split
 ·rename_i y q
  rw [q] at e
  exact congrArg some e
 ·rename_i q
  rw [q] at e
  have a:es.toList.any (·.refKey) = false:=by
   rw [List.any_eq_false]
   intro y hy
   obtain ⟨z,t,hkey⟩:=hk y (Array.mem_toList_iff.mp hy)
   simp [DictEntry.refKey,hkey]
  have a':¬ es.toList.any (·.refKey) = true:=by rw [a]; exact Bool.false_ne_true
  rw [if_neg a']
  exact congrArg some e
theorem zb3.look {h:Heap} {x dx C:Addr} {mA:Str->Option Value} (I:zb3 h x dx C mA):∃ od,PySem.W.InstAt h x (instObj C dx) C (some od)/\∀ name,lookIn name od = some (mA name):=
 let ⟨od,ho,hl⟩:=zdk I.ns
 ⟨od,⟨I.obj,rfl,rfl,ho⟩,hl⟩
section
variable {prog:Program} {w:World} {A:Around} {E:Value->Shared->Prop} {s:Shared} {K:Frag} {x dx C f:Addr} {mA:Str->Option Value} {name:Str} {v:Value}
theorem zgC {expr:Bool} {Q:Value->Shared->Prop} (X:K.In s.heap) (I:zb3 s.heap x dx C mA) (hg:plainGet K C name = true) (hh:hasDictIn K C = true)
  (ha:findIn K (.ref C) name = some none) (hv:mA name = some v) (hv':PySem.W.handedIn v = true) (h:Q v { s with toks:=s.toks + 1 }) :
  wpAny (model prog w) A (getAttr (.ref x) name expr) Q E s:=by
 obtain ⟨od,J,hl⟩:=I.look
 exact PySem.W.get_value X J (plainGet_of hg).1 (PySem.W.findObj_own hh ha rfl (by rw [hl,hv])) hv' h
theorem zfe {pl:Sem Bool} {Q:Value × List Value->Shared->Prop} (X:K.In s.heap) (I:zb3 s.heap x dx C mA) (hg:plainGet K C name = true)
  (hf:findIn K (.ref C) name = some (some (.ref f))) (ht:isFn K (.ref f) = true) (hv:mA name = none) (h:Q (.ref f,[.ref x]) s) :
  wpAny (model prog w) A (getMethod (.ref x) name pl) Q E s:=by
 obtain ⟨od,J,hl⟩:=I.look
 exact PySem.W.method_fn X J (plainGet_of hg).1 (plainGet_of hg).2 hf (beq_iff_eq.mp ht) (by show (lookIn name od).map (·.isSome) = some false; rw [hl,hv]; rfl) h
theorem zfH {ns:List Str} {Q:Unit->Shared->Prop} (X:K.In s.heap) (I:zb3 s.heap x dx C mA)
  (hs:findIn K (.ref C) "__setattr__" = some (some (.builtin "object.__setattr__"))) (hp:plainOver K C = true) (ht:takerIn K C name = some none) (hh:hasDictIn K C = true)
  (hw:PySem.Within mA ns) (hsz:ns.length<=sizeLine)
  (h:∀ h',zb3 h' x dx C (fun y=>if y = name then some v else mA y)->Heap.SameBut dx s.heap h'->Q () { s with heap:=h',toks:=s.toks + 2 }) :
  wpAny (model prog w) A (setAttr (.ref x) name v) Q E s:=by
 obtain ⟨od,J,hl⟩:=I.look
 refine PySem.W.set_plain X J hs (PySem.W.osa_open (s:={ s with toks:=s.toks + 1 }) (r:=none) X J hp ht fun b=>?_)
 obtain ⟨cd,hc,hd'⟩:=PySem.W.any_some hh
 have hx:s.heap.get? x = some ⟨.ref C,some dx,.plain,#[]⟩:=I.obj
 refine wpAny_bind (wpAny_pure (wpAny_bind (wpAny_bind (wpAny_loadPart hx (wpAny_bind (PySem.W.Looks.here (s:={ s with toks:=s.toks + 1 }) (PySem.W.looks_clsIn X hc) ?_))))))
 rw [hd']
 refine wpAny_pure (a:=some dx) (wpAny_bind (wpAny_pure (wpAny_bind ?_)))
 refine wpAny_nsSet1 (s:={ s with toks:=s.toks + 1 }) I.ns fun h' hn2 hs2=>?_
 obtain ⟨oD,esD,epD,hoD,hdD,hcD⟩:=hn2.count (PySem.Within.cons name v hw)
 refine wpAny_bind (wpAny_lookBehind hoD (by rw [hdD]; exact pastItsLine_dict (Nat.le_trans hcD (by rw [List.length_cons]; omega))) ?_)
 exact wpAny_pure (h _ ⟨(hs2.2 _ (Ne.symm I.ne)).trans I.obj,hn2,I.ne⟩ hs2)
theorem ze5 {R:Result->Shared->Prop} {vs:List Value} {kw:List (Str × Value)} (X:K.In s.heap) (hm:makesIn K C = true)
  (hi:findIn K (.ref C) "__init__" = some (some (.ref f))) (hf:PySem.W.typeIn K (.ref f) = some (.type "function"))
  (h:codeAny (model prog w) (A.under (.builtin "type.__call__" ⟨.ref C :: vs,kw⟩)) (.call (.ref f) ⟨.ref (s.heap.objs.size + 1) :: vs,kw⟩) (PySem.W.InitBack (s.heap.objs.size + 1) R)
   { s with heap:=(s.heap.push emptyDict).push (instObj C s.heap.objs.size) }) :
  codeAny (model prog w) A (.call (.ref C) ⟨vs,kw⟩) R s:=by
 obtain ⟨hh,g,d,t,os⟩:=s
 exact PySem.W.make_core (PySem.W.makes_of X hm) (PySem.W.looks_findIn X hi) (fun self=>PySem.W.bind_fn X self hf) (.inl rfl) h
end
def zW (f:Str) (v:V):List (Str × V)->List (Str × V)
 | []=>[(f,v)]
 | (g,x) :: r=>if g = f then (g,v) :: r else (g,x) :: zW f v r
theorem zl (f g:Str) (v:V):∀ fs:List (Str × V),(zW f v fs).lookup g = if g = f then some v else fs.lookup g
 | []=>by
  show List.lookup g [(f,v)] = _
  by_cases h:g = f
  ·have hb:(g == f) = true:=beq_iff_eq.mpr h
   simp only [List.lookup,hb,if_pos h]
  ·have hb:(g == f) = false:=beq_eq_false_iff_ne.mpr h
   simp only [List.lookup,hb,if_neg h]
 | (k,x) :: r=>by
  have ih:=zl f g v r
  rw [show zW f v ((k,x) :: r) = (if k = f then (k,v) :: r else (k,x) :: zW f v r) from rfl]
  by_cases hk:k = f
  ·rw [if_pos hk]
   by_cases h:g = k
   ·have hb:(g == k) = true:=beq_iff_eq.mpr h
    simp only [List.lookup,hb,if_pos (h.trans hk)]
   ·have hb:(g == k) = false:=beq_eq_false_iff_ne.mpr h
    simp only [List.lookup,hb,if_neg (fun e:g = f=>h (e.trans hk.symm))]
  ·rw [if_neg hk]
   by_cases h:g = k
   ·have hb:(g == k) = true:=beq_iff_eq.mpr h
    simp only [List.lookup,hb,if_neg (fun e:g = f=>hk (h.symm.trans e))]
   ·have hb:(g == k) = false:=beq_eq_false_iff_ne.mpr h
    simp only [List.lookup,hb]
    exact ih
theorem ua (f:Str) (v:V):∀ fs:List (Str × V),f ∈ (zW f v fs).map (·.1)/\∀ g,g ∈ fs.map (·.1)->g ∈ (zW f v fs).map (·.1)
 | []=>⟨by simp [zW],fun g h=>by simp at h⟩
 | (k,x) :: r=>by
  obtain ⟨i1,i2⟩:=ua f v r
  rw [show zW f v ((k,x) :: r) = (if k = f then (k,v) :: r else (k,x) :: zW f v r) from rfl]
  by_cases hk:k = f
  ·rw [if_pos hk]
   subst hk
   exact ⟨by simp,fun g h=>by simpa using h⟩
  ·rw [if_neg hk]
   refine ⟨?_,fun g h=>?_⟩
   ·rw [List.map_cons]
    exact List.mem_cons_of_mem _ i1
   ·rw [List.map_cons] at h |-
    rcases List.mem_cons.mp h with e | e
    ·exact List.mem_cons.mpr (.inl e)
    ·exact List.mem_cons_of_mem _ (i2 g e)
theorem ut (f:Str) (v:V):∀ fs:List (Str × V),(zW f v fs).length<=fs.length + 1
 | []=>by simp [zW]
 | (k,x) :: r=>by
  have ih:=ut f v r
  rw [show zW f v ((k,x) :: r) = (if k = f then (k,v) :: r else (k,x) :: zW f v r) from rfl]
  by_cases hk:k = f
  ·rw [if_pos hk,List.length_cons,List.length_cons]; omega
  ·rw [if_neg hk,List.length_cons,List.length_cons]; omega
theorem wF.some_of {v:V} {o:Option Value} (r:wF (some v) o):∃ u,o = some u/\zR v u:=by
 cases o with
 | none=>exact (show False from r).elim
 | some u=>exact ⟨u,rfl,r⟩
theorem wF.none_of {o:Option Value} (r:wF none o):o = none:=by
 cases o with
 | none=>rfl
 | some u=>exact (show False from r).elim
theorem zdr {v:V} {u:Value} (r:zR v u):PySem.W.handedIn u = true:=by
 cases v with
 | non=>cases (show u = Value.none from r); rfl
 | bl b=>cases (show u = Value.bool b from r); rfl
 | int i=>obtain ⟨t,e⟩:=(show ∃ t,u = Value.int i t from r); cases e; rfl
 | str x=>obtain ⟨t,e⟩:=(show ∃ t,u = Value.str x t from r); cases e; rfl
 | byt b=>obtain ⟨t,e⟩:=(show ∃ t,u = Value.bytes b t from r); cases e; rfl
 | flt b=>obtain ⟨t,e⟩:=(show ∃ t,u = Value.float b t from r); cases e; rfl
 | ref a=>cases (show u = Value.ref a from r); rfl
 | ty n=>cases (show u = Value.type n from r); rfl
section
variable {P:Program} {w:World} {H H':Hp} {h h':Heap} {a C dx:Addr} {fs fs':List (Str × V)}
theorem uE (hok:HOk P w H h) (e:H a = some (.ins C dx fs)):∃ mA,zb3 h a dx C mA/\(∀ f,wF (fs.lookup f) (mA f))/\PySem.Within mA (fs.map (·.1))/\fs.length<=1000/\H dx = some (.own a):=by
 obtain ⟨d,z,ne,ob,mA,n,r,q⟩:=(show yy P w H h a (.ins C dx fs) from hok a _ e)
 exact ⟨mA,⟨ob,n,ne⟩,r,q,z,d⟩
end
structure Cls (K:Frag) (C:Addr):Prop where
 pg:plainGet K C Str.empty = true
 hd:hasDictIn K C = true
 po:plainOver K C = true
 sa:findIn K (.ref C) "__setattr__" = some (some (.builtin "object.__setattr__"))
theorem Cls.get {K:Frag} {C:Addr} (c:Cls K C) (f:Str):plainGet K C f = true:=c.pg
def xb (K:Frag) (C:Addr) (f:Str):Prop:=findIn K (.ref C) f = some none
theorem xb.taker {K:Frag} {C:Addr} {f:Str} (n:xb K C f):takerIn K C f = some none:=by
 unfold takerIn
 rw [show findIn K (.ref C) f = some none from n]
 rfl
structure y1 (K:Frag) (C:Addr) (m:Str) (f:Addr):Prop where
 at_:findIn K (.ref C) m = some (some (.ref f))
 fn:isFn K (.ref f) = true
 kp:keepIn K (.ref f) = true
section
variable {X:Cx} {pins:List (Addr × Obj)} {σ : St} {H:Hp} {s:Shared} {a C dx:Addr} {fs:List (Str × V)} {f:Str} {v:V} {A:Around} {E:Value->Shared->Prop}
theorem zbT {b:Bool} {Q:Value->Shared->Prop} (I:Inv X pins σ H s) (e:H a = some (.ins C dx fs)) (c:Cls X.K C) (n:xb X.K C f) (l:fs.lookup f = some v)
  (h:∀ u s',Inv X pins σ H s'->zR v u->Q u s'):wpAny (model X.prog X.w) A (getAttr (.ref a) f b) Q E s:=by
 obtain ⟨mA,O,r,_,_,_⟩:=uE I.hok e
 obtain ⟨u,hu,ru⟩:=wF.some_of (v:=v) (o:=mA f) (by rw [<- l]; exact r f)
 exact zgC I.kIn O (c.get f) c.hd n hu (zdr ru) (h u _ (I.tok _) ru)
theorem wA {m:Str} {g:Addr} {pl:Sem Bool} {Q:Value × List Value->Shared->Prop} (I:Inv X pins σ H s) (e:H a = some (.ins C dx fs)) (c:Cls X.K C) (k:y1 X.K C m g) (l:fs.lookup m = none)
  (h:Q (.ref g,[.ref a]) s):wpAny (model X.prog X.w) A (getMethod (.ref a) m pl) Q E s:=by
 obtain ⟨mA,O,r,_,_,_⟩:=uE I.hok e
 have hn:mA m = none:=wF.none_of (by rw [<- l]; exact r m)
 exact zfe I.kIn O (c.get m) k.at_ k.fn hn h
theorem zbf {y:V} {u:Value} {Q:Unit->Shared->Prop} (I:Inv X pins σ H s) (e:H a = some (.ins C dx fs)) (c:Cls X.K C) (n:xb X.K C f) (hl:fs.length < 1000) (ry:zR y u)
  (h:∀ s',Inv X pins σ (upd H a (.ins C dx (zW f y fs))) s'->Q () s'):wpAny (model X.prog X.w) A (setAttr (.ref a) f u) Q E s:=by
 obtain ⟨mA,O,r,wi,_,ho⟩:=uE I.hok e
 have hz:(fs.map (·.1)).length<=sizeLine:=by rw [List.length_map,sizeLine_eq]; omega
 refine zfH I.kIn O c.sa c.po n.taker c.hd wi hz fun h' O' sb=>h _ ?_
 have hd:∃ o,h'.get? dx = some o:=let ⟨o,_,_,e',_⟩:=O'.ns; ⟨o,e'⟩
 refine I.write (x:=a) (e:=dx) (by rw [e]; exact True.intro) (.inr ho) (fun b q hb z=>(sb.2 b hb).trans z) hd ?_
 refine ⟨by rw [zg O.ne]; exact ho,?_,O.ne,O'.obj,_,O'.ns,fun g=>?_,fun g hg=>?_⟩
 ·have:=ut f y fs; omega
 ·show wF ((zW f y fs).lookup g) (if g = f then some u else mA g)
  rw [zl]
  by_cases q:g = f
  ·rw [if_pos q,if_pos q]; exact ry
  ·rw [if_neg q,if_neg q]; exact r g
 ·by_cases q:g = f
  ·rw [q]; exact (ua f y fs).1
  ·refine (ua f y fs).2 g (wi g fun z=>hg ?_)
   show (if g = f then some u else mA g) = none
   rw [if_neg q]; exact z
theorem Inv.made (I:Inv X pins σ H s):Inv X pins σ (upd (upd H s.heap.objs.size (.own (s.heap.objs.size + 1))) (s.heap.objs.size + 1) (.ins C s.heap.objs.size []))
  { s with heap:=(s.heap.push emptyDict).push (instObj C s.heap.objs.size) }:=by
 have e1:(s.heap.push emptyDict).get? s.heap.objs.size = some emptyDict:=Heap.get?_push_size s.heap rfl
 have e2:((s.heap.push emptyDict).push (instObj C s.heap.objs.size)).get? (s.heap.objs.size + 1) = some (instObj C s.heap.objs.size):=by
  have:=Heap.get?_push_size (s.heap.push emptyDict) (o:=instObj C s.heap.objs.size) rfl
  rwa [Heap.size_push] at this
 have e3:(s.heap.push emptyDict).Ns s.heap.objs.size (fun _=>none):=⟨emptyDict,#[],_,e1,rfl,(fun e he=>absurd he (by simp)),fun _=>rfl⟩
 have I1:=I.laid (a:=s.heap.objs.size) (o:=.own (s.heap.objs.size + 1)) (h':=s.heap.push emptyDict) (t':=s.toks) (fun b u q=>Heap.get?_push_of_some _ q) (Nat.le_refl _) ⟨_,e1⟩
 refine I1.laid (a:=s.heap.objs.size + 1) (o:=.ins C s.heap.objs.size []) (t':=s.toks) (fun b u q=>Heap.get?_push_of_some _ q) (Nat.le_of_eq (Heap.size_push _ _)) ?_
 have ne:s.heap.objs.size ≠ s.heap.objs.size + 1:=Nat.ne_of_lt (Nat.lt_succ_self _)
 refine ⟨by rw [zg ne,za],Nat.zero_le _,ne,e2,fun _=>none,(Heap.Ns1.of_empty e3).at fun o q=>Heap.get?_push_of_some _ q,fun _=>True.intro,fun y hy=>absurd rfl hy⟩
theorem zgK {prog:Program} {w:World} {env:Env} {e:Expr} {f:Str} {pos:Pos} {s:Shared} {Q:Value->Shared->Prop} (hb:attributeBase e f env (eval e env) = eval e env)
  (h:wpAny (model prog w) A (eval e env) (fun o s₁=>wpAny (model prog w) A (getAttr o f true) Q E s₁) E s):wpAny (model prog w) A (eval (.Attribute e f pos) env) Q E s:=
 Attribute_any_ h (by rw [arm_eval_Attribute,hb])
end
def ziA (K:Frag) (ta:TE) (f:Str):TE:=fun σ H Q=>ta σ H fun x H1=>∃ a C dx fs v,x = .ref a/\H1 a = some (.ins C dx fs)/\Cls K C/\xb K C f/\fs.lookup f = some v/\Q v H1
def zjq (K:Frag) (ta tv:TE) (f:Str):TS:=fun D σ H=>tv σ H fun y H1=>ta σ H1 fun x H2=>∃ a C dx fs,x = .ref a/\H2 a = some (.ins C dx fs)/\Cls K C/\xb K C f/\fs.length < 1000/\
 D.nx σ (upd H2 a (.ins C dx (zW f y fs)))
section
variable {X:Cx} {o e value:Expr} {f:Str} {pos pos' tpos:Pos} {ta tv:TE}
theorem yE (he:PE X e ta) (hb:attributeBase e f X.env (eval e X.env) = eval e X.env):PE X (.Attribute e f pos) (ziA X.K ta f):=by
 refine ⟨?_⟩
 intro pins s σ H Q I h
 refine zgK hb (thn (he pins s σ H _ I h) fun u s1 ⟨x,H1,I1,rx,a,C,dx,fs,v,ex,ea,c,n,l,q⟩=>?_)
 subst ex
 obtain rfl:u = Value.ref a:=rx
 exact zbT I1 ea c n l fun u' s2 I2 ru=>⟨v,H1,I2,ru,q⟩
theorem wu (ha:PE X o ta) (hv:PE X value tv) (hs:swapsWith value (some (.Attribute o f pos')) pos.line X.env = pure false):PS X (.Assign [.Attribute o f pos'] value pos) (zjq X.K ta tv f):=by
 refine ⟨?_⟩
 intro pins s σ H D I h
 refine plainObj_wpAny_Assign_Attribute (thn (hv pins s σ H _ I h) fun u s1 ⟨y,H1,I1,ry,q⟩=>thn (ha pins s1 σ H1 _ I1 q) fun ov s2 ⟨x,H2,I2,rx,a,C,dx,fs,ex,ea,c,n,l,q2⟩=>?_) hs
 subst ex
 obtain rfl:ov = Value.ref a:=rx
 exact zbf I2 ea c n l ry fun s3 I3=>⟨σ,_,I3,q2⟩
theorem zg8 {pl:Sem Bool} {m:Str} {apos:Pos} {args:List Expr} {pins:List (Addr × Obj)} {s:Shared} {σ : St} {H:Hp} {Q:Value->Shared->Prop} {te:TE} (he:PE X e te) (I:Inv X pins σ H s)
  (h:te σ H fun x H1=>∃ a C dx fs g,x = .ref a/\H1 a = some (.ins C dx fs)/\Cls X.K C/\y1 X.K C m g/\fs.lookup m = none/\
   ∀ s1,Inv X pins σ H1 s1->wpAny (model X.prog X.w) X.A (callWith pos (.ref g) [.ref a] (backTo pos (starEach args X.env)) (backToKw pos (keywordEach [] X.env))) Q X.xe s1)
  (ht:eval (.Call (.Attribute e m apos) args [] pos) X.env = (do
   let ov <- eval e X.env
   standAt apos.atName
   let (f,first) <- holding [ov] (getMethod ov m pl)
   callWith pos f first (backTo pos (starEach args X.env)) (backToKw pos (keywordEach [] X.env)))) :
  wpAny (model X.prog X.w) X.A (eval (.Call (.Attribute e m apos) args [] pos) X.env) Q X.xe s:=by
 refine methodCall_KW (pl:=pl) (thn (he pins s σ H _ I h) fun u s1 ⟨x,H1,I1,rx,a,C,dx,fs,g,ex,ea,c,k,l,q⟩=>?_) ht
 subst ex
 obtain rfl:u = Value.ref a:=rx
 exact wA I1 ea c k l (q s1 I1)
end
section
variable {X:Cx} {pins:List (Addr × Obj)} {σ : St} {H:Hp} {s:Shared} {A:Around} {E:Value->Shared->Prop} {Q:Value->Shared->Prop} {c:Value} {b:Bool}
inductive vf (K:Frag) (H:Hp):V->Value->Prop where
 | non:vf K H .non (.type "NoneType")
 | bl (x:Bool):vf K H (.bl x) (.type "bool")
 | int (i:Int):vf K H (.int i) (.type "int")
 | str (x:Str):vf K H (.str x) (.type "str")
 | flt (x:UInt64):vf K H (.flt x) (.type "float")
 | lst {a:Addr} {xs:List V} (e:H a = some (.lst xs)):vf K H (.ref a) (.type "list")
 | frz {a:Addr} {o:Obj} {xs:List V} (e:H a = some (.frz o (.lst xs))):vf K H (.ref a) (.type "list")
 | tup {a:Addr} {xs:List V} (e:H a = some (.tup xs)):vf K H (.ref a) (.type "tuple")
 | dK {a:Addr} {kvs:List (Key × V)} (e:H a = some (.dK kvs)):vf K H (.ref a) (.type "dict")
 | dT {a:Addr} {kvs:List (List Key × V)} (e:H a = some (.dT kvs)):vf K H (.ref a) (.type "dict")
 | ins {a C dx:Addr} {fs:List (Str × V)} (e:H a = some (.ins C dx fs)) (cl:Cls K C) (ha:findIn K (.ref C) "__class__" = some (some (.builtin "object.__class__")))
   (hn:PySem.W.specialIn K (.builtin "object.__class__") "__get__" = some (some (.builtin "getset_descriptor.__get__"))) (htk:PySem.W.takesIn K (.builtin "object.__class__") = some true)
   (hm:PySem.W.mroIn K C (.type "object") = some true):vf K H (.ref a) (.ref C)
theorem zdo {x:V} {u t:Value} (I:Inv X pins σ H s) (rx:zR x u) (ty:vf X.K H x t) (e:kitOne X.K t c = some b) (h:∀ tk,Q (.bool b) { s with toks:=tk }) :
  wpAny (model X.prog X.w) A (call (.builtin "isinstance") [u,c]) Q E s:=by
 cases ty with
 | non=>cases (show u = Value.none from rx); exact kia_one PySem.W.kitx_none I.kIn True.intro e (fun z=>nomatch z) h
 | bl y=>cases (show u = Value.bool y from rx); exact kia_one PySem.W.kitx_bool I.kIn True.intro e (fun z=>nomatch z) h
 | int i=>obtain ⟨t,q⟩:=(show ∃ t,u = Value.int i t from rx); cases q; exact kia_one PySem.W.kitx_int I.kIn True.intro e (fun z=>nomatch z) h
 | str y=>obtain ⟨t,q⟩:=(show ∃ t,u = Value.str y t from rx); cases q; exact kia_one PySem.W.kitx_str I.kIn True.intro e (fun z=>nomatch z) h
 | flt y=>obtain ⟨t,q⟩:=(show ∃ t,u = Value.float y t from rx); cases q; exact kia_one PySem.W.kitx_float I.kIn True.intro e (fun z=>nomatch z) h
 | @lst a xs ea=>
  cases (show u = Value.ref a from rx)
  obtain ⟨_,_,n,_,h1⟩:=(show yy X.prog X.w H s.heap a (.lst xs) from I.hok a _ ea)
  exact kia_one PySem.W.kitx_list I.kIn ⟨_,h1,rfl⟩ e (fun z=>nomatch z) h
 | @frz a ob xs ea=>
  cases (show u = Value.ref a from rx)
  obtain ⟨_,_,_,n,_,h1⟩:=(show yy X.prog X.w H s.heap a (.frz ob (.lst xs)) from I.hok a _ ea)
  exact kia_one PySem.W.kitx_list I.kIn ⟨_,h1,rfl⟩ e (fun z=>nomatch z) h
 | @tup a xs ea=>
  cases (show u = Value.ref a from rx)
  obtain ⟨_,_,_,p⟩:=(show yy X.prog X.w H s.heap a (.tup xs) from I.hok a _ ea)
  obtain ⟨o,h1,h2,_⟩:=p
  exact kia_one PySem.W.kitx_tuple I.kIn ⟨o,h1,h2⟩ e (fun z=>nomatch z) h
 | @dK a kvs ea=>
  cases (show u = Value.ref a from rx)
  obtain ⟨_,_,vs,_,p⟩:=(show yy X.prog X.w H s.heap a (.dK kvs) from I.hok a _ ea)
  obtain ⟨o,es,ep,h1,h2,_⟩:=p
  exact kia_one PySem.W.kitx_dict I.kIn ⟨o,h1,h2.1⟩ e (fun z=>nomatch z) h
 | @dT a kvs ea=>
  cases (show u = Value.ref a from rx)
  obtain ⟨_,_,xs,_,o,es,ep,h1,h2,_⟩:=(show yy X.prog X.w H s.heap a (.dT kvs) from I.hok a _ ea)
  exact kia_one PySem.W.kitx_dict I.kIn ⟨o,h1,h2.1⟩ e (fun z=>nomatch z) h
 | @ins a C dx fs ea cl ha hn htk hm=>
  cases (show u = Value.ref a from rx)
  obtain ⟨mA,O,_⟩:=uE I.hok ea
  obtain ⟨od,J,_⟩:=O.look
  exact kia_one (PySem.W.kitx_own (cl.get _) cl.hd ha hn htk hm) I.kIn J e (fun z=>nomatch z) h
end
structure yq (k:Nat) (A:Around):Prop where
 hd:A.handled = none
 dp:A.depth + 3 * k + 5 < recursionLimit
 un:A.units + 16 * k + 200 < cLine
theorem yq.mono {j k:Nat} {A:Around} (r:yq k A) (h:j<=k):yq j A:=⟨r.hd,by have:=r.dp; omega,by have:=r.un; omega⟩
theorem yq.deeper {k:Nat} {A:Around} (r:yq (k + 1) A) (env:Env):yq k (A.deeper env):=
 ⟨r.hd,by have:=r.dp; show A.depth + 1 + 3 * k + 5 < _; omega,by have:=r.un; show A.units + 3 + 16 * k + 200 < _; omega⟩
theorem zbL {A:Around} {C:Addr} {us:List Value} {kw:List (Str × Value)}:(A.under (.builtin "type.__call__" ⟨.ref C :: us,kw⟩)).depth = A.depth + 1:=by
 first | rfl | simp [Around.under,Code.weight,Code.isCreation,Code.isGuard,Code.isCaller,Code.frames,Code.isFrame,guardIds]
theorem zbK {A:Around} {C:Addr} {us:List Value} {kw:List (Str × Value)}:(A.under (.builtin "type.__call__" ⟨.ref C :: us,kw⟩)).units = A.units + 1:=by
 first | rfl | simp [Around.under,Code.cUnits,Code.frames,Code.isFrame]
theorem yq.make {k:Nat} {A:Around} (r:yq (k + 1) A) (C:Addr) (us:List Value) (kw:List (Str × Value)):yq k (A.under (.builtin "type.__call__" ⟨.ref C :: us,kw⟩)):=
 ⟨r.hd,by have:=r.dp; rw [zbL]; omega,by have:=r.un; rw [zbK]; omega⟩
theorem yq.depth {k:Nat} {A:Around} (r:yq k A):A.depth < recursionLimit:=by have:=r.dp; omega
theorem yq.units {k:Nat} {A:Around} (r:yq k A):A.units + 64 < cLine:=by have:=r.un; omega
def zhj:TA:=fun _ H Q=>Q [] H
def zgV (ta:TE) (tr:TA):TA:=fun σ H Q=>ta σ H fun x H1=>tr σ H1 fun xs H2=>Q (x :: xs) H2
section
variable {X:Cx} {e:Expr} {es:List Expr} {te:TE} {t:TA} {pos:Pos}
theorem zb:PA X [] zhj:=⟨fun _ _ _ _ H Q I h=>Calls.spliced_nil ⟨[],H,I,.nil,h⟩⟩
theorem zf2 (ha:PE X e te) (hr:PA X es t) (hs:starEach (e :: es) X.env = (false,eval e X.env) :: starEach es X.env:=by rfl):PA X (e :: es) (zgV te t):=by
 refine ⟨?_⟩
 intro pos pins s σ H Q I h
 rw [hs]
 show wpAny _ _ (spliced ((false,eval e X.env) :: backTo pos (starEach es X.env))) _ _ s
 refine Calls.spliced_cons (thn (ha pins s σ H _ I h) fun u s1 ⟨x,H1,I1,r1,q1⟩=>?_)
 exact thn (hr pos pins s1 σ H1 _ I1 q1) fun us s2 ⟨xs,H2,I2,r2,q2⟩=>⟨x :: xs,H2,I2,.cons r1 r2,q2⟩
def zjf (t:TA):TE:=fun σ H Q=>t σ H fun xs H1=>xs.length<=sizeLine/\∀ p,H1 p = none->Q (.ref p) (upd H1 p (.tup xs))
def zji (t:TA):TE:=fun σ H Q=>t σ H fun xs H1=>xs.length<=sizeLine/\∀ p,H1 p = none->Q (.ref p) (upd H1 p (.lst xs))
theorem zE {x1} (h:PA X es t):PE X (.Tuple es x1 pos) (zjf t):=by
 refine ⟨?_⟩
 intro pins s σ H Q I hq
 refine wpAny_Tuple_spliced (thn (h pos pins s σ H _ I hq) fun us s1 ⟨xs,H1,I1,r,z,q⟩=>⟨by rw [<- r.length]; exact z,?_⟩)
 have hf:H1 s1.heap.objs.size = none:=I1.hok.fresh (Nat.le_refl _)
 refine ⟨.ref s1.heap.objs.size,upd H1 s1.heap.objs.size (.tup xs),I1.laid (t':=s1.toks) (fun b u e=>Heap.get?_push_of_some _ e) (Nat.le_refl _) ?_,rfl,q _ hf⟩
 exact ⟨z,us,r,⟨_,Heap.get?_push_size _ rfl,rfl,_,rfl⟩⟩
theorem zT (h:PA X es t):PE X (.List es pos) (zji t):=by
 refine ⟨?_⟩
 intro pins s σ H Q I hq
 refine wpAny_List_spliced (thn (h pos pins s σ H _ I hq) fun us s1 ⟨xs,H1,I1,r,z,q⟩=>⟨by rw [<- r.length]; exact z,?_⟩)
 have hf:H1 s1.heap.objs.size = none:=I1.hok.fresh (Nat.le_refl _)
 refine ⟨.ref s1.heap.objs.size,upd H1 s1.heap.objs.size (.lst xs),I1.laid (t':=s1.toks) (fun b u e=>Heap.get?_push_of_some _ e) (Nat.le_refl _) ?_,rfl,q _ hf⟩
 exact ⟨z,us,0,r,Heap.get?_push_size _ rfl⟩
end
abbrev Sp:=List V->Hp->VK->XK->Prop
abbrev CXT:=List Env->Hp->Shared->XK->Value->Shared->Prop
structure zb6 (P:Program) (w:World) (K:Frag) (mg:Str->Option Value) (base:Heap) (A:Around) (outer:List Env) (s:Shared) (H:Hp):Prop where
 frames:A.frames = some outer
 mod:Mod K mg base
 bs:∀ b o,base.get? b = some o->s.heap.get? b = some o/\H b = none
 bsz:base.objs.size<=s.heap.objs.size
 funs:s.heap.FunFrames base outer
 frf:∀ b ∈ frs outer,H b = none
 hok:HOk P w H s.heap
 bare:AllBare s.gens
def CE (outer:List Env) (P:Program) (w:World) (H:Hp) (s:Shared) (Q:VK) (u:Value) (s':Shared):Prop:=
 ∃ v H',s'.os = s.os/\AllBare s'.gens/\Un (frs outer) [] H H' s.heap s'.heap/\HOk P w H' s'.heap/\zR v u/\Q v H'
def CR (CX:CXT) (outer:List Env) (P:Program) (w:World) (H:Hp) (s:Shared) (Q:VK) (E:XK) (r:Result) (s':Shared):Prop:=
 match r with
 | .ok (.ret u)=>CE outer P w H s Q u s'
 | .ok _=>False
 | .error e=>CX outer H s E e s'
structure zA (P:Program) (w:World) (K:Frag) (mg:Str->Option Value) (base:Heap) (CX:CXT) (k:Nat) (f:Addr) (fd:FuncData) (ps:List Str) (sp:Sp):Prop where
 len:∀ vs H Q E,sp vs H Q E->vs.length = ps.length
 run:∀ (A:Around) (outer:List Env) (s:Shared) (H:Hp) (args:Args) (us:List Value) (vs:List V) (Q:VK) (E:XK),yq k A->zb6 P w K mg base A outer s H->BindsTo s fd args (ps.zip us)->zS vs us->sp vs H Q E->
  codeAny (model P w) A (.call (.ref f) args) (CR CX outer P w H s Q E) s
theorem zb6.make {P:Program} {w:World} {K:Frag} {mg:Str->Option Value} {base:Heap} {A:Around} {outer:List Env} {s:Shared} {H:Hp} (e:zb6 P w K mg base A outer s H) (C:Addr) (us:List Value) (kw:List (Str × Value)) :
  zb6 P w K mg base (A.under (.builtin "type.__call__" ⟨.ref C :: us,kw⟩)) outer s H:=⟨by first | exact e.frames | (simpa [Around.under,Code.envs,Code.isFrame,pushEnvs] using e.frames),e.mod,e.bs,e.bsz,e.funs,e.frf,e.hok,e.bare⟩
section
variable {X:Cx} {pins:List (Addr × Obj)} {σ : St} {H:Hp} {s s':Shared}
theorem Inv.env0 (I:Inv X pins σ H s):zb6 X.prog X.w X.K X.mg X.base X.A X.stack s H:=
 ⟨I.ok.frames,I.ok.mod,I.bs,Nat.le_trans I.ok.bsz I.sz,I.stack,I.stkFree,I.hok,I.bare⟩
theorem Inv.after {Q:VK} {u:Value} (I:Inv X pins σ H s) (h:CE X.stack X.prog X.w H s Q u s'):EP X pins σ Q u s':=by
 obtain ⟨v,H',os,bare,un,hok,r,q⟩:=h
 obtain ⟨hh,g,d,t,os'⟩:=s'
 obtain rfl:os' = s.os:=os
 exact ⟨v,H',I.call (h':=hh) (g':=g) (d':=d) (t':=t) (ch:=[]) un hok bare (fun b z=>absurd z (by simp)),r,q⟩
end
def zdU (sp:Sp) (dvs:List V) (E:XK) (t:TA):TE:=fun σ H Q=>t σ H fun vs H1=>sp (vs ++ dvs) H1 Q E
def zgT (C:Addr) (m:Str) (sp:Sp) (dvs:List V) (E:XK) (ta:TE) (t:TA):TE:=fun σ H Q=>ta σ H fun x H1=>∃ a dx fs,x = .ref a/\H1 a = some (.ins C dx fs)/\fs.lookup m = none/\
 t σ H1 fun vs H2=>sp (x :: (vs ++ dvs)) H2 Q E
def zgU (C:Addr) (sp:Sp) (dvs:List V) (E:XK) (t:TA):TE:=fun σ H Q=>t σ H fun vs H1=>∀ x dx,H1 x = none->H1 dx = none->dx ≠ x->
 sp (.ref x :: (vs ++ dvs)) (upd (upd H1 dx (.own x)) x (.ins C dx [])) (fun v H2=>v = .non/\Q (.ref x) H2) E
def zV (K:Frag) (fd:FuncData) (ps:List Str) (ds:List Value):Prop:=
 ∀ (s:Shared) (us:List Value),K.In s.heap->(us ++ ds).length = ps.length->BindsTo s fd ⟨us,[]⟩ (ps.zip (us ++ ds))
theorem zV.all {K:Frag} {fd:FuncData} {ps:List Str} (h:∀ us:List Value,us.length = ps.length->bindArgs fd ⟨us,[]⟩ = pure (ps.zip us)):zV K fd ps []:=fun s us _ hl=>by
 rw [List.append_nil] at hl |-
 exact .of_eq (h us hl)
def wb (CX:CXT) (X:Cx) (E:XK):Prop:=∀ (pins:List (Addr × Obj)) (σ : St) (H:Hp) (s:Shared) (e:Value) (s':Shared),Inv X pins σ H s->CX X.stack H s E e s'->X.xe e s'
section
variable {X:Cx} {CX:CXT} {k:Nat} {f C:Addr} {fd:FuncData} {ps:List Str} {sp:Sp} {dvs:List V} {ds:List Value} {E:XK} {x m:Str} {p pos apos:Pos} {e o:Expr} {es:List Expr} {ta:TE} {t:TA}
theorem uW {pins:List (Addr × Obj)} {σ : St} {H:Hp} {s:Shared} {Q:VK} {us:List Value} {vs:List V} (F:zA X.prog X.w X.K X.mg X.base CX k f fd ps sp) (hr:yq k X.A) (hb:zV X.K fd ps ds) (hd:zS dvs ds) (hx:wb CX X E)
  (I:Inv X pins σ H s) (r:zS vs us) (h:sp (vs ++ dvs) H Q E):wpAny (model X.prog X.w) X.A (call (.ref f) us) (EP X pins σ Q) X.xe s:=by
 have r2:zS (vs ++ dvs) (us ++ ds):=r.append hd
 have hl:(us ++ ds).length = ps.length:=by rw [<- r2.length]; exact F.len _ _ _ _ h
 refine wpAny_call (codeAny_mono (F.run X.A X.stack s H ⟨us,[]⟩ (us ++ ds) (vs ++ dvs) Q E hr I.env0 (hb s us I.kIn hl) r2 h) fun r s' hq=>?_)
 cases r with
 | error e=>exact hx pins σ H s e s' I hq
 | ok fl=>
  cases fl with
  | ret u=>exact I.after hq
  | next=>exact False.elim hq
  | brk=>exact False.elim hq
  | cont=>exact False.elim hq
theorem zf1 (F:zA X.prog X.w X.K X.mg X.base CX k f fd ps sp) (hr:yq k X.A) (hg:Gl X x) (hm:X.mg x = some (.ref f)) (hk:keepIn X.K (.ref f) = true) (hb:zV X.K fd ps ds) (hd:zS dvs ds) (hx:wb CX X E)
  (ha:PA X (e :: es) t) (hdb:(x == ("__debug__" : Str)) = false:=by decide) (he:starEach (e :: es) X.env = (false,eval e X.env) :: starEach es X.env:=by rfl) (hpl:(backTo pos (starEach es X.env)).any (·.1) = false:=by rfl) :
  PE X (.Call (.Name x p) (e :: es) [] pos) (zdU sp dvs E t):=by
 refine ⟨?_⟩
 intro pins s σ H Q I h
 refine wpAny_Call_Name_kw (vG I hg hm ?_ hdb)
 refine callWith_K (h₀:=X.base) I.ok.mod.kin hk (thn (ha pos pins s σ H _ I h) fun us s1 ⟨vs,H1,I1,r,q⟩=>⟨I1.kIn,?_⟩) he hpl
 exact uW F hr hb hd hx I1 r q
theorem zcy {pl:Sem Bool} (he:PE X o ta) (c:Cls X.K C) (hm:y1 X.K C m f) (F:zA X.prog X.w X.K X.mg X.base CX k f fd ps sp) (hr:yq k X.A) (hb:zV X.K fd ps ds) (hd:zS dvs ds) (hx:wb CX X E) (ha:PA X (e :: es) t)
  (hst:starEach (e :: es) X.env = (false,eval e X.env) :: starEach es X.env:=by rfl) (hpl:(backTo pos (starEach es X.env)).any (·.1) = false:=by rfl)
  (ht:eval (.Call (.Attribute o m apos) (e :: es) [] pos) X.env = (do
   let ov <- eval o X.env
   standAt apos.atName
   let (f,first) <- holding [ov] (getMethod ov m pl)
   callWith pos f first (backTo pos (starEach (e :: es) X.env)) (backToKw pos (keywordEach [] X.env))):=by rfl) :
  PE X (.Call (.Attribute o m apos) (e :: es) [] pos) (zgT C m sp dvs E ta t):=by
 refine ⟨?_⟩
 intro pins s σ H Q I h
 refine methodCall_KW (pl:=pl) (thn (he pins s σ H _ I h) fun u s1 ⟨x,H1,I1,rx,a,dx,fs,ex,ea,l,q⟩=>?_) ht
 subst ex
 obtain rfl:u = Value.ref a:=rx
 refine wA I1 ea c hm l ?_
 refine callWith_K (first:=[.ref a]) (h₀:=X.base) I.ok.mod.kin hm.kp (thn (ha pos pins s1 σ H1 _ I1 q) fun us s2 ⟨vs,H2,I2,r,q2⟩=>⟨I2.kIn,?_⟩) hst hpl
 exact uW (us:=.ref a :: us) (vs:=.ref a :: vs) F hr hb hd hx I2 (.cons rfl r) q2
theorem yC {pl:Sem Bool} (he:PE X o ta) (c:Cls X.K C) (hm:y1 X.K C m f) (F:zA X.prog X.w X.K X.mg X.base CX k f fd ps sp) (hr:yq k X.A) (hb:zV X.K fd ps ds) (hd:zS dvs ds) (hx:wb CX X E)
  (ht:eval (.Call (.Attribute o m apos) [] [] pos) X.env = (do
   let ov <- eval o X.env
   standAt apos.atName
   let (f,first) <- holding [ov] (getMethod ov m pl)
   callWith pos f first (backTo pos (starEach [] X.env)) (backToKw pos (keywordEach [] X.env))):=by rfl) :
  PE X (.Call (.Attribute o m apos) [] [] pos) (zgT C m sp dvs E ta zhj):=by
 refine ⟨?_⟩
 intro pins s σ H Q I h
 refine methodCall_KW (pl:=pl) (thn (he pins s σ H _ I h) fun u s1 ⟨x,H1,I1,rx,a,dx,fs,ex,ea,l,q⟩=>?_) ht
 subst ex
 obtain rfl:u = Value.ref a:=rx
 refine wA I1 ea c hm l ?_
 exact PySem.W.callWith_K0 (first:=[.ref a]) I1.kIn hm.kp (uW (us:=[.ref a]) (vs:=[.ref a]) F hr hb hd hx I1 (.cons rfl .nil) q)
structure Mk (K:Frag) (C f:Addr):Prop where
 makes:makesIn K C = true
 init:findIn K (.ref C) "__init__" = some (some (.ref f))
 fn:isFn K (.ref f) = true
 kp:keepIn K (.ref C) = true
theorem zes {pins:List (Addr × Obj)} {σ : St} {H:Hp} {s:Shared} {Q:VK} {us:List Value} {vs:List V} (M:Mk X.K C f) (F:zA X.prog X.w X.K X.mg X.base CX k f fd ps sp) (hr:yq (k + 1) X.A) (hb:zV X.K fd ps ds) (hd:zS dvs ds)
  (hx:wb CX X E) (I:Inv X pins σ H s) (r:zS vs us)
  (h:∀ x dx,H x = none->H dx = none->dx ≠ x->sp (.ref x :: (vs ++ dvs)) (upd (upd H dx (.own x)) x (.ins C dx [])) (fun v H2=>v = .non/\Q (.ref x) H2) E) :
  wpAny (model X.prog X.w) X.A (call (.ref C) us) (EP X pins σ Q) X.xe s:=by
 have hq:=h (s.heap.objs.size + 1) s.heap.objs.size (I.hok.fresh (Nat.le_succ _)) (I.hok.fresh (Nat.le_refl _)) (Nat.ne_of_lt (Nat.lt_succ_self _))
 have I2:=Inv.made (C:=C) I
 have r2:zS (V.ref (s.heap.objs.size + 1) :: (vs ++ dvs)) (Value.ref (s.heap.objs.size + 1) :: (us ++ ds)):=.cons rfl (r.append hd)
 have hl:(Value.ref (s.heap.objs.size + 1) :: us ++ ds).length = ps.length:=by
  have e:=r2.length
  rw [F.len _ _ _ _ hq] at e
  exact e.symm
 refine wpAny_call (ze5 (f:=f) I.kIn M.makes M.init (beq_iff_eq.mp M.fn) (codeAny_mono (F.run _ X.stack _ _ ⟨Value.ref (s.heap.objs.size + 1) :: us,[]⟩ (Value.ref (s.heap.objs.size + 1) :: (us ++ ds)) _ _ E (hr.make C us [])
  (I2.env0.make C us []) (hb _ (Value.ref (s.heap.objs.size + 1) :: us) I2.kIn hl) r2 hq) fun r s' hq'=>?_))
 cases r with
 | error e=>exact hx pins σ _ _ e s' I2 hq'
 | ok fl=>
  cases fl with
  | ret u=>
   obtain ⟨v,H',I3,rv,ev,q3⟩:=I2.after hq'
   subst ev
   exact ⟨rv,⟨V.ref (s.heap.objs.size + 1),H',I3,rfl,q3⟩⟩
  | next=>exact False.elim hq'
  | brk=>exact False.elim hq'
  | cont=>exact False.elim hq'
theorem zcz (M:Mk X.K C f) (F:zA X.prog X.w X.K X.mg X.base CX k f fd ps sp) (hr:yq (k + 1) X.A) (hg:Gl X x) (hm:X.mg x = some (.ref C)) (hb:zV X.K fd ps ds) (hd:zS dvs ds) (hx:wb CX X E)
  (ha:PA X (e :: es) t) (hdb:(x == ("__debug__" : Str)) = false:=by decide) (he:starEach (e :: es) X.env = (false,eval e X.env) :: starEach es X.env:=by rfl) (hpl:(backTo pos (starEach es X.env)).any (·.1) = false:=by rfl) :
  PE X (.Call (.Name x p) (e :: es) [] pos) (zgU C sp dvs E t):=by
 refine ⟨?_⟩
 intro pins s σ H Q I h
 refine wpAny_Call_Name_kw (vG I hg hm ?_ hdb)
 refine callWith_K (h₀:=X.base) I.ok.mod.kin M.kp (thn (ha pos pins s σ H _ I h) fun us s1 ⟨vs,H1,I1,r,q⟩=>⟨I1.kIn,?_⟩) he hpl
 exact zes M F hr hb hd hx I1 r q
end
section
variable {X:Cx} {CX:CXT} {k:Nat} {f C:Addr} {fd:FuncData} {ps ks:List Str} {sp:Sp} {E:XK} {x m:Str} {p pos apos kpos:Pos} {e o:Expr} {es:List Expr} {kws:List Keyword} {te ta:TE} {t tk:TA} {nm:Option Str}
variable {g:List Value->List Value->List Value} {gV:List V->List V->List V}
end
structure zt (N P:List Str) (sc:Scope):Prop where
 kind:sc.kind = .function
 co:sc.isCoroutine = false
 gen:sc.isGenerator = false
 nd:N.Nodup
 pre:N.take P.length = P
 par:∀ x ∈ P,sc.names.lookup x = some .local\/sc.names.lookup x = some .cell
 nofree:∀ y ∈ sc.names,y.2 ≠ .free
theorem j8 {kindOf:Str->Option NameKind} {x:Str}:∀ {binds:List (Str × Value)} {m:Str->Option Value},(∀ v,(x,v) ∉ binds)->bindL kindOf binds m x = m x
 | [],_,_=>rfl
 | (n,v) :: r,m,h=>by
  unfold bindL
  rw [j8 fun w hw=>h w (List.mem_cons_of_mem _ hw)]
  split
  ·have:x ≠ n:=by rintro rfl; exact h v List.mem_cons_self
   simp [this]
  ·rfl
theorem qa {kindOf:Str->Option NameKind} {x:Str}:∀ {binds:List (Str × Value)} {m:Str->Option Value},(∀ v,(x,v) ∉ binds)->bindC kindOf binds m x = m x
 | [],_,_=>rfl
 | (n,v) :: r,m,h=>by
  unfold bindC
  rw [qa fun w hw=>h w (List.mem_cons_of_mem _ hw)]
  split
  ·rfl
  ·have:x ≠ n:=by rintro rfl; exact h v List.mem_cons_self
   simp [this]
theorem j9 {kindOf:Str->Option NameKind} {x:Str} {v:Value}:∀ {P:List Str} {vs:List Value} {i:Nat} {m:Str->Option Value},P.Nodup->P[i]? = some x->vs[i]? = some v->kindOf x = some .local->
  bindL kindOf (P.zip vs) m x = some v
 | [],_,_,_,_,h,_,_=>by simp at h
 | _ :: _,[],_,_,_,_,h,_=>by simp at h
 | p :: P,w :: vs,0,m,nd,h1,h2,hk=>by
  simp at h1 h2; subst h1; subst h2
  show bindL kindOf ((p,w) :: P.zip vs) m p = _
  unfold bindL
  rw [j8 fun v hv=>(List.nodup_cons.mp nd).1 (List.of_mem_zip hv).1,if_pos hk]
  simp
 | p :: P,w :: vs,i + 1,m,nd,h1,h2,hk=>by
  show bindL kindOf ((p,w) :: P.zip vs) m x = _
  unfold bindL
  exact j9 (i:=i) (List.nodup_cons.mp nd).2 (by simpa using h1) (by simpa using h2) hk
theorem qc {kindOf:Str->Option NameKind} {x:Str} {v:Value}:∀ {P:List Str} {vs:List Value} {i:Nat} {m:Str->Option Value},P.Nodup->P[i]? = some x->vs[i]? = some v->kindOf x ≠ some .local->
  bindC kindOf (P.zip vs) m x = some v
 | [],_,_,_,_,h,_,_=>by simp at h
 | _ :: _,[],_,_,_,_,h,_=>by simp at h
 | p :: P,w :: vs,0,m,nd,h1,h2,hk=>by
  simp at h1 h2; subst h1; subst h2
  show bindC kindOf ((p,w) :: P.zip vs) m p = _
  unfold bindC
  rw [qa fun v hv=>(List.nodup_cons.mp nd).1 (List.of_mem_zip hv).1,if_neg hk]
  simp
 | p :: P,w :: vs,i + 1,m,nd,h1,h2,hk=>by
  show bindC kindOf ((p,w) :: P.zip vs) m x = _
  unfold bindC
  exact qc (i:=i) (List.nodup_cons.mp nd).2 (by simpa using h1) (by simpa using h2) hk
def vq (N:List Str) (vs:List V):St:=vs.map some ++ List.replicate (N.length - vs.length) none
def zbY (CX:CXT) (P:Program) (w:World) (K:Frag) (mg:Str->Option Value) (base:Heap) (N:List Str) (qual:Str) (scope:Scope) (f:Addr) (cd:Value) (A:Around) (outer:List Env) (s:Shared) (H:Hp) (E:XK):Cx where
 prog:=P
 w:=w
 K:=K
 mg:=mg
 base:=base
 A:=A.deeper (envOfC qual scope s.heap.objs.size f cd)
 N:=N
 s₀:=s
 H₀:=H
 env:=envOfC qual scope s.heap.objs.size f cd
 outer:=outer
 stack:=envOfC qual scope s.heap.objs.size f cd :: outer
 ex:=[]
 calm:=true
 fn:=fun _=>true
 pn:=[]
 xe:=fun e s'=>wpAny (model P w) (A.deeper (envOfC qual scope s.heap.objs.size f cd)) (leaving (envOfC qual scope s.heap.objs.size f cd) e) (fun _ s''=>CX outer H s E e s'') (fun e' s''=>CX outer H s E e' s'') s'
theorem za2 {sc:Scope} {n:Nat} {x:Str} (h:sc.names.lookup x = some .cell):∃ c,(cellsFrom n sc.names []).lookup x = some c:=by
 have q:=PySem.W.cellsFrom_some sc.names n [] (.inl h)
 exact Option.isSome_iff_exists.mp q
theorem zdp {CX:CXT} {P:Program} {w:World} {K:Frag} {mg:Str->Option Value} {base:Heap} {N ps:List Str} {qual:Str} {scope:Scope} {f:Addr} {cd:Value} {A:Around} {outer:List Env} {s s1:Shared} {H:Hp} {E:XK} {us:List Value} {vs:List V}
  (S:zt N ps scope) (hd:A.handled = none) (e0:zb6 P w K mg base A outer s H) (hl:vs.length = ps.length) (r:zS vs us)
  (x:InCallC s s.heap.objs.size (bindL (envOfC qual scope s.heap.objs.size f cd).kindOf (ps.zip us) fun _=>none) (cellsFrom (s.heap.objs.size + 1) scope.names []) (bindC (envOfC qual scope s.heap.objs.size f cd).kindOf (ps.zip us) fun _=>none) s1) :
  Inv (zbY CX P w K mg base N qual scope f cd A outer s H E) [] (vq N vs) H s1:=by
 have hpl:ps.length<=N.length:=by have:=congrArg List.length S.pre; rw [List.length_take] at this; omega
 obtain ⟨h1,tk,rfl,hk⟩:=x.done
 have noA:∀ b:Addr,b ∉ (zbY CX P w K mg base N qual scope f cd A outer s H E).ex:=fun b z=>absurd (show b ∈ ([]:List Addr) from z) (by simp)
 refine ⟨⟨e0.mod,S.kind,rfl,rfl,Nat.le_refl _,fun y z c h1 h2=>?_,fun y hy=>?_,fun y c _ h=>?_,fun _=>hd,Around.frames_deeper e0.frames,.inr ⟨rfl,rfl⟩,fun b z=>absurd z (noA b),e0.bs,e0.bsz,fun b _ _=>noA b,fun b z=>absurd z (noA b),e0.funs,e0.frf⟩,
  rfl,e0.bare,Un.kept hk,⟨_,x.toInCall.ns,fun i y v h1 h2 h3=>?_⟩,fun y c h=>⟨_,x.cell y c h⟩,e0.hok.fresh (Nat.le_refl _),fun y c h=>?_,fun p hp=>absurd (show p ∈ ([]:List (Addr × Obj)) from hp) (by simp),e0.hok.kept hk,?_⟩
 ·exact name_of_addr x.apart (PySem.mem_of_lookup h1) (PySem.mem_of_lookup h2)
 ·have hy:scope.names.lookup y = some .cell\/scope.names.lookup y = some .free:=hy
  rcases hy with hy | hy
  ·exact za2 hy
  ·exact absurd rfl (S.nofree _ (PySem.mem_of_lookup hy))
 ·exact Nat.le_of_lt (x.above y c (PySem.mem_of_lookup h))
 ·have hi:i < vs.length:=by
   unfold vq at h2
   by_cases hi:i < vs.length
   ·exact hi
   ·rw [List.getElem?_append_right (by simpa using hi)] at h2
    rw [List.getElem?_replicate] at h2
    split at h2 <;> cases h2
  have ha:vs[i]? = some v:=by
   unfold vq at h2
   rw [List.getElem?_append_left (by simpa using hi),List.getElem?_map] at h2
   cases e:vs[i]? with
   | none=>rw [e] at h2; cases h2
   | some a=>rw [e] at h2; cases h2; rfl
  obtain ⟨u,hu,rv⟩:=r.get ha
  have hp:ps[i]? = some y:=by
   rw [<- S.pre,List.getElem?_take_of_lt (by omega)]; exact h1
  have ndP:ps.Nodup:=by rw [<- S.pre]; exact S.nd.sublist (List.take_sublist _ _)
  refine ⟨u,rv,?_⟩
  rcases S.par y (List.mem_of_getElem? hp) with k | k
  ·exact .inl ⟨k,j9 ndP hp hu k⟩
  ·obtain ⟨c,e⟩:=za2 (n:=s.heap.objs.size + 1) k
   refine .inr ⟨.inl k,c,e,?_⟩
   have q:=x.cell y c e
   rw [qc ndP hp hu (by show scope.names.lookup y ≠ _; rw [k]; decide)] at q
   exact q
 ·exact e0.hok.fresh (Nat.le_of_lt (x.above y c (PySem.mem_of_lookup h)))
 ·unfold vq
  show _ = N.length
  rw [List.length_append,List.length_map,List.length_replicate]
  omega
theorem zha {CX:CXT} {P:Program} {w:World} {K:Frag} {mg:Str->Option Value} {base:Heap} {k:Nat} {f:Addr} {name qual:Str} {params:Arguments} {body:List Stmt} {scope:Scope} {dV kV doc pm cdv ct oc:Value} {an od:Option Addr}
  {osl:Array (Option Value)} {N ps:List Str} {sp:Sp} (lk:K.lookup f = some ⟨oc,od,.func (fnOf name qual params body scope dV kV doc pm an cdv ct),osl⟩) (hcd:codeIn K cdv qual = true) (S:zt N ps scope)
  (len:∀ vs H Q E,sp vs H Q E->vs.length = ps.length)
  (hbody:∀ (A:Around) (outer:List Env) (s:Shared) (H:Hp) (vs:List V) (Q:VK) (E:XK),yq k (A.deeper (envOfC qual scope s.heap.objs.size f cdv))->sp vs H Q E->
   ∃ t,PSs (zbY CX P w K mg base N qual scope f cdv A outer s H E) body t/\t { nx:=fun _ H'=>Q .non H',rt:=Q } (vq N vs) H) :
  zA P w K mg base CX (k + 1) f (fnOf name qual params body scope dV kV doc pm an cdv ct) ps sp:=by
 refine ⟨len,fun A outer s H args us vs Q E hr e0 hb r hsp=>?_⟩
 have hl:=len _ _ _ _ hsp
 have KX:K.In s.heap:=e0.mod.kin.keeps fun b o e=>(e0.bs b o e).1
 have lim:s.heap.NoLimit:=e0.mod.nolimit.keeps fun b o e=>(e0.bs b o e).1
 have hkind:∀ y ∈ ps.zip us,scope.names.lookup y.1 = some .local\/(scope.names.lookup y.1 = some .cell/\((cellsFrom (s.heap.objs.size + 1) scope.names []).lookup y.1).isSome = true):=fun ⟨n,v⟩ hy=>by
  rcases S.par n (List.of_mem_zip hy).1 with q | q
  ·exact .inl q
  ·exact .inr ⟨q,PySem.W.cellsFrom_some _ _ _ (.inl q)⟩
 refine codeAny_call_function hr.depth (KX _ _ lk) rfl S.co S.gen rfl (PySem.W.codeRec_of KX hcd) (hb _ _ _ _ ?_)
 refine wpAny_newFunctionEnv_cells S.kind hkind fun env he s1 x=>?_
 subst he
 refine ⟨lim.keeps x.toInCall.keep,codeAny_func ?_⟩
 obtain ⟨t,ht,hq⟩:=hbody A outer s H vs Q E (hr.deeper _) hsp
 have I:Inv (zbY CX P w K mg base N qual scope f cdv A outer s H E) [] (vq N vs) H s1:=zdp S hr.hd e0 hl r x
 refine wpAny_mono (ht [] s1 (vq N vs) H _ I hq) (fun fl s' hs=>?_) fun e s' hs=>hs
 have fin:∀ {σ':St} {H':Hp} {v:V} {u:Value},Inv (zbY CX P w K mg base N qual scope f cdv A outer s H E) [] σ' H' s'->zR v u->Q v H'->CE outer P w H s Q u s':=
  fun {σ' H' v u} J rv q=>⟨v,H',J.os,J.bare,J.base,J.hok,rv,q⟩
 cases fl with
 | ret u=>
  obtain ⟨v,σ',H',J,rv,q⟩:=hs
  exact fin J rv q
 | next=>
  obtain ⟨σ',H',J,q⟩:=hs
  exact fin (v:=V.non) (u:=Value.none) J rfl q
 | brk=>
  obtain ⟨_,_,_,q⟩:=hs
  exact False.elim q
 | cont=>
  obtain ⟨_,_,_,q⟩:=hs
  exact False.elim q
section
variable {X:Cx} {x:Str} {p pos:Pos} {e:Expr} {es:List Expr} {t:TA} {id T:String} {r:List V->Hp->VK->Prop}
def tCB (r:List V->Hp->VK->Prop) (t:TA):TE:=fun σ H Q=>t σ H fun vs H1=>r vs H1 Q
theorem zex (hc:yN X (.builtin id) r) (hg:Gl X x) (hm:X.mg x = none) (hv:bootBuiltins x = some (.builtin id)) (ha:PA X (e :: es) t) (hn:x ≠ "__name__":=by decide) (hdb:(x == ("__debug__" : Str)) = false:=by decide)
  (he:starEach (e :: es) X.env = (false,eval e X.env) :: starEach es X.env:=by rfl) (hpl:(backTo pos (starEach es X.env)).any (·.1) = false:=by rfl):PE X (.Call (.Name x p) (e :: es) [] pos) (tCB r t):=by
 refine ⟨?_⟩
 intro pins s σ H Q I h
 refine wpAny_Call_Name_kw (xN I hg hm hv ?_ hn hdb)
 exact PyProof.Rows.callWith_builtin1 (thn (ha pos pins s σ H _ I h) fun us s1 ⟨vs,H1,I1,r1,q1⟩=>hc pins s1 σ H1 vs us Q I1 r1 q1) he hpl
theorem zdc (hc:yN X (.type T) r) (hg:Gl X x) (hm:X.mg x = none) (hv:bootBuiltins x = some (.type T)) (ha:PA X (e :: es) t) (hn:x ≠ "__name__":=by decide) (hdb:(x == ("__debug__" : Str)) = false:=by decide)
  (he:starEach (e :: es) X.env = (false,eval e X.env) :: starEach es X.env:=by rfl) (hpl:(backTo pos (starEach es X.env)).any (·.1) = false:=by rfl):PE X (.Call (.Name x p) (e :: es) [] pos) (tCB r t):=by
 refine ⟨?_⟩
 intro pins s σ H Q I h
 refine wpAny_Call_Name_kw (xN I hg hm hv ?_ hn hdb)
 exact PyProof.Rows.callWith_type1 (thn (ha pos pins s σ H _ I h) fun us s1 ⟨vs,H1,I1,r1,q1⟩=>hc pins s1 σ H1 vs us Q I1 r1 q1) he hpl
theorem zbE (hc:yN X (.type T) r) (hg:Gl X x) (hm:X.mg x = none) (hv:bootBuiltins x = some (.type T)) (hn:x ≠ "__name__":=by decide) (hdb:(x == ("__debug__" : Str)) = false:=by decide) :
  PE X (.Call (.Name x p) [] [] pos) (tCB r zhj):=by
 refine ⟨?_⟩
 intro pins s σ H Q I h
 refine wpAny_Call_Name_kw (xN I hg hm hv ?_ hn hdb)
 exact PyProof.Rows.callWith_type0 (hc pins s σ H [] [] Q I .nil h)
end
end L2
namespace HT
open PySem PyProof.Rows
section
open PySem.SeqAt
open PySem.AutoSeq1 (wpAny_loadPart')
open PySem.MeetsSeq PySem.MeetsSeq2 PySem.MeetsSeq3
end
section
variable {prog:Program} {w:World} {A:Around} {E:Value->Shared->Prop} {s:Shared}
def sIx (n d:Nat):Option Int->Nat
 | none=>d
 | some v=>if v < 0 then (v + (n:Int)).toNat else min v.toNat n
theorem ziP (n d:Nat):sIx n d none = d:=rfl
theorem zje (n d k:Nat):sIx n d (some (k:Int)) = min k n:=by
 show (if (k:Int) < 0 then ((k:Int) + (n:Int)).toNat else min (k:Int).toNat n) = min k n
 rw [if_neg (by omega),Int.toNat_natCast]
end
end HT
namespace L2
open PySem PySem.Spec PyProof.Rows
abbrev TO:=St->Hp->(Option Int->Hp->Prop)->Prop
structure PO (X:Cx) (e:Option Expr) (t:TO):Prop where
 run:∀ (pins:List (Addr × Obj)) (s:Shared) (σ : St) (H:Hp) (Q:Option Int->Hp->Prop),Inv X pins σ H s->t σ H Q->
  wpAny (model X.prog X.w) X.A (evalPart e X.env) (fun u s'=>∃ o H',Inv X pins σ H' s'/\IsPart u o/\Q o H') X.xe s
instance {X:Cx} {e:Option Expr} {t:TO}:CoeFun (PO X e t) (fun _=>∀ (pins:List (Addr × Obj)) (s:Shared) (σ : St) (H:Hp) (Q:Option Int->Hp->Prop),Inv X pins σ H s->t σ H Q->
  wpAny (model X.prog X.w) X.A (evalPart e X.env) (fun u s'=>∃ o H',Inv X pins σ H' s'/\IsPart u o/\Q o H') X.xe s):=⟨PO.run⟩
def zfB:TO:=fun _ H Q=>Q none H
def ziy (t:TE):TO:=fun σ H Q=>t σ H fun x H1=>∃ i,x = .int i/\Q (some i) H1
section
variable {X:Cx} {e:Expr} {te:TE} {lo hi:Option Expr} {tl th:TO} {pos p2:Pos}
theorem qF:PO X none zfB:=by
 refine ⟨?_⟩
 intro pins s σ H Q I h
 rw [evalPart_none]
 exact wpAny_pure ⟨none,H,I,.none,h⟩
theorem yW (h:PE X e te):PO X (some e) (ziy te):=by
 refine ⟨?_⟩
 intro pins s σ H Q I hw
 rw [evalPart_some]
 refine thn (h pins s σ H _ I hw) fun u s1 ⟨x,H1,I1,r1,q1⟩=>?_
 obtain ⟨i,rfl,q⟩:=q1
 obtain ⟨t,rfl⟩:=r1
 exact ⟨some i,H1,I1,.int i t,q⟩
def SlR (X:Cx) (r:V->Option Int->Option Int->Hp->VK->Prop):Prop:=
 ∀ (pins:List (Addr × Obj)) (s:Shared) (σ : St) (H:Hp) (x:V) (v vl vu:Value) (lo hi:Option Int) (sl:Addr) (Q:VK),Inv X pins σ H s->zR x v->s.heap.IsSliceOf sl vl vu .none->IsPart vl lo->IsPart vu hi->r x lo hi H Q->
  ∃ T id,typeLookup (.type T) "__getitem__" = pure (some (.builtin id))/\s.TypeIs v T/\wpAny (model X.prog X.w) X.A (getItem v (.ref sl)) (EP X pins σ Q) X.xe s
def tSl (r:V->Option Int->Option Int->Hp->VK->Prop) (te:TE) (tl th:TO):TE:=fun σ H Q=>te σ H fun x H1=>tl σ H1 fun l H2=>th σ H2 fun u H3=>r x l u H3 Q
theorem xv {r:V->Option Int->Option Int->Hp->VK->Prop} (hr:SlR X r) (he:PE X e te) (hl:PO X lo tl) (hu:PO X hi th):PE X (.Subscript e (.Slice lo hi none p2) pos) (tSl r te tl th):=by
 refine ⟨?_⟩
 intro pins s σ H Q I h
 refine Subscript_ (thn (he pins s σ H _ I h) fun v s1 ⟨x,H1,I1,r1,q1⟩=>?_)
 refine wpAny_Slice (thn (hl pins s1 σ H1 _ I1 q1) fun vl s2 ⟨l,H2,I2,pl,q2⟩=>thn (hu pins s2 σ H2 _ I2 q2) fun vu s3 ⟨u,H3,I3,pu,q3⟩=>?_)
 rw [evalPart_none]
 refine wpAny_pure ?_
 have I4:Inv X pins σ H3 { s3 with heap:=s3.heap.push { cls:=.type "slice",data:=.fields #[vl,vu,.none] } }:=I3.kept (t':=s3.toks) fun b ob q=>Heap.get?_push_of_some _ q
 obtain ⟨T,id,hT,ht,hg⟩:=hr pins { s3 with heap:=s3.heap.push { cls:=.type "slice",data:=.fields #[vl,vu,.none] } } σ H3 x v vl vu l u s3.heap.objs.size Q I4 r1 (Heap.IsSliceOf.new ..) pl pu q3
 show wpAny (model X.prog X.w) X.A (subscriptTail e (.Slice lo hi none p2) v (.ref s3.heap.objs.size)) (EP X pins σ Q) X.xe { s3 with heap:=s3.heap.push { cls:=.type "slice",data:=.fields #[vl,vu,.none] } }
 exact tail_any (ops:=[.ref s3.heap.objs.size,v]) ht hT hg (by with_unfolding_all rfl)
def wB (xs:List V) (lo hi:Option Int):List V:=(xs.drop (HT.sIx xs.length 0 lo)).take (HT.sIx xs.length xs.length hi - HT.sIx xs.length 0 lo)
theorem zaY (xs:List V) (lo hi:Option Int):(wB xs lo hi).length<=xs.length:=by
 unfold wB
 rw [List.length_take,List.length_drop]
 omega
end
def ixN (n:Nat) (i:Int):Option Nat:=if 0<=i then (if i < n then some i.toNat else none) else if -(n:Int)<=i then some (i + n).toNat else none
def atI {α : Type} (xs:List α) (i:Int):Option α:=(ixN xs.length i).bind fun j=>xs[j]?
theorem zgy {n:Nat} {i:Int} {j:Nat} (h:ixN n i = some j):seqIndex? i n = some j/\j < n/\-(n:Int)<=i/\i < n:=by
 unfold ixN at h
 by_cases h0 : 0<=i
 ·rw [if_pos h0] at h
  by_cases h1:i < n
  ·rw [if_pos h1] at h
   have e:i.toNat = j:=Option.some.inj h
   exact ⟨by rw [seqIndex_of h0 h1,e],by omega,by omega,h1⟩
  ·rw [if_neg h1] at h; cases h
 ·rw [if_neg h0] at h
  by_cases h1 : -(n:Int)<=i
  ·rw [if_pos h1] at h
   have e:(i + n).toNat = j:=Option.some.inj h
   exact ⟨by rw [seqIndex_neg (by omega) h1,e],by omega,h1,by omega⟩
  ·rw [if_neg h1] at h; cases h
theorem q0 {α : Type} {xs:List α} {i:Int} {v : α} (h:atI xs i = some v):∃ j,seqIndex? i xs.length = some j/\xs[j]? = some v/\j < xs.length/\-(xs.length:Int)<=i/\i < xs.length:=by
 unfold atI at h
 cases e:ixN xs.length i with
 | none=>rw [e] at h; cases h
 | some j=>
  rw [e] at h
  obtain ⟨h1,h2,h3,h4⟩:=zgy e
  exact ⟨j,h1,h,h2,h3,h4⟩
theorem y8 {α : Type} {xs:List α} {j:Nat} {v : α} (h:xs[j]? = some v):atI xs (j:Int) = some v:=by
 have hj:j < xs.length:=(List.getElem?_eq_some_iff.mp h).1
 have e:ixN xs.length (j:Int) = some j:=by
  unfold ixN
  rw [if_pos (by omega),if_pos (by omega)]; simp
 unfold atI; rw [e]; exact h
def zgQ (b:Expr):Prop:=∀ o i,subscripted b false o i = operate [o,i] (getItem o i)
def IxR (X:Cx) (r:R2):Prop:=
 ∀ (value slice:Expr) (pins:List (Addr × Obj)) (s:Shared) (σ : St) (H:Hp) (x y:V) (v u:Value) (Q:VK),Inv X pins σ H s->zR x v->zR y u->r x y H Q->
  subscripted slice false v u = operate [v,u] (getItem v u)->wpAny (model X.prog X.w) X.A (subscriptTail value slice v u) (EP X pins σ Q) X.xe s
def MtR (X:Cx) (id:String) (r:V->List V->Hp->VK->Prop):Prop:=
 ∀ (pins:List (Addr × Obj)) (s:Shared) (σ : St) (H:Hp) (x:V) (xs:List V) (v:Value) (us:List Value) (Q:VK),Inv X pins σ H s->zR x v->zS xs us->r x xs H Q->
  wpAny (model X.prog X.w) X.A (call (.builtin id) (v :: us)) (EP X pins σ Q) X.xe s
section
variable {X:Cx} {a b:Expr} {ta tb:TE} {pos:Pos}
theorem zo {r:R2} (hr:IxR X r) (ha:PE X a ta) (hb:PE X b tb) (hs:zgQ b):PE X (.Subscript a b pos) (tOp r ta tb):=by
 refine ⟨?_⟩
 intro pins s σ H Q I h
 exact Subscript_ (zil ha hb I h fun v u s2 x y H2 I2 rx ry q=>hr a b pins s2 σ H2 x y v u Q I2 rx ry q (hs _ _))
inductive zj2 (K:Frag) (x y:V) (H:Hp) (Q:VK):Prop where
 | mk (p:Addr) (xs:List V) (i:Int) (v:V) (e1:x = .ref p) (e2:y = .int i) (h:SqL K H p xs) (a:atI xs i = some v) (q:Q v H)
def zbB (K:Frag):R2:=fun x y H Q=>zj2 K x y H Q
inductive zj1 (K:Frag) (x y:V) (H:Hp) (Q:VK):Prop where
 | mk (p:Addr) (xs:List V) (i:Int) (v:V) (e1:x = .ref p) (e2:y = .int i) (h:SqT K H p xs) (a:atI xs i = some v) (q:Q v H)
def jy (K:Frag):R2:=fun x y H Q=>zj1 K x y H Q
def zjx:R2:=fun x y H Q=>∃ z i c,x = .str z/\y = .int i/\z.length<=sizeLine/\atI z.cps.toList i = some c/\Q (.str ⟨#[c]⟩) H
theorem zx:IxR X (zbB X.K):=by
 intro value slice pins s σ H x y v u Q I rx ry h hs
 obtain ⟨p,xs,i,z,rfl,rfl,hq,he,q⟩:=h
 cases rx
 obtain ⟨t,rfl⟩:=ry
 obtain ⟨its,r,pl,hz⟩:=I.list hq
 obtain ⟨j,h1,h2,h3,h4,h5⟩:=q0 he
 obtain ⟨w,ew,rw'⟩:=r.get h2
 have hl:=r.length
 have hn:=vY
 have fin:EP X pins σ Q w s:=⟨z,H,I,rw',q⟩
 by_cases h0 : 0<=i
 ·have hj:i.toNat = j:=by
   rw [seqIndex_of h0 h5] at h1
   exact Option.some.inj h1
  exact item_listR pl.isList h0 (by omega) (by rw [hj]; simpa using ew) fin hs
 ·have hj:(i + (its.toArray.size:Int)).toNat = j:=by
   rw [seqIndex_neg (by omega) h4] at h1
   rw [List.size_toArray,<- hl]
   exact Option.some.inj h1
  exact subscriptTail_builtinR (x:=w) pl.isList.typeIs slot_list_getitem.lookup
   (wpAny_getItem_list_neg (Q:=fun r s'=>r = w/\EP X pins σ Q r s') pl.isList (by omega) (by rw [List.size_toArray] <;> omega) (by omega) (by rw [hj]; simpa using ew) ⟨rfl,fin⟩) hs
theorem zF:IxR X (jy X.K):=by
 intro value slice pins s σ H x y v u Q I rx ry h hs
 obtain ⟨p,xs,i,z,rfl,rfl,hq,he,q⟩:=h
 cases rx
 obtain ⟨t,rfl⟩:=ry
 obtain ⟨its,r,pl,hz⟩:=I.tuple hq
 obtain ⟨j,h1,h2,h3,h4,h5⟩:=q0 he
 obtain ⟨w,ew,rw'⟩:=r.get h2
 have hl:=r.length
 have hn:=vY
 have fin:EP X pins σ Q w s:=⟨z,H,I,rw',q⟩
 exact subscriptTail_builtinR (x:=w) pl.typeIs slot_tuple_getitem.lookup
  (getItem_tuple (j:=j) (Q:=fun r s'=>r = w/\EP X pins σ Q r s') pl (by omega) (by omega) (by rw [List.size_toArray,<- hl]; exact h1) (by simpa using ew) ⟨rfl,fin⟩) hs
theorem zie:IxR X zjx:=by
 intro value slice pins s σ H x y v u Q I rx ry h hs
 obtain ⟨z,i,c,rfl,rfl,hz,he,q⟩:=h
 obtain ⟨t,rfl⟩:=rx
 obtain ⟨t',rfl⟩:=ry
 obtain ⟨j,h1,h2,h3,h4,h5⟩:=q0 he
 have hl:z.cps.toList.length = z.length:=by simp [Str.length]
 rw [hl] at h1 h4 h5
 have hn:=vY
 exact tail_any (typeIs_str s z t) slot_str_getitem.lookup (getItem_str (c:=c) (by
  have e1:decide (i < -(2 ^ 63:Int)) = false:=decide_eq_false (by omega)
  have e2:decide (i>=2 ^ 63) = false:=decide_eq_false (by omega)
  rw [e1,e2,Bool.or_false]) (by rw [h1]; simpa using h2) ⟨.str ⟨#[c]⟩,H,I.tok _,⟨_,rfl⟩,q⟩) hs
theorem qm (lo hi:Option Int) (n:Nat):(sliceBounds lo hi none n).1 = ((HT.sIx n 0 lo:Nat):Int)/\(sliceBounds lo hi none n).2.1 = ((HT.sIx n n hi:Nat):Int)/\(sliceBounds lo hi none n).2.2 = 1:=by
 refine ⟨?_,?_,rfl⟩
 ·cases lo with
  | none=>simp [sliceBounds,HT.sIx]
  | some i=>
   simp only [sliceBounds,HT.sIx,Option.getD_none,show (1:Int) > 0 by decide,if_true]
   by_cases h:i < 0
   ·simp only [h,if_true] <;> omega
   ·simp only [h,if_false] <;> omega
 ·cases hi with
  | none=>simp [sliceBounds,HT.sIx]
  | some i=>
   simp only [sliceBounds,HT.sIx,Option.getD_none,show (1:Int) > 0 by decide,if_true]
   by_cases h:i < 0
   ·simp only [h,if_true] <;> omega
   ·simp only [h,if_false] <;> omega
theorem jx (its:List Value) (lo hi:Option Int):slicePick its.toArray lo hi none = ((its.drop (HT.sIx its.length 0 lo)).take (HT.sIx its.length its.length hi - HT.sIx its.length 0 lo)).toArray:=by
 obtain ⟨h1,h2,h3⟩:=qm lo hi its.toArray.size
 unfold slicePick
 rw [h1,h2,h3]
 simp only [sliceRange_one,pick_run,List.size_toArray] <;> rfl
def zjs (K:Frag):V->Option Int->Option Int->Hp->VK->Prop:=fun x lo hi H Q=>∃ a xs,x = .ref a/\SqL K H a xs/\∀ p,H p = none->Q (.ref p) (upd H p (.lst (wB xs lo hi)))
theorem xW:SlR X (zjs X.K):=by
 intro pins s σ H x v vl vu lo hi sl Q I rx hs pl pu h
 obtain ⟨a,xs,rfl,hx,q⟩:=h
 cases rx
 obtain ⟨its,r,ht,hz⟩:=I.list hx
 have hlen:=r.length
 refine ⟨"list",_,slot_list_getitem.lookup,ht.isList.typeIs,?_⟩
 refine wpAny_getItem_list_slice ht.isList hs pl pu .none (by simp) ?_ (by rw [List.size_toArray] <;> omega)
 rw [jx,<- hlen]
 refine ⟨.ref s.heap.objs.size,_,I.laid (t':=s.toks) (o:=.lst (wB xs lo hi)) (fun b ob q=>Heap.get?_push_of_some _ q) (Nat.le_refl _) ?_,rfl,q _ (I.hok.fresh (Nat.le_refl _))⟩
 exact ⟨Nat.le_trans (zaY xs lo hi) hz,_,0,(r.drop (HT.sIx xs.length 0 lo)).take (HT.sIx xs.length xs.length hi - HT.sIx xs.length 0 lo),Heap.get?_push_size _ rfl⟩
def yZ:V->Bool
 | .non=>true
 | .bl _=>true
 | .int _=>true
 | .str _=>true
 | _=>false
def eqV:V->V->Bool
 | .non,.non=>true
 | .bl a,.bl b=>a == b
 | .bl a,.int b=>(if a then 1 else 0) == b
 | .int a,.bl b=>a == (if b then 1 else 0)
 | .int a,.int b=>a == b
 | .str a,.str b=>a == b
 | _,_=>false
theorem zfj {A:Around} {s:Shared} {y x:V} {u v:Value} (ry:zR y u) (rx:zR x v) (fy:yZ y = true) (fx:yZ x = true):SeqAt.EqAt A s u v (eqV y x):=by
 cases y with
 | non=>
  cases ry
  cases x with
  | non=>cases rx; exact SeqAt.EqAt.same _
  | bl b=>cases rx; exact SeqAt.EqAt.none_bool b
  | int b=>obtain ⟨t,rfl⟩:=rx; exact SeqAt.EqAt.none_int b t
  | str b=>obtain ⟨t,rfl⟩:=rx; exact SeqAt.EqAt.none_str b t
  | _=>exact absurd (show false = true from fx) Bool.false_ne_true
 | bl a=>
  cases ry
  cases x with
  | non=>cases rx; exact SeqAt.EqAt.bool_none a
  | bl b=>cases rx; exact SeqAt.EqAt.bool_bool a b
  | int b=>obtain ⟨t,rfl⟩:=rx; exact SeqAt.EqAt.bool_int a b t
  | str b=>obtain ⟨t,rfl⟩:=rx; exact SeqAt.EqAt.bool_str a b t
  | _=>exact absurd (show false = true from fx) Bool.false_ne_true
 | int a=>
  obtain ⟨t',rfl⟩:=ry
  cases x with
  | non=>cases rx; exact SeqAt.EqAt.int_none a t'
  | bl b=>cases rx; exact SeqAt.EqAt.int_bool a t' b
  | int b=>obtain ⟨t,rfl⟩:=rx; exact SeqAt.EqAt.int_int a t' b t
  | str b=>obtain ⟨t,rfl⟩:=rx; exact SeqAt.EqAt.int_str a t' b t
  | _=>exact absurd (show false = true from fx) Bool.false_ne_true
 | str a=>
  obtain ⟨t',rfl⟩:=ry
  cases x with
  | non=>cases rx; exact SeqAt.EqAt.str_none a t'
  | bl b=>cases rx; exact SeqAt.EqAt.str_bool a t' b
  | int b=>obtain ⟨t,rfl⟩:=rx; exact SeqAt.EqAt.str_int a t' b t
  | str b=>obtain ⟨t,rfl⟩:=rx; exact SeqAt.EqAt.str_str a t' b t
  | _=>exact absurd (show false = true from fx) Bool.false_ne_true
 | _=>exact absurd (show false = true from fy) Bool.false_ne_true
def eqU (x:V) (u:Value):Bool:=match u with
 | .none=>eqV .non x
 | .bool b=>eqV (.bl b) x
 | .int i _=>eqV (.int i) x
 | .str z _=>eqV (.str z) x
 | _=>false
theorem zbX {x y:V} {u:Value} (r:zR y u) (f:yZ y = true):eqU x u = eqV y x:=by
 cases y with
 | non=>cases r; rfl
 | bl b=>cases r; rfl
 | int i=>obtain ⟨t,rfl⟩:=r; rfl
 | str z=>obtain ⟨t,rfl⟩:=r; rfl
 | _=>exact absurd (show false = true from f) Bool.false_ne_true
theorem vN {x:V}:∀ {xs:List V} {us:List Value},zS xs us->xs.all yZ = true->us.any (eqU x) = xs.any fun y=>eqV y x
 | _,_,.nil,_=>rfl
 | y :: xs,u :: us,.cons r t,f=>by
  rw [List.all_cons,Bool.and_eq_true] at f
  rw [List.any_cons,List.any_cons,zbX r f.1,vN t f.2]
theorem wm {A:Around} {s:Shared} {x:V} {v:Value} (rx:zR x v) (fx:yZ x = true):∀ {xs:List V} {us:List Value},zS xs us->xs.all yZ = true->∀ u ∈ us,SeqAt.EqAt A s u v (eqU x u)
 | _,_,.nil,_=>fun u hu=>by cases hu
 | y :: xs,u :: us,.cons r t,f=>fun u' hu=>by
  rw [List.all_cons,Bool.and_eq_true] at f
  rcases List.mem_cons.mp hu with rfl | hu
  ·rw [zbX r f.1]; exact zfj r rx f.1 fx
  ·exact wm rx fx t f.2 u' hu
def inV (x:V) (xs:List V):Bool:=xs.any fun y=>eqV y x
def rIn (K:Frag) (neg:Bool):R2:=fun x y H Q=>∃ p xs,y = .ref p/\(SqL K H p xs\/SqT K H p xs)/\yZ x = true/\xs.all yZ = true/\Q (.bl (if neg then !inV x xs else inV x xs)) H
theorem yK:OpR X (compareOp .In) (rIn X.K false):=by
 intro pins s σ H x y v u Q I rx ry h
 obtain ⟨p,xs,rfl,hq,fx,fs,q⟩:=h
 cases ry
 rcases hq with hq | hq
 ·obtain ⟨its,r,pl,hz⟩:=I.list hq
  refine SeqAt.in_listAt (eqU x) pl.isList (fun w hw=>wm rx fx r fs w (by simpa using hw)) ⟨.bl _,H,I,rfl,?_⟩
  rw [show its.toArray.any (eqU x) = its.any (eqU x) by simp,vN r fs]
  exact q
 ·obtain ⟨its,r,pl,hz⟩:=I.tuple hq
  refine SeqAt.in_tupleAt (eqU x) pl (fun w hw=>wm rx fx r fs w (by simpa using hw)) ⟨.bl _,H,I,rfl,?_⟩
  rw [show its.toArray.any (eqU x) = its.any (eqU x) by simp,vN r fs]
  exact q
theorem zP:OpR X (compareOp .NotIn) (rIn X.K true):=by
 intro pins s σ H x y v u Q I rx ry h
 obtain ⟨p,xs,rfl,hq,fx,fs,q⟩:=h
 cases ry
 rcases hq with hq | hq
 ·obtain ⟨its,r,pl,hz⟩:=I.list hq
  refine SeqAt.notIn_listAt (eqU x) pl.isList (fun w hw=>wm rx fx r fs w (by simpa using hw)) ⟨.bl _,H,I,rfl,?_⟩
  rw [show its.toArray.any (eqU x) = its.any (eqU x) by simp,vN r fs]
  exact q
 ·obtain ⟨its,r,pl,hz⟩:=I.tuple hq
  refine SeqAt.notIn_tupleAt (eqU x) pl (fun w hw=>wm rx fx r fs w (by simpa using hw)) ⟨.bl _,H,I,rfl,?_⟩
  rw [show its.toArray.any (eqU x) = its.any (eqU x) by simp,vN r fs]
  exact q
theorem zH:yN X (.builtin "len") (fun xs H Q=>∃ p ys,xs = [.ref p]/\(SqL X.K H p ys\/SqT X.K H p ys)/\Q (.int ys.length) H):=by
 intro pins s σ H xs us Q I r h
 obtain ⟨p,ys,rfl,hq,q⟩:=h
 obtain ⟨u,rfl,rx⟩:=xt r
 cases rx
 have hn:=vY
 rcases hq with hq | hq
 ·obtain ⟨its,r',pl,hz⟩:=I.list hq
  have hlen:=r'.length
  exact Calls.call_len_list pl.isList (by simp only [List.size_toArray] <;> omega) ⟨.int ys.length,H,I.tok _,⟨s.toks + 1,by rw [List.size_toArray,hlen]⟩,q⟩
 ·obtain ⟨its,r',pl,hz⟩:=I.tuple hq
  have hlen:=r'.length
  exact len_tuple pl (by simp only [List.size_toArray] <;> omega) ⟨.int ys.length,H,I.tok _,⟨s.toks + 1,by rw [List.size_toArray,hlen]⟩,q⟩
theorem qY:yN X (.builtin "len") (fun xs H Q=>∃ z,xs = [.str z]/\z.length<=sizeLine/\Q (.int z.length) H):=by
 intro pins s σ H xs us Q I r h
 obtain ⟨z,rfl,hz,q⟩:=h
 obtain ⟨u,rfl,t,rfl⟩:=xt r
 have hn:=vY
 exact len_str (by omega) ⟨.int z.length,H,I.tok _,⟨_,rfl⟩,q⟩
theorem yX:yN X (.type "list") (fun xs H Q=>∃ p ys,xs = [.ref p]/\(SqL X.K H p ys\/SqT X.K H p ys)/\∀ l,H l = none->Q (.ref l) (upd H l (.lst ys))):=by
 intro pins s σ H xs us Q I r h
 obtain ⟨p,ys,rfl,hq,q⟩:=h
 obtain ⟨u,rfl,rx⟩:=xt r
 cases rx
 have fin:∀ (its:List Value),zS ys its->ys.length<=sizeLine->∀ (h':Heap) (c':Nat),(∀ b o',s.heap.get? b = some o'->h'.get? b = some o')->
   h'.get? s.heap.objs.size = some { cls:=.type "list",dict:=none,data:=.seq its.toArray c',slots:=#[] }->EP X pins σ Q (.ref s.heap.objs.size) { s with heap:=h' }:=fun its r' hz h' c' kp e=>
  ⟨.ref s.heap.objs.size,_,I.laid (t':=s.toks) kp (Nat.le_refl _) (show yy X.prog X.w _ h' _ (.lst ys) from ⟨hz,its,c',r',e⟩),rfl,q _ (I.hok.fresh (Nat.le_refl _))⟩
 rcases hq with hq | hq
 ·obtain ⟨its,r',pl,hz⟩:=I.list hq
  have hlen:=r'.length
  obtain ⟨o,ho,hc,n,hd⟩:=pl.isList
  exact call_list_seq p (.inl rfl) ho hc hd (fun h' c' kp e=>fin its r' hz h' c' kp e) (by simp only [List.size_toArray] <;> omega)
 ·obtain ⟨its,r',pl,hz⟩:=I.tuple hq
  have hlen:=r'.length
  obtain ⟨o,ho,hc,n,hd⟩:=pl
  exact call_list_seq p (.inr rfl) ho hc hd (fun h' c' kp e=>fin its r' hz h' c' kp e) (by simp only [List.size_toArray] <;> omega)
def tyV (K:Frag) (T:String) (x:V) (H:Hp):Prop:=match x with
 | .str _=>T = "str"
 | .int _=>T = "int"
 | .ref p=>(T = "list"/\∃ xs,SqL K H p xs)\/(T = "tuple"/\∃ o,K.lookup p = some o/\o.cls = .type "tuple"/\o.dict = none)\/
   (T = "dict"/\((∃ kvs,H p = some (.dK kvs))\/∃ kvs,H p = some (.dT kvs)))\/(T = "set"/\∃ S n,H p = some (.set S n))
 | _=>False
theorem zhh {pins:List (Addr × Obj)} {σ : St} {H:Hp} {s:Shared} {T:String} {x:V} {v:Value} (I:Inv X pins σ H s) (r:zR x v) (ty:tyV X.K T x H) :
  s.TypeIs v T/\∀ a,v = .ref a->∃ ob,s.heap.get? a = some ob/\ob.dict = none:=by
 cases x with
 | str z=>
  obtain ⟨t,rfl⟩:=r
  cases (show T = "str" from ty)
  exact ⟨typeIs_str s z t,fun _ e=>nomatch e⟩
 | int i=>
  obtain ⟨t,rfl⟩:=r
  cases (show T = "int" from ty)
  exact ⟨typeIs_int s i t,fun _ e=>nomatch e⟩
 | ref p=>
  cases r
  rcases ty with ⟨rfl,xs,hq⟩ | ⟨rfl,o,hk,hc,hd⟩ | ⟨rfl,hk⟩ | ⟨rfl,S,n,hk⟩
  ·obtain ⟨its,_,pl,_⟩:=I.list hq
   refine ⟨pl.isList.typeIs,fun a e=>?_⟩
   cases e
   obtain ⟨o,n,e,c,hd,_⟩:=pl
   exact ⟨o,e,hd⟩
  ·refine ⟨⟨o,I.kIn p o hk,hc⟩,fun a e=>?_⟩
   cases e
   exact ⟨o,I.kIn _ o hk,hd⟩
  ·have z:∃ o,s.heap.get? p = some o/\o.ExactDict:=by
    rcases hk with ⟨kvs,hk⟩ | ⟨kvs,hk⟩
    ·obtain ⟨_,_,_,_,o,_,_,e,ex,_⟩:=I.hok p _ hk
     exact ⟨o,e,ex⟩
    ·obtain ⟨_,_,_,_,o,_,_,e,ex,_⟩:=I.hok p _ hk
     exact ⟨o,e,ex⟩
   obtain ⟨o,e,ex⟩:=z
   refine ⟨⟨o,e,ex.1⟩,fun a e2=>?_⟩
   cases e2
   exact ⟨o,e,ex.2.1⟩
  ·obtain ⟨o,_,_,_,e,ex,_⟩:=I.hok p _ hk
   refine ⟨⟨o,e,ex.1⟩,fun a e2=>?_⟩
   cases e2
   exact ⟨o,e,ex.2.1⟩
 | _=>exact False.elim ty
def tBM (K:Frag) (T:String) (r:V->List V->Hp->VK->Prop) (to:TE) (t:TA):TE:=fun σ H Q=>to σ H fun x H1=>tyV K T x H1/\t σ H1 fun xs H2=>r x xs H2 Q
variable {o e:Expr} {es:List Expr} {to:TE} {t:TA} {name:Str} {apos cpos:Pos} {T id:String} {r:V->List V->Hp->VK->Prop}
theorem yD (pa:PlainAttrs T) (slot:Slot T name id) (hty:typeOf (.builtin id) = pure (.type "method_descriptor")) (hm:MtR X id r) (ho:PE X o to) (ha:PA X (e :: es) t)
  (hbase:attributeBase o name X.env (eval o X.env) = eval o X.env:=by rfl)
  (hfew:((backTo cpos (starEach (e :: es) X.env)).all (fun x=>!x.1) && (backToKw cpos (keywordEach [] X.env)).all (fun x=>x.1.isSome)
   && decide ((e :: es).length + ([]:List Keyword).length + (if ([]:List Keyword).isEmpty then 0 else 1) < 30)) = true:=by rfl)
  (hline:(apos.endLine == cpos.line) = true:=by rfl) (hs:starEach (e :: es) X.env = (false,eval e X.env) :: starEach es X.env:=by rfl) (hplain:(backTo cpos (starEach es X.env)).any (·.1) = false:=by rfl) :
  PE X (.Call (.Attribute o name apos) (e :: es) [] cpos) (tBM X.K T r to t):=by
 refine ⟨?_⟩
 intro pins s σ H Q I h
 refine wpAny_Call_method_late hbase hfew hline rfl (thn (ho pins s σ H _ I h) fun v s1 ⟨x,H1,I1,r1,ty,q1⟩=>?_)
 obtain ⟨h1,h2⟩:=zhh I1 r1 ty
 refine ⟨T,id,pa,slot,hty,h1,h2,?_⟩
 have hA:=ha cpos pins s1 σ H1 _ I1 q1
 rw [hs] at hA |-
 refine Calls.callWith_builtin (by show (false || (backTo cpos (starEach es X.env)).any (·.1)) = false; rw [hplain] <;> rfl) (Calls.evalArgs_plain ?_)
 exact thn hA fun us s2 ⟨vs,H2,I2,r2,q2⟩=>hm pins s2 σ H2 x vs v us Q I2 r1 r2 q2
end
def MtM (X:Cx) (id:String) (r:V->List V->Hp->VK->Prop):Prop:=
 ∀ (pins:List (Addr × Obj)) (s:Shared) (σ : St) (H:Hp) (x:V) (xs:List V) (v:Value) (us:List Value) (Q:VK),Inv X pins σ H s->zR x v->zS xs us->r x xs H Q->
  wpAny (model X.prog X.w) X.A (call (.builtin id) (v :: us)) (EP X pins σ Q) X.xe s
theorem zS.one:∀ {x:V} {us:List Value},zS [x] us->∃ u,us = [u]/\zR x u
 | _,_,.cons r .nil=>⟨_,rfl,r⟩
theorem zS.rep {xs:List V} {us:List Value} (h:zS xs us):∀ k:Nat,zS (List.replicate k xs).flatten (List.replicate k us).flatten
 | 0=>.nil
 | k + 1=>by
  rw [List.replicate_succ,List.replicate_succ,List.flatten_cons,List.flatten_cons]
  exact zS.append h (zS.rep h k)
theorem jW (its:List Value):∀ (k:Nat) (acc:List Value),
  List.foldl (fun x1 x2=>x1 ++ x2) acc.toArray (List.replicate k its.toArray) = (acc ++ (List.replicate k its).flatten).toArray
 | 0,acc=>by simp
 | k + 1,acc=>by
  have e:acc.toArray ++ its.toArray = (acc ++ its).toArray:=by simp
  have e2:(acc ++ its) ++ (List.replicate k its).flatten = acc ++ (List.replicate (k + 1) its).flatten:=by
   rw [List.replicate_succ,List.flatten_cons,List.append_assoc]
  rw [<- e2,<- jW its k (acc ++ its),<- e,List.replicate_succ,List.foldl_cons]
section
variable {X:Cx} {pins:List (Addr × Obj)} {σ : St} {H:Hp} {s:Shared} {l b:Addr} {xs ys zs:List V}
theorem Inv.lset {its its':List Value} {n:Nat} {f:Array Value->Array Value} {t':Nat} (I:Inv X pins σ H s) (hH:H l = some (.lst xs))
  (e:s.heap.get? l = some { cls:=.type "list",data:=.seq its.toArray n }) (hf:f its.toArray = its'.toArray) (hv:zS ys its') (hz:ys.length<=sizeLine) :
  Inv X pins σ (upd H l (.lst ys)) { s with heap:=s.heap.update l (Obj.mapSeq f),toks:=t' }:=by
 have q:=PySem.IsL.update e f
 rw [hf] at q
 refine I.write (x:=l) (e:=l) (by rw [hH]; exact trivial) (.inl rfl) (fun b' u hb hu=>(Heap.get?_update_other s.heap (Obj.mapSeq f) (Ne.symm hb)).trans hu) ⟨_,q⟩ ?_
 exact ⟨hz,its',_,hv,q⟩
theorem Inv.lnew {its:List Value} {t':Nat} (I:Inv X pins σ H s) (hv:zS ys its) (hz:ys.length<=sizeLine) :
  Inv X pins σ (upd H s.heap.objs.size (.lst ys)) { s with heap:=s.heap.push { cls:=.type "list",data:=.seq its.toArray },toks:=t' }:=
 I.laid (fun _ _ q=>Heap.get?_push_of_some _ q) (Nat.le_refl _) ⟨hz,its,0,hv,Heap.get?_push_size _ rfl⟩
theorem Inv.fresh (I:Inv X pins σ H s):H s.heap.objs.size = none:=I.hok.fresh (Nat.le_refl _)
theorem Inv.lstM (I:Inv X pins σ H s) (hH:H l = some (.lst xs)):xs.length<=sizeLine/\∃ (its:List Value) (n:Nat),zS xs its/\xs.length = its.length/\s.heap.get? l = some { cls:=.type "list",data:=.seq its.toArray n }:=by
 obtain ⟨z,its,n,r,e⟩:=I.hok l _ hH
 exact ⟨z,its,n,r,r.length,e⟩
theorem zaG {n:Nat} (h:n<=sizeLine):Builtin.List.listTooLong n = false:=by
 unfold Builtin.List.listTooLong
 exact decide_eq_false (by omega)
end
section
variable {X:Cx}
def zfW:V->List V->Hp->VK->Prop:=fun x vs H Q=>∃ l xs y,x = .ref l/\vs = [y]/\H l = some (.lst xs)/\xs.length < sizeLine/\Q .non (upd H l (.lst (xs ++ [y])))
theorem zL:MtM X "list.append" zfW:=by
 intro pins s σ H x vs v us Q I rx rv h
 obtain ⟨l,xs,y,rfl,rfl,hH,hz,q⟩:=h
 cases rx
 obtain ⟨u,rfl,ru⟩:=rv.one
 obtain ⟨z,its,n,r,hl,e⟩:=I.lstM hH
 refine call_meets F.slot_list_append ⟨_,e,rfl⟩ F.entry_list_append (F.args_list_append_2 _ _) (PySem.list_append l its.toArray n u (by rw [List.size_toArray]; omega)) ⟨e,?_⟩
 refine ⟨.non,_,I.lset (its':=its ++ [u]) hH e (by simp) (r.append (.cons ru .nil)) ?_,rfl,q⟩
 rw [List.length_append,List.length_singleton]
 omega
def zfU:V->List V->Hp->VK->Prop:=fun x vs H Q=>∃ l b xs zs,x = .ref l/\vs = [.ref b]/\H l = some (.lst xs)/\H b = some (.lst zs)/\xs.length + zs.length<=sizeLine/\Q .non (upd H l (.lst (xs ++ zs)))
theorem jO:MtM X "list.extend" zfU:=by
 intro pins s σ H x vs v us Q I rx rv h
 obtain ⟨l,b,xs,zs,rfl,rfl,hH,hB,hz,q⟩:=h
 cases rx
 obtain ⟨u,rfl,ru⟩:=rv.one
 cases ru
 obtain ⟨z,its,n,r,hl,e⟩:=I.lstM hH
 obtain ⟨z2,its2,n2,r2,hl2,e2⟩:=I.lstM hB
 have hsz:its.toArray.size + its2.toArray.size<=sizeLine:=by rw [List.size_toArray,List.size_toArray]; omega
 have hlong:¬ (!its.toArray.isEmpty && Builtin.List.listTooLong (its.toArray.size + its2.toArray.size)) = true:=by
  rw [zaG hsz,Bool.and_false]
  exact Bool.false_ne_true
 refine call_meets F.slot_list_extend ⟨_,e,rfl⟩ F.entry_list_extend (F.args_list_extend_2 _ _)
  (AutoSeq1.list_extend_list_list_0 l its.toArray n b its2.toArray n2 hlong (by rw [List.size_toArray]; omega) (by omega)) ⟨e,e2,?_⟩
 refine ⟨.non,_,I.lset (its':=its ++ its2) hH e (by simp) (r.append r2) ?_,rfl,q⟩
 rw [List.length_append]
 omega
def zjy:R2:=fun x y H Q=>∃ l b xs zs,x = .ref l/\y = .ref b/\H l = some (.lst xs)/\H b = some (.lst zs)/\xs.length + zs.length<=sizeLine/\∀ p,H p = none->Q (.ref p) (upd H p (.lst (xs ++ zs)))
theorem yG:OpR X (binaryOp .Add) zjy:=by
 intro pins s σ H x y v u Q I rx ry h
 obtain ⟨l,b,xs,zs,rfl,rfl,hH,hB,hz,q⟩:=h
 cases rx
 cases ry
 obtain ⟨z,its,n,r,hl,e⟩:=I.lstM hH
 obtain ⟨z2,its2,n2,r2,hl2,e2⟩:=I.lstM hB
 refine PySem.P.add_list e e2 ?_ (by rw [List.size_toArray,List.size_toArray]; omega)
 have ea:its.toArray ++ its2.toArray = (its ++ its2).toArray:=by simp
 rw [ea]
 exact ⟨.ref _,_,I.lnew (t':=s.toks) (r.append r2) (by rw [List.length_append]; omega),rfl,q _ I.fresh⟩
def zjt:R2:=fun x y H Q=>∃ l k xs,x = .ref l/\y = .int k/\H l = some (.lst xs)/\-(2 ^ 63)<=k/\k < 2 ^ 63/\xs.length * k.toNat<=sizeLine/\
 ∀ p,H p = none->Q (.ref p) (upd H p (.lst (List.replicate k.toNat xs).flatten))
theorem zgu {α : Type} (xs:List α) (k:Nat):(List.replicate k xs).flatten.length = k * xs.length:=by
 induction k with
 | zero=>simp
 | succ k ih=>rw [List.replicate_succ,List.flatten_cons,List.length_append,ih,Nat.succ_mul,Nat.add_comm]
theorem qI:OpR X (binaryOp .Mult) zjt:=by
 intro pins s σ H x y v u Q I rx ry h
 obtain ⟨l,k,xs,rfl,rfl,hH,h1,h2,hz,q⟩:=h
 cases rx
 obtain ⟨t,rfl⟩:=ry
 obtain ⟨z,its,n,r,hl,e⟩:=I.lstM hH
 have hlen:its.toArray.size * k.toNat<=sizeLine:=by rw [List.size_toArray,<- hl]; exact hz
 have hcap:¬ its.toArray.size * k.toNat > (2 ^ 63 - 1) / 8:=by
  have:(sizeLine:Nat)<=(2 ^ 63 - 1) / 8:=by decide
  omega
 have hfit:¬ (!Builtin.List.listFitsIndex k) = true:=by
  rw [fitsIndex_both h1 h2]
  exact Bool.false_ne_true
 have hlong:¬ Builtin.List.listTooLong (its.toArray.size * k.toNat) = true:=by
  rw [zaG hlen]
  exact Bool.false_ne_true
 have hnew:List.foldl (fun x1 x2=>x1 ++ x2) #[] (List.replicate (if its.toArray.isEmpty = true then 0 else k.toNat) its.toArray) = (List.replicate k.toNat its).flatten.toArray:=by
  have f0:∀ m:Nat,List.foldl (fun x1 x2=>x1 ++ x2) #[] (List.replicate m its.toArray) = (List.replicate m its).flatten.toArray:=fun m=>by
   have:=jW its m []
   rw [List.nil_append] at this
   exact this
  rw [f0]
  cases its with
  | nil=>simp
  | cons a r'=>rw [if_neg (by simp)]
 refine wpAny_binaryOp_repeat_ref (T:="list") (U:="int") (by decide) ⟨_,e,rfl⟩ (fun s'=>typeIs_int s' k t) noFill_list_mul F.fills_int_mul F.slot_int_rmul repeat_list F.slot_int_index.lookup
  (call_meets F.slot_int_rmul (typeIs_int s k t) F.entry_int_rmul (F.args_int_rmul_2 _ _) (int___rmul___int_list k t l its.toArray n)
   ⟨e,rfl,⟨_,e,rfl⟩,call_meets F.slot_list_mul ⟨_,e,rfl⟩ F.entry_list_mul (F.args_list_mul_2 _ _) (AutoListH.list___mul___list_int_3 l its.toArray n k t hfit hcap hlong) ⟨e,?_⟩⟩)
 rw [hnew]
 exact ⟨.ref _,_,I.lnew (t':=s.toks) (r.rep k.toNat) (by rw [zgu,Nat.mul_comm]; exact hz),rfl,q _ I.fresh⟩
end
section
variable {prog:Program} {w:World} {A:Around} {E:Value->Shared->Prop} {s:Shared}
end
section
variable {X:Cx}
end
section
variable {κ : Type} [DecidableEq κ]
def zJ (kvs:List (κ × V)) (k : κ):Option V:=(kvs.find? fun kv=>decide (kv.1 = k)).map (·.2)
def yP (kvs:List (κ × V)) (k : κ) (v:V):List (κ × V):=
 if (kvs.any fun kv=>decide (kv.1 = k)) = true then kvs.map (fun kv=>if kv.1 = k then (kv.1,v) else kv) else kvs ++ [(k,v)]
theorem yQ {p : κ × V} {r:List (κ × V)} {k : κ} (e:p.1 = k):zJ (p :: r) k = some p.2:=by simp [zJ,List.find?_cons,e]
theorem yR {p : κ × V} {r:List (κ × V)} {k : κ} (e:¬ p.1 = k):zJ (p :: r) k = zJ r k:=by simp [zJ,List.find?_cons,e]
theorem wc (k : κ):∀ kvs:List (κ × V),(kvs.any fun kv=>decide (kv.1 = k)) = (zJ kvs k).isSome
 | []=>rfl
 | p :: r=>by
  rw [List.any_cons]
  by_cases e:p.1 = k
  ·simp only [yQ e,decide_eq_true e,Bool.true_or,Option.isSome_some]
  ·rw [yR e,decide_eq_false e,Bool.false_or]; exact wc k r
theorem zaf (k j : κ) (y:V):∀ kvs:List (κ × V),zJ (kvs.map fun kv=>if kv.1 = k then (kv.1,y) else kv) j = (zJ kvs j).map fun x=>if j = k then y else x
 | []=>rfl
 | p :: r=>by
  have ih:=zaf k j y r
  rw [List.map_cons]
  by_cases h:p.1 = k
  ·rw [if_pos h]
   by_cases e:p.1 = j
   ·rw [yQ (p:=(p.1,y)) e,yQ e,Option.map_some,if_pos (e.symm.trans h)]
   ·rw [yR (p:=(p.1,y)) e,yR e,ih]
  ·rw [if_neg h]
   by_cases e:p.1 = j
   ·rw [yQ (p:=p) e,yQ e,Option.map_some,if_neg (fun z=>h (e.trans z))]
   ·rw [yR (p:=p) e,yR e,ih]
theorem jD (k j : κ) (y:V):∀ kvs:List (κ × V),zJ kvs k = none->zJ (kvs ++ [(k,y)]) j = if j = k then some y else zJ kvs j
 | [],_=>by
  by_cases e:k = j
  ·rw [if_pos e.symm]; exact yQ (p:=(k,y)) e
  ·rw [if_neg (fun z=>e z.symm)]; exact yR (p:=(k,y)) e
 | p :: r,hn=>by
  rw [List.cons_append]
  have hk:¬ p.1 = k:=fun z=>by rw [yQ z] at hn; cases hn
  rw [yR hk] at hn
  have ih:=jD k j y r hn
  by_cases e:p.1 = j
  ·rw [yQ e,yQ e,if_neg (fun z=>hk (e.trans z))]
  ·rw [yR e,yR e,ih]
theorem zae (kvs:List (κ × V)) (k j : κ) (y:V):zJ (yP kvs k y) j = if j = k then some y else zJ kvs j:=by
 unfold yP
 by_cases a:(kvs.any fun kv=>decide (kv.1 = k)) = true
 ·rw [if_pos a,zaf]
  rw [wc] at a
  by_cases e:j = k
  ·obtain ⟨x,hx⟩:=Option.isSome_iff_exists.mp a
   rw [if_pos e,e,hx,Option.map_some,if_pos rfl]
  ·rw [if_neg e]
   cases zJ kvs j with
   | none=>rfl
   | some x=>rw [Option.map_some,if_neg e]
 ·rw [if_neg a]
  refine jD k j y kvs ?_
  rw [wc] at a
  cases q:zJ kvs k with
  | none=>rfl
  | some x=>rw [q] at a; exact (a rfl).elim
theorem xx (kvs:List (κ × V)) (k : κ) (v:V):(yP kvs k v).length<=kvs.length + 1:=by
 unfold yP
 split
 ·rw [List.length_map]; omega
 ·rw [List.length_append,List.length_cons,List.length_nil]; omega
theorem wF.isSome_eq {o:Option V} {u:Option Value} (r:wF o u):o.isSome = u.isSome:=by
 cases o with
 | none=>cases u with
  | none=>rfl
  | some _=>exact (show False from r).elim
 | some _=>cases u with
  | none=>exact (show False from r).elim
  | some _=>rfl
theorem wF.getD {o:Option V} {u:Option Value} {d:V} {d':Value} (r:wF o u) (rd:zR d d'):zR (o.getD d) (u.getD d'):=by
 cases o with
 | none=>cases u with
  | none=>exact rd
  | some _=>exact (show False from r).elim
 | some _=>cases u with
  | none=>exact (show False from r).elim
  | some _=>exact r
theorem KV.val {kvs:List (κ × V)} {vs:List (κ × Value)} (r:KV kvs vs) (k : κ):wF (zJ kvs k) (valueAt vs k):=by
 unfold KV at r
 induction r with
 | nil=>exact True.intro
 | @cons p q ps qs h t ih=>
  obtain ⟨h1,h2⟩:=h
  by_cases e:p.1 = k
  ·have e':q.1 = k:=h1.symm.trans e
   have b:valueAt (q :: qs) k = some q.2:=by simp [valueAt,List.find?_cons,e']
   rw [yQ e,b]; exact h2
  ·have e':¬ q.1 = k:=fun z=>e (h1.trans z)
   have b:valueAt (q :: qs) k = valueAt qs k:=by simp [valueAt,List.find?_cons,e']
   rw [yR e,b]; exact ih
theorem KV.any {kvs:List (κ × V)} {vs:List (κ × Value)} (r:KV kvs vs) (k : κ):(kvs.any fun kv=>decide (kv.1 = k)) = vs.any fun kv=>decide (kv.1 = k):=by
 unfold KV at r
 induction r with
 | nil=>rfl
 | cons h t ih=>rw [List.any_cons,List.any_cons,ih,h.1]
theorem KV.repl {kvs:List (κ × V)} {vs:List (κ × Value)} (r:KV kvs vs) (k : κ) {y:V} {u:Value} (ry:zR y u) :
  KV (kvs.map fun kv=>if kv.1 = k then (kv.1,y) else kv) (vs.map fun kv=>if kv.1 = k then (kv.1,u) else kv):=by
 unfold KV at r |-
 induction r with
 | nil=>exact .nil
 | @cons p q ps qs h t ih=>
  rw [List.map_cons,List.map_cons]
  refine .cons ?_ ih
  obtain ⟨h1,h2⟩:=h
  by_cases e:p.1 = k
  ·rw [if_pos e,if_pos (h1.symm.trans e)]; exact ⟨h1,ry⟩
  ·rw [if_neg e,if_neg (fun z=>e (h1.trans z))]; exact ⟨h1,h2⟩
theorem KV.put {kvs:List (κ × V)} {vs:List (κ × Value)} (r:KV kvs vs) (k : κ) {y:V} {u:Value} (ry:zR y u):KV (yP kvs k y) (stored vs k u):=by
 unfold yP stored
 rw [r.any k]
 by_cases e:(vs.any fun kv=>decide (kv.1 = k)) = true
 ·rw [if_pos e,if_pos e]; exact r.repl k ry
 ·rw [if_neg e,if_neg e]; exact Paired.snoc r ⟨rfl,ry⟩
theorem KV.length {kvs:List (κ × V)} {vs:List (κ × Value)} (r:KV kvs vs):kvs.length = vs.length:=Paired.length r
end
theorem jn {P:Program} {w:World} {k:Key} {u:Value} (r:zR (kV k) u):(yg P w).is k u = true:=by
 cases k with
 | inl i=>obtain ⟨t,e⟩:=(show ∃ t,u = Value.int i t from r); subst e; exact zaK P w i t
 | inr x=>obtain ⟨t,e⟩:=(show ∃ t,u = Value.str x t from r); subst e; exact zaJ P w x t
theorem jR {P:Program} {w:World}:∀ {ks:List Key} {us:List Value},zS (ks.map kV) us->ItemsAre (yg P w) ks us
 | [],_,r=>by rw [List.map_nil] at r; cases r; exact .nil
 | k :: ks,_,r=>by
  rw [List.map_cons] at r
  cases r with
  | cons h t=>exact .cons (jn h) (jR t)
abbrev KT (H:Hp):List (List Key × V)->List (List Key × Addr × Value)->Prop:=Paired fun p q=>p.1 = q.1/\H q.2.1 = some (.tup (p.1.map kV))/\zR p.2 q.2.2
theorem KT.val {H:Hp} {kvs:List (List Key × V)} {xs:List (List Key × Addr × Value)} (r:KT H kvs xs) (k:List Key):wF (zJ kvs k) ((atKey xs k).map (·.2)):=by
 induction r with
 | nil=>exact True.intro
 | @cons p q ps qs h t ih=>
  obtain ⟨h1,_,h2⟩:=h
  by_cases e:p.1 = k
  ·have e':q.1 = k:=h1.symm.trans e
   have b:atKey (q :: qs) k = some q.2:=by simp [atKey,List.find?_cons,e']
   rw [yQ e,b]; exact h2
  ·have e':¬ q.1 = k:=fun z=>e (h1.trans z)
   have b:atKey (q :: qs) k = atKey qs k:=by simp [atKey,List.find?_cons,e']
   rw [yR e,b]; exact ih
theorem KT.repl {H:Hp} {kvs:List (List Key × V)} {xs:List (List Key × Addr × Value)} (r:KT H kvs xs) (k:List Key) {y:V} {u:Value} (ry:zR y u) :
  KT H (kvs.map fun kv=>if kv.1 = k then (kv.1,y) else kv) (xs.map (putAt k u)):=by
 induction r with
 | nil=>exact .nil
 | @cons p q ps qs h t ih=>
  rw [List.map_cons,List.map_cons]
  refine .cons ?_ ih
  obtain ⟨h1,h2,h3⟩:=h
  unfold putAt
  by_cases e:p.1 = k
  ·rw [if_pos e,if_pos (h1.symm.trans e)]; exact ⟨h1,h2,ry⟩
  ·rw [if_neg e,if_neg (fun z=>e (h1.trans z))]; exact ⟨h1,h2,h3⟩
theorem KT.put {H:Hp} {kvs:List (List Key × V)} {xs:List (List Key × Addr × Value)} (r:KT H kvs xs) (k:List Key) {b:Addr} {y:V} {u:Value} (hb:H b = some (.tup (k.map kV))) (ry:zR y u) :
  KT H (yP kvs k y) (storedH xs k b u):=by
 have e:(kvs.any fun kv=>decide (kv.1 = k)) = (atKey xs k).isSome:=by
  rw [wc,(r.val k).isSome_eq,Option.isSome_map]
 unfold yP storedH
 rw [e]
 by_cases q:(atKey xs k).isSome = true
 ·rw [if_pos q,if_pos q]; exact r.repl k ry
 ·rw [if_neg q,if_neg q]; exact Paired.snoc r ⟨rfl,hb,ry⟩
theorem KT.keeps {H H':Hp} {kvs:List (List Key × V)} {xs:List (List Key × Addr × Value)} (r:KT H kvs xs) (ht:∀ b ys,H b = some (.tup ys)->H' b = some (.tup ys)):KT H' kvs xs:=
 Paired.mapP r fun _ _ z=>⟨z.1,ht _ _ z.2.1,z.2.2⟩
section
variable {P:Program} {w:World} {H:Hp} {h:Heap} {a:Addr}
theorem zg5 {u:HO} (ok:HOk P w H h) (e:Rd H a u):yy P w H h a u:=e.ok ok
theorem js {kvs:List (Key × V)} (ok:HOk P w H h) (e:Rd H a (.dK kvs)):kvs.length<=sizeLine/\(a == sysModules) = false/\∃ vs,KV kvs vs/\h.DictOf (yg P w) a vs:=
 show yy P w H h a (.dK kvs) from zg5 ok e
theorem zhb {kvs:List (Key × V)} (ok:HOk P w H h) (e:H a = some (.dK kvs)):kvs.length<=sizeLine/\(a == sysModules) = false/\∃ vs,KV kvs vs/\h.DictOf (yg P w) a vs:=js ok (.inl e)
theorem ub {ks:List Key} (ok:HOk P w H h) (e:H a = some (.tup (ks.map kV))):(tupleKind (yg P w)).is h ks a:=by
 obtain ⟨_,its,r,o,h1,h2,n,h3⟩:=(show yy P w H h a (.tup (ks.map kV)) from ok a _ e)
 exact ⟨o,its.toArray,n,h1,h2,h3,by simpa using jR r⟩
theorem jr {kvs:List (List Key × V)} (ok:HOk P w H h) (e:Rd H a (.dT kvs)):kvs.length<=sizeLine/\(a == sysModules) = false/\
  ∃ xs,KT H kvs xs/\h.DictOfH (tupleKind (yg P w)) a xs:=by
 obtain ⟨z,y,xs,r,o,es,ep,h1,h2,h3,h4,h5⟩:=(show yy P w H h a (.dT kvs) from zg5 ok e)
 refine ⟨z,y,xs,r,o,es,ep,h1,h2,h3,h4,fun x hx=>?_,h5⟩
 have all:∀ {l:List (List Key × V)} {m:List (List Key × Addr × Value)},KT H l m->∀ x ∈ m,(tupleKind (yg P w)).is h x.1 x.2.1:=by
  intro l m q
  induction q with
  | nil=>intro x hx; exact nomatch hx
  | @cons p q ps qs hq t ih=>
   intro x hx
   rcases List.mem_cons.mp hx with e | hx
   ·subst e
    exact ub ok (by rw [<- hq.1]; exact hq.2.1)
   ·exact ih x hx
 exact all r x hx
theorem zi9 {kvs:List (List Key × V)} (ok:HOk P w H h) (e:H a = some (.dT kvs)):kvs.length<=sizeLine/\(a == sysModules) = false/\
  ∃ xs,KT H kvs xs/\h.DictOfH (tupleKind (yg P w)) a xs:=jr ok (.inl e)
end
def vp (H:Hp) (a:Addr) (y:V) (r:Option V):Prop:=
 (∃ kvs k,Rd H a (.dK kvs)/\y = kV k/\r = zJ kvs k)\/∃ kvs k b,Rd H a (.dT kvs)/\y = .ref b/\H b = some (.tup (k.map kV))/\r = zJ kvs k
def zfw (H:Hp) (a:Addr) (y v:V) (H':Hp):Prop:=
 (∃ kvs k,H a = some (.dK kvs)/\y = kV k/\kvs.length < sizeLine/\H' = upd H a (.dK (yP kvs k v)))\/
 ∃ kvs k b,H a = some (.dT kvs)/\y = .ref b/\H b = some (.tup (k.map kV))/\kvs.length < sizeLine/\H' = upd H a (.dT (yP kvs k v))
theorem vp.k {H:Hp} {a:Addr} {kvs:List (Key × V)} {k:Key} (e:H a = some (.dK kvs)):vp H a (kV k) (zJ kvs k):=.inl ⟨kvs,k,.inl e,rfl,rfl⟩
theorem zfw.k {H:Hp} {a:Addr} {kvs:List (Key × V)} {k:Key} {v:V} (e:H a = some (.dK kvs)) (hl:kvs.length < sizeLine):zfw H a (kV k) v (upd H a (.dK (yP kvs k v))):=.inl ⟨kvs,k,e,rfl,hl,rfl⟩
section
variable {X:Cx} {pins:List (Addr × Obj)} {σ : St} {H:Hp} {s:Shared} {a:Addr} {y v:V} {u r:Value} {o:Option V} {A:Around} {E:Value->Shared->Prop}
theorem Inv.big (I:Inv X pins σ H s):sysModules < s.heap.objs.size:=by
 have h:mainGlobals < s.heap.objs.size:=(I.mod.glob.keeps I.bk).lt
 exact Nat.lt_trans (by decide) h
theorem zdv {Q:Value->Shared->Prop} (hu:A.units + 1 < cLine) (I:Inv X pins σ H s) (g:vp H a y (some v)) (ry:zR y u) (h:∀ w' s',Inv X pins σ H s'->zR v w'->Q w' s') :
  wpAny (model X.prog X.w) A (getItem (.ref a) u) Q E s:=by
 rcases g with ⟨kvs,k,e,ey,l⟩ | ⟨kvs,k,b,e,ey,eb,l⟩
 ·subst ey
  obtain ⟨z,hd,vs,rel,dd⟩:=js I.hok e
  obtain ⟨w',hw,rw'⟩:=wF.some_of (v:=v) (o:=valueAt vs k) (by rw [l]; exact rel.val k)
  exact wpAny_getItem_of (jn ry) dd.mapOf hw (h w' _ (I.tok _) rw')
 ·subst ey
  cases (show u = Value.ref b from ry)
  obtain ⟨z,hd,xs,rel,dd⟩:=jr I.hok e
  obtain ⟨w',hw,rw'⟩:=wF.some_of (v:=v) (o:=(atKey xs k).map (·.2)) (by rw [l]; exact rel.val k)
  obtain ⟨p,hp,hp2⟩:=Option.map_eq_some_iff.mp hw
  refine wpAny_getItem_heap (tupleKind_room_in1 hu) (ub I.hok eb) dd hp ?_
  rw [hp2]
  exact h w' _ (I.tok _) rw'
theorem zjQ {Q:Value->Shared->Prop} (hu:A.units + 1 < cLine) (I:Inv X pins σ H s) (g:vp H a y o) (ry:zR y u) (h:∀ s',Inv X pins σ H s'->Q (.bool o.isSome) s') :
  wpAny (model X.prog X.w) A (compareOp .In u (.ref a)) Q E s:=by
 rcases g with ⟨kvs,k,e,ey,l⟩ | ⟨kvs,k,b,e,ey,eb,l⟩
 ·subst ey
  obtain ⟨z,hd,vs,rel,dd⟩:=js I.hok e
  refine wpAny_in_of (jn ry) hd dd.mapOf ?_
  rw [<- (rel.val k).isSome_eq,<- l]
  exact h _ (I.tok _)
 ·subst ey
  cases (show u = Value.ref b from ry)
  obtain ⟨z,hd,xs,rel,dd⟩:=jr I.hok e
  refine wpAny_in_heap (tupleKind_room_in1 hu) (ub I.hok eb) hd dd ?_
  have q:=(rel.val k).isSome_eq
  rw [Option.isSome_map] at q
  rw [<- q,<- l]
  exact h _ (I.tok _)
theorem zgI {Q:Value->Shared->Prop} (hu:A.units + 1 < cLine) (I:Inv X pins σ H s) (g:vp H a y o) (ry:zR y u) (h:∀ s',Inv X pins σ H s'->Q (.bool (!o.isSome)) s') :
  wpAny (model X.prog X.w) A (compareOp .NotIn u (.ref a)) Q E s:=by
 rcases g with ⟨kvs,k,e,ey,l⟩ | ⟨kvs,k,b,e,ey,eb,l⟩
 ·subst ey
  obtain ⟨z,hd,vs,rel,dd⟩:=js I.hok e
  refine wpAny_notIn_of (jn ry) hd dd.mapOf ?_
  rw [<- (rel.val k).isSome_eq,<- l]
  exact h _ (I.tok _)
 ·subst ey
  cases (show u = Value.ref b from ry)
  obtain ⟨z,hd,xs,rel,dd⟩:=jr I.hok e
  refine wpAny_notIn_heap (tupleKind_room_in1 hu) (ub I.hok eb) hd dd ?_
  have q:=(rel.val k).isSome_eq
  rw [Option.isSome_map] at q
  rw [<- q,<- l]
  exact h _ (I.tok _)
theorem qT {h':Heap} {t':Nat} {ob:HO} (I:Inv X pins σ H s) (mu:Mut (H a)) (hs:Heap.SameBut a s.heap h') (he:∃ q,h'.get? a = some q) (new:yy X.prog X.w (upd H a ob) h' a ob) :
  Inv X pins σ (upd H a ob) { s with heap:=h',toks:=t' }:=
 I.write (x:=a) (e:=a) mu (.inl rfl) (fun b q hb z=>(hs.2 b hb).trans z) he new
theorem zfm {P:Program} {w:World} {H':Hp} {h':Heap} {kvs:List (Key × V)} {vs:List (Key × Value)} (z:kvs.length<=sizeLine) (hd:(a == sysModules) = false) (rel:KV kvs vs) (dd:h'.DictOf (yg P w) a vs) :
  yy P w H' h' a (.dK kvs):=⟨z,hd,vs,rel,dd⟩
theorem zdu {H':Hp} {Q:Unit->Shared->Prop} (hu:A.units + 1 < cLine) (I:Inv X pins σ H s) (g:zfw H a y v H') (ry:zR y u) (rv:zR v r) (h:∀ s',Inv X pins σ H' s'->Q () s') :
  wpAny (model X.prog X.w) A (setItem (.ref a) u r) Q E s:=by
 rcases g with ⟨kvs,k,e,ey,l,eH⟩ | ⟨kvs,k,b,e,ey,eb,l,eH⟩
 ·subst ey eH
  obtain ⟨z,hd,vs,rel,dd⟩:=zhb I.hok e
  have hz:vs.length<=sizeLine:=by rw [<- rel.length]; exact z
  have hl:(yP kvs k v).length<=sizeLine:=by have:=xx kvs k v; omega
  refine wpAny_setItem_pairs (hsz:=hz) (jn ry) dd fun h' dd' hs=>h _ ?_
  have he:∃ q,h'.get? a = some q:=let ⟨q,_,_,hq,_⟩:=dd'; ⟨q,hq⟩
  exact qT I (by rw [e]; exact True.intro) hs he (zfm hl hd (rel.put k rv) dd')
 ·subst ey eH
  cases (show u = Value.ref b from ry)
  obtain ⟨z,hd,xs,rel,dd⟩:=zi9 I.hok e
  have hz:xs.length<=sizeLine:=by rw [<- Paired.length rel]; exact z
  have hl:(yP kvs k v).length<=sizeLine:=by have:=xx kvs k v; omega
  refine wpAny_setItem_heap (hsz:=hz) (tupleKind_room_in1 hu) (ub I.hok eb) dd fun h' dd' hs=>h _ ?_
  obtain ⟨q,es,ep,hq,h2,h3,h4,_,h5⟩:=dd'
  refine qT I (by rw [e]; exact True.intro) hs ⟨q,hq⟩ ⟨hl,hd,_,(rel.put k eb rv).keeps fun c ys ec=>?_,q,es,ep,hq,h2,h3,h4,h5⟩
  rw [zg (xA ec e (fun z=>nomatch z))]
  exact ec
end
section
variable {X:Cx} {pins:List (Addr × Obj)} {σ : St} {H:Hp} {s:Shared} {a:Addr} {kvs:List (Key × V)} {k:Key} {u:Value} {A:Around} {E:Value->Shared->Prop}
end
def zir (i:Expr):Prop:=∀ ov iv,subscripted i false ov iv = operate [ov,iv] (getItem ov iv)
theorem zcc {prog:Program} {w:World} {A:Around} {E:Value->Shared->Prop} {s:Shared} {env:Env} {value slice:Expr} {pos:Pos} {T id:String} {Q:Value->Shared->Prop}
  (hl:typeLookup (.type T) "__getitem__" = pure (some (.builtin id))) (hs:zir slice)
  (h:wpAny (model prog w) A (eval value env) (fun o s₁=>wpAny (model prog w) A (eval slice env) (fun i s₂=>s₂.TypeIs o T/\wpAny (model prog w) A (getItem o i) Q E s₂) E s₁) E s) :
  wpAny (model prog w) A (eval (.Subscript value slice pos) env) Q E s:=by
 refine Subscript_ (wpAny_mono h (fun o s₁ h₁=>wpAny_mono h₁ (fun i s₂ h₂=>?_) fun _ _ x=>x) fun _ _ x=>x)
 obtain ⟨hT,h₂⟩:=h₂
 unfold subscriptTail
 refine wpAny_bind ?_
 rw [getitemInPython_of_ne hT.not_modules]
 refine wpAny_bind (wpAny_specialOf hT hl ?_)
 have fin:wpAny (model prog w) A (subscripted slice false o i) (fun r s₃=>wpAny (model prog w) A (letTemporaryGo value o r >>= fun _=>pure r) Q E s₃) E s₂:=by
  rw [hs o i]
  exact wpAny_operating (wpAny_mono h₂ (fun r s₃ h₃=>wpAny_bind (wpAny_letTemporaryGo (wpAny_pure h₃))) fun _ _ x=>x)
 first
  | exact wpAny_pure (wpAny_bind fin)
  | exact wpAny_bind (wpAny_pure (wpAny_bind fin))
  | exact wpAny_bind fin
theorem zaV {X:Cx} {pins:List (Addr × Obj)} {σ : St} {H:Hp} {s:Shared} {a:Addr} {y:V} {o:Option V} (I:Inv X pins σ H s) (g:vp H a y o):s.TypeIs (.ref a) "dict":=by
 rcases g with ⟨kvs,k,e,_,_⟩ | ⟨kvs,k,b,e,_,_,_⟩
 ·obtain ⟨_,_,vs,_,dd⟩:=js I.hok e
  exact dd.typeIs
 ·obtain ⟨_,_,xs,_,dd⟩:=jr I.hok e
  exact dd.typeIs
def ziC (td ty:TE):TE:=fun σ H Q=>td σ H fun x H1=>ty σ H1 fun y H2=>∃ a v,x = .ref a/\vp H2 a y (some v)/\Q v H2
def zjn (ty td:TE):TE:=fun σ H Q=>ty σ H fun y H1=>td σ H1 fun x H2=>∃ a o,x = .ref a/\vp H2 a y o/\Q (.bl o.isSome) H2
def zfD (ty td:TE):TE:=fun σ H Q=>ty σ H fun y H1=>td σ H1 fun x H2=>∃ a o,x = .ref a/\vp H2 a y o/\Q (.bl (!o.isSome)) H2
def ziQ (td ty tv:TE):TS:=fun D σ H=>tv σ H fun v H1=>td σ H1 fun x H2=>ty σ H2 fun y H3=>∃ a H4,x = .ref a/\zfw H3 a y v H4/\D.nx σ H4
section
variable {X:Cx} {o i e value:Expr} {pos pos' tpos:Pos} {td ty tv:TE}
theorem wW (hu:X.A.units + 1 < cLine) (ho:PE X o td) (hi:PE X i ty) (hs:zir i):PE X (.Subscript o i pos) (ziC td ty):=by
 refine ⟨?_⟩
 intro pins s σ H Q I h
 refine zcc PySem.F.slot_dict_getitem.lookup hs (thn (ho pins s σ H _ I h) fun u s1 ⟨x,H1,I1,rx,q1⟩=>thn (hi pins s1 σ H1 _ I1 q1) fun iv s2 ⟨y,H2,I2,ry,a,v,ex,g,q2⟩=>?_)
 subst ex
 obtain rfl:u = Value.ref a:=rx
 exact ⟨zaV I2 g,zdv hu I2 g ry fun w' s3 I3 rw'=>⟨v,H2,I3,rw',q2⟩⟩
theorem zbG (hu:X.A.units + 1 < cLine) (hi:PE X i ty) (ho:PE X o td):PC X .In i o (zjn ty td):=by
 refine ⟨?_⟩
 intro pins s σ H Q I h
 refine thn (hi pins s σ H _ I h) fun iv s1 ⟨y,H1,I1,ry,q1⟩=>thn (ho pins s1 σ H1 _ I1 q1) fun u s2 ⟨x,H2,I2,rx,a,ov,ex,g,q2⟩=>?_
 subst ex
 obtain rfl:u = Value.ref a:=rx
 exact zjQ hu I2 g ry fun s3 I3=>⟨.bl ov.isSome,H2,I3,rfl,q2⟩
theorem jL (hu:X.A.units + 1 < cLine) (hi:PE X i ty) (ho:PE X o td):PC X .NotIn i o (zfD ty td):=by
 refine ⟨?_⟩
 intro pins s σ H Q I h
 refine thn (hi pins s σ H _ I h) fun iv s1 ⟨y,H1,I1,ry,q1⟩=>thn (ho pins s1 σ H1 _ I1 q1) fun u s2 ⟨x,H2,I2,rx,a,ov,ex,g,q2⟩=>?_
 subst ex
 obtain rfl:u = Value.ref a:=rx
 exact zgI hu I2 g ry fun s3 I3=>⟨.bl (!ov.isSome),H2,I3,rfl,q2⟩
theorem zcw (hu:X.A.units + 1 < cLine) (ho:PE X o td) (hi:PE X i ty) (hv:PE X value tv) (hs:swapsWith value (some (.Subscript o i pos')) pos.line X.env = pure false) :
  PS X (.Assign [.Subscript o i pos'] value pos) (ziQ td ty tv):=by
 refine ⟨?_⟩
 intro pins s σ H D I h
 refine wpAny_Assign_Subscript (thn (hv pins s σ H _ I h) fun r s1 ⟨v,H1,I1,rv,q1⟩=>thn (ho pins s1 σ H1 _ I1 q1) fun u s2 ⟨x,H2,I2,rx,q2⟩=>thn (hi pins s2 σ H2 _ I2 q2) fun iv s3 ⟨y,H3,I3,ry,a,H4,ex,g,q3⟩=>?_) hs
 subst ex
 obtain rfl:u = Value.ref a:=rx
 exact zdu hu I3 g ry rv fun s4 I4=>⟨σ,H4,I4,q3⟩
end
theorem zfn {P:Program} {w:World} {H:Hp} (h:Heap) (hb:sysModules < h.objs.size):yy P w H (h.push { cls:=.type "dict",data:=.dict #[] }) h.objs.size (.dK []):=
 ⟨Nat.zero_le _,beq_eq_false_iff_ne.mpr (Ne.symm (Nat.ne_of_lt hb)),[],.nil,Heap.DictOf.new h⟩
def zhl:TE:=fun _ H Q=>∀ p,H p = none->Q (.ref p) (upd H p (.dK []))
section
variable {X:Cx} {pos:Pos}
theorem zav:PE X (.Dict [] [] pos) zhl:=⟨fun pins s σ H Q I h=>
 wpAny_Dict_empty ⟨.ref s.heap.objs.size,_,I.laid (a:=s.heap.objs.size) (o:=.dK []) (t':=s.toks) (fun _ _ q=>Heap.get?_push_of_some _ q) (Nat.le_refl _) (zfn s.heap I.big),rfl,h _ (I.hok.fresh (Nat.le_refl _))⟩⟩
end
def zhi:List (TE × TE)->St->Hp->(List (V × V)->Hp->Prop)->Prop
 | [],_,H,Q=>Q [] H
 | (tk,tv) :: r,σ,H,Q=>tk σ H fun x H1=>tv σ H1 fun y H2=>zhi r σ H2 fun ps H3=>Q ((x,y) :: ps) H3
structure M1 (X:Cx) (o:Expr) (m:Str) (apos:Pos) (e:Expr) (cpos:Pos):Prop where
 base:attributeBase o m X.env (eval o X.env) = eval o X.env
 few:((backTo cpos (starEach [e] X.env)).all (fun x=>!x.1) && (backToKw cpos (keywordEach [] X.env)).all (fun x=>x.1.isSome)
  && decide (([e]:List Expr).length + ([]:List Keyword).length + (if ([]:List Keyword).isEmpty then 0 else 1) < 30)) = true
 line:(apos.endLine == cpos.line) = true
 trees:backTo cpos (starEach [e] X.env) = [(false,eval e X.env)]
def IsD (H:Hp) (a:Addr):Prop:=(∃ kvs,Rd H a (.dK kvs))\/∃ kvs,Rd H a (.dT kvs)
theorem zif {X:Cx} {pins:List (Addr × Obj)} {σ : St} {H:Hp} {s:Shared} {a:Addr} (I:Inv X pins σ H s) (d:IsD H a) :
  s.TypeIs (.ref a) "dict"/\(∀ b,Value.ref a = .ref b->∃ ob,s.heap.get? b = some ob/\ob.dict = none)/\(a == sysModules) = false:=by
 rcases d with ⟨kvs,e⟩ | ⟨kvs,e⟩
 ·obtain ⟨_,hd,vs,_,dd⟩:=js I.hok e
  refine ⟨dd.typeIs,fun b q=>?_,hd⟩
  cases q
  obtain ⟨ob,_,_,h1,h2,_⟩:=dd
  exact ⟨ob,h1,h2.2.1⟩
 ·obtain ⟨_,hd,xs,_,dd⟩:=jr I.hok e
  refine ⟨dd.typeIs,fun b q=>?_,hd⟩
  cases q
  obtain ⟨ob,_,_,h1,h2,_⟩:=dd
  exact ⟨ob,h1,h2.2.1⟩
section
variable {X:Cx} {pins:List (Addr × Obj)} {σ : St} {H:Hp} {s:Shared} {a:Addr} {y d:V} {u r:Value} {o:Option V} {A:Around} {E:Value->Shared->Prop}
theorem zik {Q:Value->Shared->Prop} (hu:A.units + 1 < cLine) (I:Inv X pins σ H s) (g:vp H a y o) (ry:zR y u) (h:∀ w' s',Inv X pins σ H s'->zR (o.getD .non) w'->Q w' s') :
  wpAny (model X.prog X.w) A (call (.builtin "dict.get") [.ref a,u]) Q E s:=by
 rcases g with ⟨kvs,k,e,ey,l⟩ | ⟨kvs,k,b,e,ey,eb,l⟩
 ·subst ey
  obtain ⟨z,hd,vs,rel,dd⟩:=js I.hok e
  refine call_meetsIn PySem.F.slot_dict_get dd.typeIs PySem.F.entry_dict_get (PySem.F.args_dict_get_2 _ _) (meets_dict_get (yg X.prog X.w) a (jn ry) hd) ⟨_,dd.mapOf,h _ _ (I.tok _) ?_⟩
  rw [l]
  exact (rel.val k).getD rfl
 ·subst ey
  cases (show u = Value.ref b from ry)
  obtain ⟨z,hd,xs,rel,dd⟩:=jr I.hok e
  refine call_meetsIn PySem.F.slot_dict_get dd.typeIs PySem.F.entry_dict_get (PySem.F.args_dict_get_2 _ _) (meetsH_dict_get (tupleKind (yg X.prog X.w)) a b hd) ⟨tupleKind_room_in1 hu,k,xs,ub I.hok eb,dd,h _ _ (I.tok _) ?_⟩
  rw [l]
  exact (rel.val k).getD rfl
end
def zhm (td ty:TE):TE:=fun σ H Q=>td σ H fun x H1=>∃ a,x = .ref a/\IsD H1 a/\ty σ H1 fun y H2=>∃ o,vp H2 a y o/\Q (o.getD .non) H2
section
variable {X:Cx} {o e f:Expr} {apos cpos:Pos} {td ty tx:TE}
theorem zew (hu:X.A.units + 1 < cLine) (ho:PE X o td) (he:PE X e ty) (m:M1 X o "get" apos e cpos):PE X (.Call (.Attribute o "get" apos) [e] [] cpos) (zhm td ty):=by
 refine ⟨?_⟩
 intro pins s σ H Q I h
 refine wpAny_Call_method m.base m.few m.line PySem.F.plainAttrs_dict PySem.F.slot_dict_get PySem.F.type_dict_get (thn (ho pins s σ H _ I h) fun u s1 ⟨x,H1,I1,rx,a,ex,d,q1⟩=>?_)
 subst ex
 obtain rfl:u = Value.ref a:=rx
 obtain ⟨t1,t2,_⟩:=zif I1 d
 refine ⟨t1,t2,?_⟩
 rw [m.trees]
 refine Calls.callWith_builtin rfl (Calls.evalArgs_plain (Calls.spliced_cons (thn (he pins s1 σ H1 _ I1 q1) fun iv s2 ⟨y,H2,I2,ry,ov,g,q2⟩=>Calls.spliced_nil ?_)))
 exact zik hu I2 g ry fun w' s3 I3 rw'=>⟨_,H2,I3,rw',q2⟩
end
section
variable {X:Cx} {pins:List (Addr × Obj)} {σ : St} {H:Hp} {s:Shared} {a:Addr} {kvs:List (Key × V)} {A:Around} {E:Value->Shared->Prop}
end
section
variable {X:Cx} {pins:List (Addr × Obj)} {σ : St} {H:Hp} {s:Shared} {a:Addr} {y:V} {u:Value} {A:Around} {E:Value->Shared->Prop}
end
end L2
namespace Att
open PySem PySem.W PySem.Calls PyProof.Rows
theorem uA {P:Params} {h:Heap}:∀ (ns:List Int) (vs:List Value),WellAll P h vs (ns.map WData.int)->IntsAre vs ns:=by
 intro ns
 induction ns with
 | nil=>
  intro vs w
  rw [List.map_nil] at w
  cases w
  exact .nil
 | cons n ns ih=>
  intro vs w
  rw [List.map_cons] at w
  cases w with
  | cons a b=>
   cases a
   exact .cons _ _ (ih _ b)
theorem zc4 {l:OpenLaw} {n:Nat} (hn:l.most = some n) {P:Params} {h:Heap} {args:List WData} {vals:List Value}
  (hpre:l.row.toRowW.claim.pre args = true) (hwl:WellAll P h vals args) :
  ∃ a vs ns,vals = [Value.ref a]/\args = [WData.list (ns.map WData.int)]/\h.get? a = some { cls:=.type "list",data:=.seq vs.toArray }/\IntsAre vs ns/\ns.length<=n:=by
 have hsh:WShape.hasAll [] args [.list .int] = true:=(pre_splitW hpre).1
 have hc:l.pre.holds [] { args:=args } = true:=(pre_splitW hpre).2
 obtain ⟨d,r,rfl,h1,h2⟩:=hasAllW_cons hsh
 obtain rfl:=hasAllW_nil h2
 obtain ⟨xs,rfl,h3⟩:=hasW_list h1
 obtain ⟨ns,rfl⟩:=items_int h3
 have hlen:ns.length<=n:=by
  unfold OpenLaw.pre at hc
  have h4:(WTm.not (.lt (.lit (.int (n:Int))) (.len (.arg 0)))).holds [] { args:=[.list (ns.map .int)] } = true:=by
   have h4:=(holds_andW hc).1
   rw [hn] at h4
   exact h4
  have h5:=condW_of h4 (w_not (w_lt w_lit (w_len_list (w_arg rfl))))
  rw [List.length_map] at h5
  refine Nat.le_of_not_lt fun q=>?_
  have q':(n:Int) < ((ns.length:Nat):Int):=by omega
  first
   | (rw [decide_eq_true q'] at h5; exact absurd h5 (by decide))
   | (simp at h5; omega)
 cases hwl with
 | cons w1 w2=>
  cases w2
  cases w1 with
  | list ho hall=>exact ⟨_,_,ns,rfl,rfl,ho,uA ns _ hall,hlen⟩
theorem zc9 (l:OpenLaw) (args:List WData):l.row.toRowW.claim.post args (.bool true) args = true:=
 postW_of (r:=l.row.toRowW) (X:=(true == true))
  (show WShape.has [] (.bool true) .bool = true by first | rfl | decide | simp [WShape.has,WShape.arms,WShape.armsAll])
  (show (WTm.eq .res (.lit (.bool true))).value [] { args:=args,res:=some (.bool true),after:=args } = some (.bool (true == true)) from w_eq_bool (w_res rfl) w_lit) rfl
section
variable {prog:Program} {w:World} {A:Around} {E:Value->Shared->Prop} {s:Shared} {K:Frag}
def zjM (h:Heap) (L d:Addr):List (Addr × Obj):=(List.range h.objs.size).filterMap fun a=>if a = L\/a = d then none else (h.get? a).map fun o=>(a,o)
end
end Att
namespace L2
open PySem PySem.Spec PyProof.Rows
theorem jC:∀ {vs:List Value} {ns:List Int},IntsAre vs ns->zS (ns.map V.int) vs
 | _,_,.nil=>.nil
 | _,_,.cons n t h=>.cons ⟨t,rfl⟩ (jC h)
def ziq (H:Hp):Prop:=∀ b,H b = none\/∃ o xs,H b = some (.frz o (.lst xs))
theorem ze7 {P:Program} {w:World} {K:Frag} {mg mb:Str->Option Value} {CX:CXT} {k:Nat} {fa a:Addr} {fd:FuncData} {x:Str} {sp:Sp} {s₁:Shared} {vs:List Value} {ns:List Int}
  (KX:K.In s₁.heap) (hns:s₁.heap.Ns mainGlobals mg) (hb:s₁.heap.Ns builtinsNs mb) (hbb:∀ x:Str,x ≠ "__name__"->mb x = bootBuiltins x) (hlim:s₁.heap.NoLimit) (hg:s₁.gens = #[])
  (ha:s₁.heap.get? a = some { cls:=.type "list",data:=.seq vs.toArray }) (hi:IntsAre vs ns) (hl:ns.length<=sizeLine) (hr:yq k callerA)
  (F:∀ base:Heap,K.In base->base.Ns mainGlobals mg->zA P w K mg base CX k fa fd [x] sp) (hbind:∀ (s:Shared) (u:Value),BindsTo s fd ⟨[u],[]⟩ [(x,u)])
  (hsp:∀ H:Hp,ziq H->SqL K H a (ns.map V.int)->sp [.ref a] H (fun v _=>v = .bl true) fun _ _ _=>False)
  (hCX:∀ H e s',CX [] H s₁ (fun _ _ _=>False) e s'->False) :
  codeAny (model P w) callerA (.call (.ref fa) ⟨[.ref a],[]⟩) (fun r s'=>r = .ok (.ret (.bool true))/\OldK s₁.heap s'.heap/\s'.os = s₁.os/\AllBare s'.gens) s₁:=by
 have rv:=jC hi
 have lenV:=hi.length
 have core:∀ H:Hp,ziq H->SqL K H a (ns.map V.int)->HOk P w H s₁.heap->(∀ b,H b ≠ none->b = a)->(H a ≠ none->K.lookup a = none)->
   codeAny (model P w) callerA (.call (.ref fa) ⟨[.ref a],[]⟩) (fun r s'=>r = .ok (.ret (.bool true))/\OldK s₁.heap s'.heap/\s'.os = s₁.os/\AllBare s'.gens) s₁:=by
  intro H hO hS hok hA hK
  have base_of:∀ {b:Addr} {o:Obj},s₁.heap.get? b = some o->H b = none->(qO s₁.heap H).get? b = some o:=fun e n=>zfc e n
  have noA:∀ {b:Addr} {o:Obj} {es:Array DictEntry} {ep:Nat},s₁.heap.get? b = some o->o.data = .dict es ep->H b = none:=fun {b o es ep} e d=>by
   cases q:H b with
   | none=>rfl
   | some u=>
    have e':b = a:=hA b (by rw [q]; simp)
    subst e'
    rw [ha] at e; cases e
    have d':Data.seq vs.toArray _ = Data.dict es ep:=d
    cases d'
  have nsK:∀ {b:Addr} {m:Str->Option Value},s₁.heap.Ns b m->(qO s₁.heap H).Ns b m:=fun {b m} ⟨o,es,ep,e,d,r⟩=>⟨o,es,ep,base_of e (noA e d),d,r⟩
  have hKb:K.In (qO s₁.heap H):=fun b o e=>base_of (KX b o e) (by
   cases q:H b with
   | none=>rfl
   | some u=>
    have e':b = a:=hA b (by rw [q]; simp)
    subst e'
    rw [hK (by rw [q]; simp)] at e; cases e)
  have hM:Mod K mg (qO s₁.heap H):=⟨hKb,nsK hns,⟨mb,nsK hb,hbb⟩,let ⟨mc,h1,h2⟩:=hlim; ⟨mc,nsK h1,h2⟩⟩
  have e0:zb6 P w K mg (qO s₁.heap H) callerA [] s₁ H:=⟨rfl,hM,fun b o e=>zgp e,Nat.le_of_eq (zdq _ _),trivial,fun b hb=>absurd (show b ∈ ([]:List Addr) from hb) (by simp),hok,.of_eq hg⟩
  refine codeAny_mono ((F _ hKb (nsK hns)).run callerA [] s₁ H ⟨[.ref a],[]⟩ [.ref a] [.ref a] _ _ hr e0 (hbind s₁ (.ref a)) (.cons rfl .nil) (hsp H hO hS)) fun r s' h=>?_
  cases r with
  | error e=>exact (hCX H e s' h).elim
  | ok fl=>
   cases fl with
   | next=>exact False.elim h
   | brk=>exact False.elim h
   | cont=>exact False.elim h
   | ret u=>
    obtain ⟨v,H',os,bare,un,hok',r',q⟩:=h
    have q':v = .bl true:=q
    subst q'
    obtain rfl:u = Value.bool true:=r'
    refine ⟨rfl,OldK.of_keep fun b o e=>?_,os,bare⟩
    cases q:H b with
    | none=>exact un.keep b o e q (by intro z; exact absurd (show b ∈ ([]:List Addr) from z) (by simp)) (by simp)
    | some u=>
     rcases hO b with z | ⟨ob,xs,z⟩
     ·rw [q] at z; cases z
     ·have z2:=un.frzs b ob _ z
      obtain ⟨e1,_⟩:=hok b _ z
      obtain ⟨e2,_⟩:=hok' b _ z2
      rw [e] at e1; cases e1
      exact e2
 cases hk:K.lookup a with
 | some o=>
  have e:=KX a o hk
  rw [ha] at e
  cases e
  refine core (fun _=>none) (fun _=>.inl rfl) (.inr ⟨_,vs.toArray,_,hk,rfl,rfl,rfl,by rw [List.size_toArray,lenV]; exact hl,by simpa using rv⟩) (fun b u z=>by have z':(none:Option HO) = some u:=z; cases z') (fun b z=>absurd rfl z) fun z=>absurd rfl z
 | none=>
  refine core (fun b=>if b = a then some (.frz { cls:=.type "list",data:=.seq vs.toArray } (.lst (ns.map V.int))) else none) (fun b=>?_) (.inl (.inr ⟨{ cls:=.type "list",data:=.seq vs.toArray },if_pos rfl⟩)) (fun b u z=>?_) (fun b z=>?_) fun _=>hk
  ·by_cases hb:b = a
   ·exact .inr ⟨_,_,if_pos hb⟩
   ·exact .inl (if_neg hb)
  ·by_cases hb:b = a
   ·have z':=(if_pos hb).symm.trans z
    cases z'
    subst hb
    exact ⟨ha,by rw [List.length_map]; exact hl,vs,_,rv,ha⟩
   ·have z':=(if_neg hb).symm.trans z
    cases z'
  ·by_cases hb:b = a
   ·exact hb
   ·exact absurd (if_neg hb) z
def yj (s:Stmt) (j:Nat):Stmt:=match s with
 | .ClassDef _ _ _ body _ _ _ _ _ _ _=>body.getD j (.Pass ⟨0,0,0,0⟩)
 | _=>.Pass ⟨0,0,0,0⟩
def z6 (s:Stmt):Arguments:=match s with
 | .FunctionDef _ a _ _ _ _ _ _ _ _=>a
 | _=>{ posonlyargs:=[],args:=[],vararg:=none,kwonlyargs:=[],kw_defaults:=[],kwarg:=none,defaults:=[] }
def zX (s:Stmt):List Stmt:=match s with
 | .FunctionDef _ _ b _ _ _ _ _ _ _=>b
 | _=>[]
def zh (s:Stmt):Scope:=match s with
 | .FunctionDef _ _ _ _ _ _ sc _ _ _=>sc
 | _=>{ kind:=.function,names:=[],isGenerator:=false,isCoroutine:=false }
abbrev CX0:CXT:=fun _ _ _ _ _ _=>False
abbrev E0:XK:=fun _ _ _=>False
theorem yh {X:Cx}:wb CX0 X E0:=fun _ _ _ _ _ _ _ h=>h.elim
structure Fun (K:Frag) (x qual:Str) (st:Stmt) (f:Addr) (fd:FuncData):Prop where
 ex:∃ (oc:Value) (od:Option Addr) (kV doc pm:Value) (an:Option Addr) (cdv ct:Value) (osl:Array (Option Value)),
  fd = fnOf x qual (z6 st) (zX st) (zh st) .none kV doc pm an cdv ct/\K.lookup f = some ⟨oc,od,.func fd,osl⟩/\codeIn K cdv qual = true
 kp:keepIn K (.ref f) = true
section
variable {P:Program} {w:World} {K:Frag} {mg:Str->Option Value} {base:Heap}
theorem Fun.ok {x qual:Str} {st:Stmt} {f:Addr} {fd:FuncData} {N ps:List Str} {k:Nat} {sp:Sp} (F:Fun K x qual st f fd) (S:zt N ps (zh st)) (len:∀ vs H Q E,sp vs H Q E->vs.length = ps.length)
  (hbody:∀ (cdv:Value) (A:Around) (outer:List Env) (s:Shared) (H:Hp) (vs:List V) (Q:VK) (E:XK),yq k (A.deeper (envOfC qual (zh st) s.heap.objs.size f cdv))->sp vs H Q E->
   ∃ t,PSs (zbY CX0 P w K mg base N qual (zh st) f cdv A outer s H E).nox (zX st) t/\t { nx:=fun _ H'=>Q .non H',rt:=Q } (vq N vs) H):zA P w K mg base CX0 (k + 1) f fd ps sp:=by
 obtain ⟨oc,od,kV,doc,pm,an,cdv,ct,osl,rfl,lk,hcd⟩:=F.ex
 refine zha lk hcd S len fun A outer s H vs Q E hr hsp=>?_
 obtain ⟨t,h,q⟩:=hbody cdv A outer s H vs Q E hr hsp
 exact ⟨t,h.nox,q⟩
theorem Fun.binds {x qual:Str} {st:Stmt} {f:Addr} {fd:FuncData} {ps:List Str} (F:Fun K x qual st f fd)
  (h:∀ (kV doc pm:Value) (an:Option Addr) (cdv ct:Value) (us:List Value),us.length = ps.length->bindArgs (fnOf x qual (z6 st) (zX st) (zh st) .none kV doc pm an cdv ct) ⟨us,[]⟩ = pure (ps.zip us)):zV K fd ps []:=by
 obtain ⟨oc,od,kV,doc,pm,an,cdv,ct,osl,rfl,lk,hcd⟩:=F.ex
 exact .all (h kV doc pm an cdv ct)
theorem zfg {x qual:Str} {st:Stmt} {f:Addr} {oc:Value} {od an:Option Addr} {osl:Array (Option Value)} {kV doc pm cdv ct:Value} (l:K.lookup f = some ⟨oc,od,.func (fnOf x qual (z6 st) (zX st) (zh st) .none kV doc pm an cdv ct),osl⟩)
  (c:codeIn K cdv qual = true) (k:keepIn K (.ref f) = true):Fun K x qual st f (fnOf x qual (z6 st) (zX st) (zh st) .none kV doc pm an cdv ct):=⟨⟨oc,od,kV,doc,pm,an,cdv,ct,osl,rfl,l,c⟩,k⟩
end
theorem jU {A:Around} {k:Nat} (hr:yq k A):A.units + 1 < cLine:=Nat.lt_of_le_of_lt (Nat.add_le_add_left (by decide : 1<=64) _) hr.units
theorem zG {n:Nat} (h:n<=1000):n < sizeLine:=Nat.lt_of_le_of_lt h (by decide)
section
variable {X:Cx}
theorem pv (i:Nat) {x:Str} {pos:Pos} (hN:X.N[i]? = some x:=by rfl) (hv:Vis X.env.scope x:=by first | exact Or.inl rfl | exact Or.inr (Or.inl rfl) | exact Or.inr (Or.inr rfl)) (hd:(x == ("__debug__" : Str)) = false:=by decide)
  (hcd:(x == ("__classdict__" : Str)) = false:=by decide):PE X (.Name x pos) (ziv i):=zhU hN hv hd hcd
end
theorem ym {A B:Prop} (h:B):if false = true then A else B:=by
 rw [if_neg Bool.false_ne_true]
 exact h
theorem yT {A B:Prop} (h:A):if true = true then A else B:=by
 rw [if_pos rfl]
 exact h
theorem vI {c A B:Prop} [Decidable c] (h1:c->A) (h2:¬ c->B):if c then A else B:=by
 by_cases h:c
 ·rw [if_pos h]
  exact h1 h
 ·rw [if_neg h]
  exact h2 h
def zm (H H':Hp):Prop:=∀ b o,H b = some o->H' b = some o
theorem zm.refl (H:Hp):zm H H:=fun _ _ h=>h
theorem zm.trans {H H1 H2:Hp} (a:zm H H1) (b:zm H1 H2):zm H H2:=fun c o h=>b c o (a c o h)
theorem zm.free {H H':Hp} (e:zm H H') {l:Addr} (h:H' l = Option.none):H l = Option.none:=by
 cases q:H l with
 | none=>rfl
 | some o=>
  rw [e l o q] at h
  cases h
theorem zm.seq {K:Frag} {H H':Hp} {a:Addr} {xs:List V} (e:zm H H') (h:SqL K H a xs):SqL K H' a xs:=by
 rcases h with (h | ⟨o,h⟩) | h
 ·exact .inl (.inl (e _ _ h))
 ·exact .inl (.inr ⟨o,e _ _ h⟩)
 ·exact .inr h
section
variable {X:Cx}
end
section
variable {κ : Type} [DecidableEq κ]
end
def clB (env:Env) (fr:List Str):List (Str × Addr):=fr.map fun n=>(n,(env.cells.lookup n).getD 0)
theorem za1 {env:Env}:∀ {fr:List Str} {x:Str} {c:Addr},(clB env fr).lookup x = some c->x ∈ fr/\c = (env.cells.lookup x).getD 0
 | [],x,c,h=>by simp [clB] at h
 | n :: r,x,c,h=>by
  have h':List.lookup x ((n,(env.cells.lookup n).getD 0) :: clB env r) = some c:=h
  rw [List.lookup_cons] at h'
  cases e:x == n with
  | true=>
   rw [e] at h'
   have e':x = n:=by simpa using e
   subst e'
   exact ⟨List.mem_cons_self,(Option.some.inj h').symm⟩
  | false=>
   rw [e] at h'
   obtain ⟨h1,h2⟩:=za1 h'
   exact ⟨List.mem_cons_of_mem _ h1,h2⟩
theorem qW {env:Env}:∀ {fr:List Str} {x:Str},x ∈ fr->(clB env fr).lookup x = some ((env.cells.lookup x).getD 0)
 | n :: r,x,h=>by
  show List.lookup x ((n,(env.cells.lookup n).getD 0) :: clB env r) = _
  rw [List.lookup_cons]
  cases e:x == n with
  | true=>
   have e':x = n:=by simpa using e
   subst e'
   rfl
  | false=>
   rcases List.mem_cons.mp h with z | z
   ·subst z; simp at e
   ·exact qW z
theorem wH {env:Env}:∀ {names:List (Str × NameKind)} {x:Str} {k:NameKind},
  (names.map fun (n,k)=>if (k == NameKind.free && env.scope.kind == .function && env.kindOf n == some .cell) then (n,NameKind.cell) else (n,k)).lookup x = some k->
  ∃ k0,(x,k0) ∈ names/\(k = k0\/(k0 = .free/\k = .cell))
 | [],_,_,h=>by simp at h
 | (n,k0) :: r,x,k,h=>by
  have h':List.lookup x ((if (k0 == NameKind.free && env.scope.kind == .function && env.kindOf n == some .cell) = true then (n,NameKind.cell) else (n,k0)) ::
   (r.map fun (n,k)=>if (k == NameKind.free && env.scope.kind == .function && env.kindOf n == some .cell) then (n,NameKind.cell) else (n,k))) = some k:=h
  by_cases hc:(k0 == NameKind.free && env.scope.kind == .function && env.kindOf n == some .cell) = true
  ·rw [if_pos hc,List.lookup_cons] at h'
   cases e:x == n with
   | true=>
    rw [e] at h'
    have e':x = n:=by simpa using e
    subst e'
    simp only [Bool.and_eq_true] at hc
    exact ⟨k0,List.mem_cons_self,.inr ⟨by simpa using hc.1.1,(Option.some.inj h').symm⟩⟩
   | false=>
    rw [e] at h'
    obtain ⟨k1,h1,h2⟩:=wH h'
    exact ⟨k1,List.mem_cons_of_mem _ h1,h2⟩
  ·rw [if_neg hc,List.lookup_cons] at h'
   cases e:x == n with
   | true=>
    rw [e] at h'
    have e':x = n:=by simpa using e
    subst e'
    exact ⟨k0,List.mem_cons_self,.inl (Option.some.inj h').symm⟩
   | false=>
    rw [e] at h'
    obtain ⟨k1,h1,h2⟩:=wH h'
    exact ⟨k1,List.mem_cons_of_mem _ h1,h2⟩
theorem wq {env:Env} (hk:env.scope.kind = .function):∀ {names:List (Str × NameKind)} {x:Str},names.lookup x = some .free->env.kindOf x = some .cell->
  (names.map fun (n,k)=>if (k == NameKind.free && env.scope.kind == .function && env.kindOf n == some .cell) then (n,NameKind.cell) else (n,k)).lookup x = some .cell
 | [],_,h,_=>by simp at h
 | (n,k0) :: r,x,h,hx=>by
  show List.lookup x ((if (k0 == NameKind.free && env.scope.kind == .function && env.kindOf n == some .cell) = true then (n,NameKind.cell) else (n,k0)) ::
   (r.map fun (n,k)=>if (k == NameKind.free && env.scope.kind == .function && env.kindOf n == some .cell) then (n,NameKind.cell) else (n,k))) = some .cell
  rw [List.lookup_cons] at h
  cases e:x == n with
  | true=>
   rw [e] at h
   have e':x = n:=by simpa using e
   subst e'
   have h0:k0 = .free:=Option.some.inj h
   subst h0
   rw [if_pos (by rw [hk,hx]; decide),List.lookup_cons]
   simp
  | false=>
   rw [e] at h
   have ih:=wq hk h hx
   split
   ·rw [List.lookup_cons,e]; exact ih
   ·rw [List.lookup_cons,e]; exact ih
abbrev zN (X:Cx) (pins:List (Addr × Obj)) (sc:Scope) (fr Nc:List Str) (fp:List Addr) (s:Shared) (H:Hp) (C:Addr):Cx:=
 { prog:=X.prog,w:=X.w,K:=X.K,mg:=X.mg,base:=X.base,A:=X.A,N:=Nc,s₀:=s,H₀:=H,env:=compEnvC sc (clB X.env fr) C X.env,outer:=X.stack,stack:=X.stack,ex:=fp,fn:=fun _=>false,calm:=X.calm,pn:=X.pn ++ pins,xe:=fun _ _=>False }
structure yO (env:Env) (sc:Scope) (fr:List Str):Prop where
 kind:sc.kind = .function
 clos:closureFor sc env = pure (clB env fr)
 cells:(fr.all fun n=>(env.cells.lookup n).isSome) = true
 names:(sc.names.all fun y=>(y.2 != .cell) && (y.2 != .free || fr.contains y.1) && (y.2 != .local || sc.names.lookup y.1 == some .local)) = true
def vo (N Nc:List Str) (caps:List (Option Nat)) (env:Env) (sc:Scope) (fr:List Str):Bool:=
 (Nc.zip caps).all fun p=>match p.2 with
  | none=>true
  | some j=>(N[j]? == some p.1) && (env.kindOf p.1 == some .cell) && (sc.names.lookup p.1 == some .free) && fr.contains p.1
def xa (caps:List (Option Nat)) (σ : St):St:=caps.map fun o=>match o with
 | none=>none
 | some j=>(σ[j]?).join
section
variable {X:Cx} {pins:List (Addr × Obj)} {σ : St} {H:Hp} {s:Shared} {sc:Scope} {fr Nc:List Str} {fp:List Addr} {C:Addr}
theorem yO.sub {env:Env} (B:yO env sc fr) {x:Str} {c:Addr} (h:(clB env fr).lookup x = some c):env.cells.lookup x = some c:=by
 obtain ⟨h1,h2⟩:=za1 h
 have h3:=List.all_eq_true.mp B.cells x h1
 obtain ⟨d,hd⟩:=Option.isSome_iff_exists.mp h3
 rw [hd] at h2 |-
 rw [h2]; rfl
theorem yO.free {env:Env} (B:yO env sc fr) {x:Str} {k:NameKind} (h:(relabel sc env).names.lookup x = some k) (hk:k = .cell\/k = .free):x ∈ fr:=by
 obtain ⟨k0,h1,h2⟩:=wH h
 have h3:=List.all_eq_true.mp B.names _ h1
 simp only [Bool.and_eq_true,Bool.or_eq_true,bne_iff_ne,ne_eq,List.contains_iff_mem] at h3
 have h4:k0 = .free:=by
  rcases h2 with h2 | ⟨h2,_⟩
  ·subst h2
   rcases hk with z | z
   ·exact absurd z h3.1.1
   ·exact z
  ·exact h2
 rcases h3.1.2 with z | z
 ·exact absurd h4 z
 ·exact z
theorem zcT (I:Inv X pins σ H s) (B:yO X.env sc fr) (hf:∀ b ∈ fp,wQ X pins H b) (ho:∀ b ∈ fp,∃ o,s.heap.get? b = some o) (hC:s.heap.objs.size<=C):(zN X pins sc fr Nc fp s H C).Ok where
 mod:=I.ok.mod
 kind:=B.kind
 glob:=I.ok.glob
 blt:=I.ok.blt
 above:=hC
 inj:=fun x y c h1 h2=>I.ok.inj x y c (B.sub h1) (B.sub h2)
 has:=fun x h=>by
  have hx:x ∈ fr:=by
   rcases h with h | h
   ·exact B.free h (.inl rfl)
   ·exact B.free h (.inr rfl)
  exact ⟨_,qW hx⟩
 cab:=fun x c h=>absurd h (by simp)
 hd:=I.ok.hd
 frames:=I.ok.frames
 stk:=.inl rfl
 exf:=fun b hb=>by
  obtain ⟨o,e⟩:=ho b hb
  refine ⟨fun z=>?_,fun x c h=>(hf b hb).2.2.2.2.1 x c (B.sub h)⟩
  have z':b = C:=z
  have:=Heap.lt_size e
  rw [z'] at this
  exact absurd (Nat.lt_of_lt_of_le this hC) (Nat.lt_irrefl _)
 bs:=I.bs
 bsz:=Nat.le_trans I.ok.bsz I.sz
 noex:=fun b o e hb=>by
  rcases (hf b hb).2.2.2.1 with z | z
  ·exact I.ok.noex b o e z
  ·exact absurd (Nat.lt_of_lt_of_le (Heap.lt_size (I.ok.bs b o e).1) z) (Nat.lt_irrefl _)
 exfs:=fun b hb h=>by
  rcases List.mem_cons.mp (I.stkSub b h) with z | z
  ·exact (hf b hb).2.1 z
  ·exact (hf b hb).2.2.1 z
 funs:=I.stack
 frf:=I.stkFree
theorem Inv.pin_lt (I:Inv X pins σ H s) {p:Addr × Obj} (hp:p ∈ X.pn ++ pins):p.1 < s.heap.objs.size:=Heap.lt_size (I.pin p hp).1
theorem zbZ {caps:List (Option Nat)} {h':Heap} {D:Addr} {m:Str->Option Value} {t' n0:Nat} (I:Inv X pins σ H s) (B:yO X.env sc fr) (hf:∀ b ∈ fp,wQ X pins H b) (ho:∀ b ∈ fp,∃ o,s.heap.get? b = some o)
  (hC:s.heap.objs.size<=C) (hD:s.heap.objs.size<=D) (hDC:D ≠ C) (keep:∀ b o,s.heap.get? b = some o->h'.get? b = some o) (hl:h'.get? D = some { cls:=.type "list",data:=.seq ([]:List Value).toArray n0 }) (hn:h'.Ns C m)
  (hcap:vo X.N Nc caps X.env sc fr = true) (hlen:caps.length = Nc.length) :
  Inv (zN X pins sc fr Nc fp s H C) [] (xa caps σ) (upd H D (.lst [])) { s with heap:=h',toks:=t' }:=by
 have hk:X.env.scope.kind = .function:=I.ok.kind
 have fresh:∀ a,s.heap.objs.size<=a->H a = none:=fun a ha=>I.hok.fresh ha
 refine ⟨zcT I B hf ho hC,rfl,I.bare,Un.laid keep hD (fresh D hD),⟨m,hn,fun i x v e1 e2 e3=>?_⟩,fun x c h=>?_,?_,fun x c h=>?_,fun p hp=>?_,?_,?_⟩
 ·
  have e2':(caps[i]?).map (fun o=>match o with | none=>none | some j=>(σ[j]?).join) = some (some v):=by
   have:(xa caps σ)[i]? = some (some v):=e2
   unfold xa at this
   rw [List.getElem?_map] at this
   exact this
  cases hc:caps[i]? with
  | none=>rw [hc] at e2'; cases e2'
  | some o=>
   rw [hc] at e2'
   cases o with
   | none=>simp at e2'
   | some j=>
    have e4:(σ[j]?).join = some v:=by simpa using e2'
    have e5 : σ[j]? = some (some v):=by
     cases q : σ[j]? with
     | none=>rw [q] at e4; cases e4
     | some w'=>rw [q] at e4; simp at e4; rw [e4]
    have e6:(Nc.zip caps)[i]? = some (x,some j):=by
     rw [List.getElem?_zip_eq_some]
     exact ⟨e1,hc⟩
    have e7:=List.all_eq_true.mp hcap _ (List.mem_of_getElem? e6)
    simp only [Bool.and_eq_true,beq_iff_eq,List.contains_iff_mem] at e7
    obtain ⟨⟨⟨a1,a2⟩,a3⟩,a4⟩:=e7
    obtain ⟨m0,hn0,hl0⟩:=I.loc
    obtain ⟨u,r,l⟩:=hl0 j x v a1 e5 (.inr (.inl a2))
    refine ⟨u,r,.inr ⟨.inl (wq hk a3 a2),_,qW a4,?_⟩⟩
    rcases l with ⟨z,_⟩ | ⟨_,c,ec,hcell⟩
    ·rw [a2] at z; cases z
    ·have:(X.env.cells.lookup x).getD 0 = c:=by rw [ec]; rfl
     rw [this]
     exact hcell.keeps keep
 ·obtain ⟨v,hv⟩:=I.cell x c (B.sub h)
  exact ⟨v,hv.keeps keep⟩
 ·show upd H D (.lst []) C = none
  rw [zg (Ne.symm hDC)]; exact fresh C hC
 ·obtain ⟨v,hv⟩:=I.cell x c (B.sub h)
  have:c ≠ D:=fun z=>by have:=hv.lt; rw [z] at this; exact absurd (Nat.lt_of_lt_of_le this hD) (Nat.lt_irrefl _)
  rw [zg this]; exact I.freeC x c (B.sub h)
 ·have hp':p ∈ X.pn ++ pins:=by simpa using hp
  obtain ⟨e,n,ne,nf,d⟩:=I.pin p hp'
  have hlt:=I.pin_lt hp'
  refine ⟨keep _ _ e,?_,?_,fun z=>?_,d⟩
  ·rw [zg (fun z=>by rw [z] at hlt; exact absurd (Nat.lt_of_lt_of_le hlt hD) (Nat.lt_irrefl _))]; exact n
  ·intro z
   have z':p.1 = C:=z
   rw [z'] at hlt; exact absurd (Nat.lt_of_lt_of_le hlt hC) (Nat.lt_irrefl _)
  ·rcases List.mem_cons.mp (I.stkSub p.1 z) with q | q
   ·exact ne q
   ·exact nf q
 ·exact I.hok.laid keep hD ⟨Nat.zero_le _,[],n0,.nil,hl⟩
 ·show (xa caps σ).length = Nc.length
  unfold xa
  rw [List.length_map,hlen]
theorem uf {pl:List (Addr × Obj)} {σ':St} {H':Hp} {s':Shared} (I:Inv X pins σ H s) (hf:∀ b ∈ fp,wQ X pins H b) (J:Inv (zN X pins sc fr Nc fp s H C) pl σ' H' s'):Inv X pins σ H' s':=
 I.call' J.os J.base J.hok J.bare fun b hb=>⟨(hf b hb).2.2.2.1,(hf b hb).2.1,(hf b hb).2.2.2.2.1,(hf b hb).2.2.2.2.2⟩
theorem j5 {pl:List (Addr × Obj)} {σ' σ2:St} {H':Hp} {s':Shared} {h2:Heap} {t2:Nat} (I:Inv X pins σ H s) (J:Inv (zN X pins sc fr Nc fp s H C) pl σ' H' s') (J2:Inv X pins σ2 H' s') (hs:Heap.SameBut C s'.heap h2):Inv X pins σ2 H' { s' with heap:=h2,toks:=t2 }:=by
 have hC:s.heap.objs.size<=C:=J.ok.above
 refine J2.turned (it:=C) (fun b o hb e=>(hs.2 b hb).trans e) J.free ?_ (.inr (Nat.le_trans I.sz hC)) (fun x c h z=>?_) fun p hp z=>?_
 ·intro z
  have:=I.lt
  rw [<- z] at this
  exact absurd (Nat.lt_of_lt_of_le this hC) (Nat.lt_irrefl _)
 ·obtain ⟨v,hv⟩:=I.cell x c h
  have:=hv.lt
  rw [z] at this
  exact absurd (Nat.lt_of_lt_of_le this hC) (Nat.lt_irrefl _)
 ·have:=I.pin_lt hp
  rw [z] at this
  exact absurd (Nat.lt_of_lt_of_le this hC) (Nat.lt_irrefl _)
end
def ziw:TT:=fun _ H Q=>Q true H
structure PIf (X:Cx) (ifs:List Expr) (t:TT):Prop where
 run:∀ (pins:List (Addr × Obj)) (s:Shared) (σ : St) (H:Hp) (Q:Bool->Hp->Prop),Inv X pins σ H s->t σ H Q->
  wpAny (model X.prog X.w) X.A (forIn ifs true fun c r=>if r = true then do let ok <- isTrue c X.env (eval c X.env); pure (ForInStep.yield ok) else pure (ForInStep.yield r)) (TP X pins σ Q) X.xe s
instance {X:Cx} {ifs:List Expr} {t:TT}:CoeFun (PIf X ifs t) (fun _=>∀ (pins:List (Addr × Obj)) (s:Shared) (σ : St) (H:Hp) (Q:Bool->Hp->Prop),Inv X pins σ H s->t σ H Q->
  wpAny (model X.prog X.w) X.A (forIn ifs true fun c r=>if r = true then do let ok <- isTrue c X.env (eval c X.env); pure (ForInStep.yield ok) else pure (ForInStep.yield r)) (TP X pins σ Q) X.xe s):=⟨PIf.run⟩
theorem yB {X:Cx}:PIf X [] ziw:=⟨fun _ _ _ H _ I h=>wpAny_tests_nil ⟨H,I,h⟩⟩
theorem xr {X:Cx} {c:Expr} {t:TT} (hc:PT X c t):PIf X [c] t:=⟨fun pins s σ H Q I h=>wpAny_tests_one (hc pins s σ H Q I h)⟩
def zb4 (g:TG) (ow:List Nat):Prop:=
 ∀ (v:V) (σ : St) (H:Hp) (Q:St->Hp->Prop),g v σ H Q->g v σ H fun σ2 H2=>Q σ2 H2/\σ2.length = σ.length/\∀ i,i ∉ ow->σ2[i]? = σ[i]?
theorem zM (i:Nat):zb4 (zB i) [i]:=fun v σ H Q h=>⟨h,List.length_set ..,fun j hj=>List.getElem?_set_ne (fun e=>hj (by simp [e]))⟩
theorem w4 {K:Frag} {n:Nat} (i j:Nat):zb4 (zi6 K n (zff (zB i) (zff (zB j) zi7))) [i,j]:=by
 rintro v σ H Q ⟨a,xs,e1,e2,e3,v1,r1,e4,v2,r2,e5,e6,q⟩
 refine ⟨a,xs,e1,e2,e3,v1,r1,e4,v2,r2,e5,e6,q,by rw [List.length_set,List.length_set],fun k hk=>?_⟩
 have h1:i ≠ k:=fun e=>hk (by simp [e])
 have h2:j ≠ k:=fun e=>hk (by simp [e])
 rw [List.getElem?_set_ne h2,List.getElem?_set_ne h1]
section
variable {prog:Program} {w:World} {A:Around} {R:Result->Shared->Prop} {s:Shared}
theorem qU {elt target iter:Expr} {ifs:List Expr} {scope:Scope} {pos:Pos} {it acc:Value} {env:Env} (I:Nat->Shared->Prop)
  (turn:∀ n s,I n s->wpAny (model prog w) A (pyNext it) (fun r s₁=>match r with
   | none=>R (.ok .next) s₁
   | some v=>wpAny (model prog w) A (letOwnedTupleGo target it v) (fun _ s₀=>wpAny (model prog w) A (assign target env v) (fun _ s₂=>
     wpAny (model prog w) A (forIn ifs true fun c r=>if r = true then do let ok <- isTrue c env (eval c env); pure (ForInStep.yield ok) else pure (ForInStep.yield r)) (fun ok s₃=>
      if ok = true then wpAny (model prog w) A (eval elt env) (fun x s₄=>
       wpAny (model prog w) A (call (.builtin "list.append") [acc,x]) (fun _ s₅=>∃ m,m < n/\I m s₅) (fun _ _=>False) s₄) (fun _ _=>False) s₃
      else ∃ m,m < n/\I m s₃) (fun _ _=>False) s₂) (fun _ _=>False) s₀) (fun _ _=>False) s₁) (fun _ _=>False) s)
  (n:Nat) (h:I n s) :
  codeAny (model prog w) A (.compLoop (.ListComp elt [⟨target,iter,ifs,0⟩] scope pos) 0 it acc env) R s:=by
 refine codeAny_loop rfl I (fun n s hI=>?_) n h
 show wpAny _ A ((compTurn (.ListComp elt [⟨target,iter,ifs,0⟩] scope pos) 0 it acc env).onRaise (fun x=>do noteFrame x env; theTreesLotGoes x)) _ _ s
 refine wpAny_noted ?_
 rw [compTurn_list]
 refine wpAny_bind (wpAny_standAt (wpAny_bind (wpAny_mono (turn n s hI) (fun r s₁ h₁=>?_) fun _ _ z=>z.elim)))
 cases r with
 | none=>exact wpAny_pure h₁
 | some v=>
  refine wpAny_bind (wpAny_mono h₁ (fun _ s₀ h₀=>?_) fun _ _ z=>z.elim)
  refine wpAny_bind (wpAny_mono h₀ (fun _ s₂ h₂=>wpAny_bind (wpAny_mono h₂ (fun ok s₃ h₃=>?_) fun _ _ z=>z.elim)) fun _ _ z=>z.elim)
  cases ok with
  | false=>exact wpAny_pure ⟨rfl,h₃⟩
  | true=>
   exact wpAny_bind (wpAny_bind (wpAny_mono h₃ (fun x s₄ h₄=>wpAny_bind (wpAny_mono h₄ (fun _ s₅ h₅=>wpAny_pure (wpAny_pure ⟨rfl,h₅⟩)) fun _ _ z=>z.elim)) fun _ _ z=>z.elim))
end
def LCr (J:It) (caps:List (Option Nat)) (g:TG) (tt:TT) (te:TE) (σ : St) (H1:Hp) (Q:VK) (D:Addr):Prop:=
 ∃ W:Nat->Nat->List V->Hp->Prop,(∃ m,W 0 m [] (upd H1 D (.lst [])))/\∀ i m ys H,W i m ys H->
  (J.stop i H/\Q (.ref D) H)\/
  (J.go i H/\∀ x H',J.yld i H x H'->g x (xa caps σ) H' fun σ2 H2=>tt σ2 H2 fun ok H3=>
   (ok = true->te σ2 H3 fun v H4=>H4 D = some (.lst ys)/\ys.length < sizeLine/\∃ m',m' < m/\W (i + 1) m' (ys ++ [v]) (upd H4 D (.lst (ys ++ [v]))))/\
   (ok = false->∃ m',m' < m/\W (i + 1) m' ys H3))
def tLC (wi:TI) (caps:List (Option Nat)) (g:TG) (tt:TT) (te:TE):TE:=fun σ H Q=>wi σ H fun J H1=>∀ D,H1 D = none->LCr J caps g tt te σ H1 Q D
section
variable {X:Cx} {pins:List (Addr × Obj)} {σ : St} {s:Shared} {sc:Scope} {fr Nc:List Str} {caps:List (Option Nat)} {elt tg iter:Expr} {ifs:List Expr} {g:TG} {tt:TT} {te:TE} {ow:List Nat} {pos pos2:Pos} {E:Value->Shared->Prop}
theorem za0 {H2:Hp} {it:Addr} {fp:List Addr} {tn:Nat->Heap->Prop} {J:It} {Q:VK} {RR:Value->Addr->Result->Shared->Prop}
  (hc:X.calm = true) (B:yO X.env sc fr) (go:zb4 g ow) (how:(ow.all fun i=>caps[i]? == some none) = true) (hcap:vo X.N Nc caps X.env sc fr = true) (hlen:caps.length = Nc.length)
  (hb:∀ (pins:List (Addr × Obj)) (fp:List Addr) (s:Shared) (H:Hp) (C:Addr),PG (zN X pins sc fr Nc fp s H C) tg g/\PIf (zN X pins sc fr Nc fp s H C) ifs tt/\PE (zN X pins sc fr Nc fp s H C) elt te)
  (I2:Inv X pins σ H2 s) (T:zaa X.prog X.w X.K tg J fp it tn) (st2:tn 0 s.heap) (f2:∀ b ∈ fp,wQ X pins H2 b) (h:∀ D,H2 D = none->LCr J caps g tt te σ H2 Q D)
  (fin:∀ (D C:Addr) (σ':St) (H':Hp) (s':Shared),Inv (zN X pins sc fr Nc fp s H2 C) [] σ' H' s'->Q (.ref D) H'->RR (.ref D) C (.ok .next) s') :
  wpAny (model X.prog X.w) X.A (newList []) (fun acc s₃=>wpAny (model X.prog X.w) X.A (newFunctionEnv sc X.env.globals (clB X.env fr) [] X.env.qual none .none (some X.env)) (fun cenv s₄=>
   codeAny (model X.prog X.w) X.A (.compStart (.ListComp elt [⟨tg,iter,ifs,0⟩] sc pos) 0 (.ref it) acc { cenv with scope:=relabel sc X.env }) (RR acc cenv.locals) s₄) E s₃) E s:=by
 have hcell:∀ y ∈ sc.names,y.2 ≠ .cell:=fun y hy=>by
  have h3:=List.all_eq_true.mp B.names _ hy
  simp only [Bool.and_eq_true,bne_iff_ne,ne_eq] at h3
  exact h3.1.1
 refine wpAny_newObj_type (wpAny_newFunctionEnv hcell (by intro y hy; simp at hy) (fun h₁ hns₁ hsb₁=>?_) B.kind)
 dsimp only at hns₁ hsb₁ |-
 generalize hH2:s.heap.push { cls:=.type "list",dict:=none,data:=.seq ([]:List Value).toArray } = H3 at hns₁ hsb₁ |-
 have hCs:H3.objs.size = s.heap.objs.size + 1:=by rw [<- hH2,Heap.size_push]
 have hDC:s.heap.objs.size ≠ H3.objs.size:=by rw [hCs]; exact Nat.ne_of_lt (Nat.lt_succ_self _)
 have hC:s.heap.objs.size<=H3.objs.size:=by rw [hCs]; exact Nat.le_succ _
 have old:∀ b o,s.heap.get? b = some o->h₁.get? b = some o:=fun b o e=>
  hsb₁.extBut b o (Nat.ne_of_lt (Nat.lt_of_lt_of_le (Heap.lt_size e) hC)) (Heap.get?_push_of_some _ (hH2 ▸ Heap.get?_push_of_some _ e))
 have hD:h₁.get? s.heap.objs.size = some { cls:=.type "list",data:=.seq ([]:List Value).toArray }:=hsb₁.extBut _ _ hDC (Heap.get?_push_of_some _ (hH2 ▸ Heap.get?_push_size _ rfl))
 have ho:∀ b ∈ fp,∃ o,s.heap.get? b = some o:=fun b hb'=>let ⟨o,e,_⟩:=T.obj 0 _ st2 b hb'; ⟨o,e⟩
 have I4:∀ t',Inv (zN X pins sc fr Nc fp s H2 H3.objs.size) [] (xa caps σ) (upd H2 s.heap.objs.size (.lst [])) { s with heap:=h₁,toks:=t' }:=fun t'=>
  zbZ I2 B f2 ho hC (Nat.le_refl _) hDC old hD hns₁ hcap hlen
 have ok:=(I4 0).ok
 obtain ⟨hbg,hbt,hbe⟩:=hb pins fp s H2 H3.objs.size
 obtain ⟨W,⟨m0,w0⟩,turn⟩:=h s.heap.objs.size (I2.hok.fresh (Nat.le_refl _))
 have stat:∀ {H':Hp},(∀ b ∈ fp,H' b = none)->∀ b ∈ fp,wQ (zN X pins sc fr Nc fp s H2 H3.objs.size) [] H' b:=fun hn b hb'=>
  ⟨hn b hb',(ok.exf b hb').1,ok.exfs b hb',.inl hb',(ok.exf b hb').2,fun p hp=>(f2 b hb').2.2.2.2.2 p (by simpa using hp)⟩
 have hfp0:∀ b ∈ fp,upd H2 s.heap.objs.size (.lst []) b = none:=fun b hb'=>by
  obtain ⟨o,e⟩:=ho b hb'
  rw [zg (Nat.ne_of_lt (Heap.lt_size e))]
  exact (f2 b hb').1
 have loop:∀ s₃:Shared,s₃ = { s with heap:=h₁,toks:=s.toks + ([]:List (Str × Value)).length }->
   codeAny (model X.prog X.w) X.A (.compLoop (.ListComp elt [⟨tg,iter,ifs,0⟩] sc pos) 0 (.ref it) (.ref s.heap.objs.size) (compEnvC sc (clB X.env fr) H3.objs.size X.env)) (RR (.ref s.heap.objs.size) H3.objs.size) s₃:=by
  rintro s₃ rfl
  refine qU (fun n s'=>∃ i σ' H' ys,Inv (zN X pins sc fr Nc fp s H2 H3.objs.size) [] σ' H' s'/\tn i s'.heap/\(∀ b ∈ fp,H' b = none)/\W i n ys H'/\
   (∀ (k:Nat) (v:V),(xa caps σ)[k]? = some (some v)->σ'[k]? = some (some v))) ?_ m0
   ⟨0,_,_,[],I4 _,T.keep _ _ _ st2 (fun b _ o e=>old b o e),hfp0,w0,fun _ _ e=>e⟩
  rintro n s3 ⟨i,σ3,H4,ys,I3,st3,fr3,w3,wk3⟩
  have I3':Inv (zN X pins sc fr Nc fp s H2 H3.objs.size) [] (xa caps σ) H4 s3:=I3.weak (by rw [I3.len]; exact (I4 0).len) wk3
  rcases turn i n ys H4 w3 with ⟨stop,qn⟩ | ⟨gg,step⟩
  ·refine thn (T.done (zN X pins sc fr Nc fp s H2 H3.objs.size) rfl rfl rfl hc i [] s3 _ H4 (fun _ _=>False) I3' (stat fr3) st3 stop) fun r s4 ⟨hr,I4'⟩=>?_
   subst hr
   exact fin _ _ _ _ _ I4' qn
  ·refine thn (T.item (zN X pins sc fr Nc fp s H2 H3.objs.size) rfl rfl rfl hc i [] s3 _ H4 (fun _ _=>False) I3' (stat fr3) st3 gg) fun r s4 ⟨u,hr,h4⟩=>?_
   subst hr
   refine thn h4 fun _ s5 ⟨x,H5,I5,r5,y5,st5,fr5⟩=>?_
   have I5':=I5.pinned (stat fr5) (T.obj _ _ st5)
   refine thn (hbg _ s5 _ H5 x u _ I5' r5 (go _ _ _ _ (step x H5 y5))) fun _ s6 ⟨σ6,H6,I6,q6,l6,k6⟩=>?_
   have wk6:∀ (k:Nat) (v:V),(xa caps σ)[k]? = some (some v)->σ6[k]? = some (some v):=fun k v e=>by
    rw [k6 k fun hk=>?_]
    ·exact e
    ·have h1:=List.all_eq_true.mp how k hk
     have h2:caps[k]? = some none:=by simpa using h1
     unfold xa at e
     rw [List.getElem?_map,h2] at e
     cases e
   refine thn (hbt _ s6 σ6 H6 _ I6 q6) fun ok s7 ⟨H7,I7,q7⟩=>?_
   have again:∀ {H8:Hp} {s8:Shared} {ys':List V},Inv (zN X pins sc fr Nc fp s H2 H3.objs.size) ([] ++ vU fp s5.heap) σ6 H8 s8->(∃ m',m' < n/\W (i + 1) m' ys' H8)->
     ∃ m,m < n/\∃ i σ' H' ys,Inv (zN X pins sc fr Nc fp s H2 H3.objs.size) [] σ' H' s8/\tn i s8.heap/\(∀ b ∈ fp,H' b = none)/\W i m ys H'/\(∀ (k:Nat) (v:V),(xa caps σ)[k]? = some (some v)->σ'[k]? = some (some v)):=fun {H8 s8 ys'} I8 ⟨m',hm,w8⟩=>by
    refine ⟨m',hm,i + 1,σ6,H8,ys',I8.unpinned,T.keep _ _ _ st5 fun b hb' o e=>(I8.pin (b,o) (List.mem_append_right _ (List.mem_append_right _ (xn hb' e)))).1,fun b hb'=>?_,w8,wk6⟩
    obtain ⟨o,e,d⟩:=T.obj _ _ st5 b hb'
    exact (I8.pin (b,o) (List.mem_append_right _ (List.mem_append_right _ (xn hb' e)))).2.1
   cases ok with
   | false=>
    rw [if_neg Bool.false_ne_true]
    exact again I7 (q7.2 rfl)
   | true=>
    rw [if_pos rfl]
    refine thn (hbe _ s7 σ6 H7 _ I7 (q7.1 rfl)) fun uv s8 ⟨v,H8,I8,r8,hD8,hz,q8⟩=>?_
    refine thn (zL (X:=zN X pins sc fr Nc fp s H2 H3.objs.size) _ s8 σ6 H8 (.ref s.heap.objs.size) [v] _ [uv] (fun _ H'=>H' = upd H8 s.heap.objs.size (.lst (ys ++ [v]))) I8 rfl (.cons r8 .nil) ⟨_,ys,v,rfl,rfl,hD8,hz,rfl⟩) fun _ s9 ⟨_,H9,I9,_,e9⟩=>?_
    subst e9
    exact again I9 q8
 exact codeAny_compStart_list (loop _ rfl) (T.self _ 0 _ _ _ (T.keep _ _ _ st2 (fun b _ o e=>old b o e)) (loop _ rfl))
theorem yO.loc {env:Env} (B:yO env sc fr):∀ x ∈ sc.names,x.2 = .local->sc.names.lookup x.1 = some .local:=fun y hy e=>by
 have h3:=List.all_eq_true.mp B.names _ hy
 simp only [Bool.and_eq_true,Bool.or_eq_true,bne_iff_ne,ne_eq,beq_iff_eq] at h3
 rcases h3.2 with z | z
 ·exact absurd e z
 ·exact z
theorem xz {wi:TI} (fr Nc:List Str) (caps:List (Option Nat)) (hc:X.calm = true) (B:yO X.env sc fr) (hi:PI X tg iter wi) (go:zb4 g ow) (how:(ow.all fun i=>caps[i]? == some none) = true)
  (hcap:vo X.N Nc caps X.env sc fr = true) (hlen:caps.length = Nc.length)
  (hb:∀ (pins:List (Addr × Obj)) (fp:List Addr) (s:Shared) (H:Hp) (C:Addr),PG (zN X pins sc fr Nc fp s H C) tg g/\PIf (zN X pins sc fr Nc fp s H C) ifs tt/\PE (zN X pins sc fr Nc fp s H C) elt te)
  (hs:∀ x,foldedSetIterable iter X.env x = pure x:=by intro _; rfl):PE X (.ListComp elt [⟨tg,iter,ifs,0⟩] sc pos) (tLC wi caps g tt te):=by
 refine ⟨?_⟩
 intro pins s σ H Q I h
 rw [eval_ListComp]
 refine wpAny_comprehension_free (use:=none) rfl hs B.clos B.kind B.loc (thn (hi pins s σ H _ I h) fun v s1 h1=>thn h1 fun itv s2 h2=>?_)
 obtain ⟨it,fp,tn,J,H2,e,I2,T,st2,f2,q⟩:=h2
 subst e
 refine za0 (RR:=fun acc C=>compPost (model X.prog X.w) X.A X.xe none (EP X pins σ Q) acc C) hc B go how hcap hlen hb I2 T st2 f2 q ?_
 intro D C σ' H' s' J' qq
 obtain ⟨m,hn,_⟩:=J'.loc
 exact ⟨m,hn,fun h' hs'=>⟨.ref D,H',j5 I2 J' (uf I2 f2 J') hs',rfl,qq⟩⟩
theorem vg {wi:TI} {i:Nat} {x:Str} {pos':Pos} (fr Nc:List Str) (caps:List (Option Nat)) (hN:X.N.Nodup) (hix:X.N[i]? = some x) (hx:Loc X.env.scope x) (hc:X.calm = true) (B:yO X.env sc fr) (hi:PI X tg iter wi) (go:zb4 g ow) (how:(ow.all fun i=>caps[i]? == some none) = true)
  (hcap:vo X.N Nc caps X.env sc fr = true) (hlen:caps.length = Nc.length)
  (hb:∀ (pins:List (Addr × Obj)) (fp:List Addr) (s:Shared) (H:Hp) (C:Addr),PG (zN X pins sc fr Nc fp s H C) tg g/\PIf (zN X pins sc fr Nc fp s H C) ifs tt/\PE (zN X pins sc fr Nc fp s H C) elt te)
  (hsw:swapsWith (.ListComp elt [⟨tg,iter,ifs,0⟩] sc pos) (some (.Name x pos')) pos2.line X.env = pure true:=by rfl)
  (hs:∀ x,foldedSetIterable iter X.env x = pure x:=by intro _; rfl) (hf:X.fn x = true\/X.env.scope.names.lookup x = some .local:=by first | exact .inl rfl | exact .inr rfl | assumption) :
  PS X (.Assign [.Name x pos'] (.ListComp elt [⟨tg,iter,ifs,0⟩] sc pos) pos2) (zho (tLC wi caps g tt te) (zB i)):=by
 refine ⟨?_⟩
 intro pins s σ H D0 I h
 rw [exec_Assign_Name_used _ _ _ _ hsw]
 refine wpAny_bind (wpAny_standAt (wpAny_bind ?_))
 show wpAny _ X.A (do let _ <- comprehension (.ListComp elt [⟨tg,iter,ifs,0⟩] sc pos) sc X.env _ (newList []) false (eval iter X.env) (some (assign (.Name x pos') X.env))) _ _ s
 refine wpAny_bind (wpAny_mono (wpAny_comprehension_free (use:=some (assign (.Name x pos') X.env)) (Q:=fun _ s'=>SP X pins D0 .next s') rfl hs B.clos B.kind B.loc
  (thn (hi pins s σ H _ I h) fun v s1 h1=>thn h1 fun itv s2 h2=>?_)) (fun _ s' hq=>wpAny_pure (wpAny_pure hq)) fun _ _ e=>e)
 obtain ⟨it,fp,tn,J,H2,e,I2,T,st2,f2,q⟩:=h2
 subst e
 refine za0 (Q:=fun v H1=>zB i v σ H1 D0.nx) (RR:=fun acc C=>compPost (model X.prog X.w) X.A X.xe (some (assign (.Name x pos') X.env)) (fun _ s'=>SP X pins D0 .next s') acc C) hc B go how hcap hlen hb I2 T st2 f2 q ?_
 intro D C σ' H' s' J' qq
 have I':=uf I2 f2 J'
 obtain ⟨m,hn,_⟩:=J'.loc
 have hC:s2.heap.objs.size<=C:=J'.ok.above
 show wpAny _ X.A (assign (.Name x pos') X.env (.ref D)) _ _ s'
 refine wpAny_assign_Name (jF (v:=.ref D) I' hN hix hx rfl (fun s'' I'' ⟨a,sb,ha⟩=>?_) hf)
 have haC:C ≠ a:=by
  rintro rfl
  rcases ha with z | z
  ·have:=I2.lt
   rw [<- z] at this
   exact absurd (Nat.lt_of_lt_of_le this hC) (Nat.lt_irrefl _)
  ·obtain ⟨v,hv⟩:=I2.cell x C z
   exact absurd (Nat.lt_of_lt_of_le hv.lt hC) (Nat.lt_irrefl _)
 have hCH:H' C = none:=J'.free
 refine ⟨m,hn.sameBut sb haC,fun h' hs'=>⟨_,H',?_,qq⟩⟩
 refine I''.turned (it:=C) (t':=s''.toks) (fun b o hb e=>(hs'.2 b hb).trans e) hCH ?_ (.inr (Nat.le_trans I2.sz hC)) (fun x c h z=>?_) fun p hp z=>?_
 ·intro z
  have:=I2.lt
  rw [<- z] at this
  exact absurd (Nat.lt_of_lt_of_le this hC) (Nat.lt_irrefl _)
 ·obtain ⟨v,hv⟩:=I2.cell x c h
  have:=hv.lt
  rw [z] at this
  exact absurd (Nat.lt_of_lt_of_le this hC) (Nat.lt_irrefl _)
 ·have:=I2.pin_lt hp
  rw [z] at this
  exact absurd (Nat.lt_of_lt_of_le this hC) (Nat.lt_irrefl _)
end
def Its (z:Str):It:=⟨fun i _=>i < z.cps.size,fun i H x H'=>H' = H/\∃ c,z.cps[i]? = some c/\x = .str ⟨#[c]⟩,fun i _=>z.cps.size<=i⟩
theorem zdS {P:Program} {w:World} {K:Frag} {tg:Expr} (it:Addr) (z:Str) (t:Tok):zaa P w K tg (Its z) [it] it (fun i h=>h.IsStrIter it (strIterType z) z t i) where
 mem:=by simp
 obj:=fun i h st b hb=>by
  have e:b = it:=by simpa using hb
  subst e
  obtain ⟨o,e,_,d⟩:=st
  exact ⟨o,e,fun v q=>by rw [d] at q; cases q⟩
 keep:=fun i h h' st k=>by
  obtain ⟨o,e,r⟩:=st
  exact ⟨o,k it (by simp) o e,r⟩
 item:=by
  intro X hP hw hK hc i pins s σ H E I hf st hg
  subst hP hw hK
  obtain ⟨f0,f1,f2,f3,f4,f5⟩:=hf it (by simp)
  have hi:i < z.cps.size:=hg
  have hx:z.cps[i]? = some z.cps[i]:=by simp [hi]
  have fin:∀ h',h'.IsStrIter it (strIterType z) z t (i + 1)->Heap.SameBut it s.heap h'->
    ∃ u,some (Value.str ⟨#[z.cps[i]]⟩ s.toks) = some u/\wpAny (model X.prog X.w) X.A (letOwnedTupleGo tg (.ref it) u) (fun _ s2=>∃ x H',Inv X pins σ H' s2/\zR x u/\(Its z).yld i H x H'/\s2.heap.IsStrIter it (strIterType z) z t (i + 1)/\∀ b ∈ [it],H' b = none) E { s with heap:=h',toks:=s.toks + 1 }:=fun h' hit hs=>by
   have I1:Inv X pins σ H { s with heap:=h',toks:=s.toks + 1 }:=I.turned (fun b o hb e=>(hs.2 b hb).trans e) f0 f1 f3 f4 f5
   obtain ⟨o,e1,e2,e3⟩:=id hit
   refine ⟨_,rfl,zcJ (s:={ s with heap:=h',toks:=s.toks + 1 }) e1 e2 e3 ?_ ⟨.str ⟨#[z.cps[i]]⟩,H,I1,⟨_,rfl⟩,⟨rfl,_,hx,rfl⟩,hit,fun b hb=>(hf b hb).1⟩⟩
   unfold strIterType
   split <;> decide
  cases ha:z.cps.all (· < 128)
  ·have e:strIterType z = "str_iterator":=by simp [strIterType,ha]
   rw [e] at st
   exact wpAny_pyNext_wide_item st hx fun h' a b=>fin h' (e.symm ▸ a) b
  ·have e:strIterType z = "str_ascii_iterator":=by simp [strIterType,ha]
   rw [e] at st
   exact wpAny_pyNext_ascii_item st hx fun h' a b=>fin h' (e.symm ▸ a) b
 done:=by
  intro X hP hw hK hc i pins s σ H E I hf st hg
  subst hP hw hK
  obtain ⟨f0,f1,f2,f3,f4,f5⟩:=hf it (by simp)
  have hi:z.cps.size<=i:=hg
  have hx:z.cps[i]? = none:=by simp [hi]
  have fin:∀ h',Heap.ExtBut it s.heap h'->(none:Option Value) = none/\Inv X pins σ H { s with heap:=h' }:=fun h' eb=>⟨rfl,I.turned (t':=s.toks) (fun b o hb e=>eb b o hb e) f0 f1 f3 f4 f5⟩
  cases ha:z.cps.all (· < 128)
  ·have e:strIterType z = "str_iterator":=by simp [strIterType,ha]
   rw [e] at st
   exact wpAny_pyNext_wide_end (I.ok.hd hc) st hx fin
  ·have e:strIterType z = "str_ascii_iterator":=by simp [strIterType,ha]
   rw [e] at st
   exact wpAny_pyNext_ascii_end (I.ok.hd hc) st hx fin
 self:=fun A i s Q E st h=>by
  cases ha:z.cps.all (· < 128)
  ·have e:strIterType z = "str_iterator":=by simp [strIterType,ha]
   rw [e] at st
   exact wpAny_pyIter_striter_wide st h
  ·have e:strIterType z = "str_ascii_iterator":=by simp [strIterType,ha]
   rw [e] at st
   exact wpAny_pyIter_striter_ascii st h
section
variable {X:Cx} {tg:Expr}
def zjO (tl:TE):TI:=fun σ H R=>tl σ H fun x H1=>∃ z,x = .str z/\R (Its z) H1
theorem zhS {l:Expr} {tl:TE} (hl:PE X l tl):PI X tg l (zjO tl):=by
 refine ⟨?_⟩
 intro pins s σ H R I h
 refine thn (hl pins s σ H _ I h) fun v s1 ⟨x,H1,I1,r1,q1⟩=>?_
 obtain ⟨z,e,q⟩:=q1
 subst e
 obtain ⟨t,rfl⟩:=r1
 refine wpAny_pyIter_strU ?_
 refine ⟨s1.heap.objs.size,[s1.heap.objs.size],_,_,H1,rfl,I1.kept (t':=s1.toks) fun b o e=>Heap.get?_push_of_some _ e,zdS _ z t,⟨_,Heap.get?_push_size _ rfl,rfl,rfl⟩,fun b hb=>?_,q⟩
 have e:b = s1.heap.objs.size:=by simpa using hb
 subst e
 exact I1.fpOk (Nat.le_refl _) (I1.hok.fresh (Nat.le_refl _))
theorem zdH (hc:X.calm = true):yN X (.builtin "all") (fun xs H Q=>∃ (p:Addr) (bs:List Bool),xs = [.ref p]/\SqL X.K H p (bs.map V.bl)/\Q (.bl (bs.all id)) H):=by
 intro pins s σ H xs us Q I r h
 obtain ⟨p,bs,rfl,hS,q⟩:=h
 obtain ⟨u,rfl,ru⟩:=xt r
 cases ru
 obtain ⟨its,rv,hp,hz⟩:=I.list hS
 have hlen:its.length = bs.length:=by rw [<- rv.length,List.length_map]
 have hne:p ≠ s.heap.objs.size:=Nat.ne_of_lt (by obtain ⟨_,e,_⟩:=hp.isList; exact Heap.lt_size e)
 refine call_all_walk (wpAny_pyIter_list hp.isList ?_)
 refine ⟨s.heap.objs.size,_,_,_,_,_,fun i=>bs.getD i false,rfl,Walks.list (A:=X.A.in1) (I.ok.hd hc) s.heap.objs.size p hne its.toArray,⟨⟨_,Heap.get?_push_size _ rfl,rfl,rfl⟩,hp.isList.push _⟩,?_,fun h' tk k=>?_⟩
 ·intro i v s' Q' E' hP hQ
  have hv:its[i]? = some v:=by simpa using hP
  have hi:i < bs.length:=by rw [<- hlen]; exact (List.getElem?_eq_some_iff.mp hv).1
  obtain ⟨u',e1,e2⟩:=rv.get (i:=i) (x:=V.bl bs[i]) (by rw [List.getElem?_map,List.getElem?_eq_getElem hi]; rfl)
  rw [hv] at e1
  cases e1
  cases e2
  refine wpAny_truthy_bool ?_
  have:bs.getD i false = bs[i]:=by rw [List.getD_eq_getElem?_getD,List.getElem?_eq_getElem hi]; rfl
  rw [<- this]
  exact hQ
 ·have e:((List.range its.toArray.size).all fun i=>bs.getD i false) = bs.all id:=by
   rw [List.size_toArray,hlen,Bool.eq_iff_iff,List.all_eq_true,List.all_eq_true]
   constructor
   ·intro hh b hb
    obtain ⟨i,hi,rfl⟩:=List.getElem_of_mem hb
    have:=hh i (List.mem_range.mpr hi)
    rw [List.getD_eq_getElem?_getD,List.getElem?_eq_getElem hi] at this
    exact this
   ·intro hh i hi
    have hi':=List.mem_range.mp hi
    rw [List.getD_eq_getElem?_getD,List.getElem?_eq_getElem hi']
    exact hh _ (List.getElem_mem hi')
  rw [e]
  exact ⟨.bl (bs.all id),H,I.kept (h':=h') (t':=tk) (fun b o q=>k b o (fun hm=>by
   have e:b = s.heap.objs.size:=by simpa using hm
   exact absurd (Heap.lt_size q) (by rw [e]; exact Nat.lt_irrefl _)) (Heap.get?_push_of_some _ q)),rfl,q⟩
theorem ux:yN X (.builtin "isinstance") (fun xs H Q=>∃ x T t b,xs = [x,.ty T]/\vf X.K H x t/\kitOne X.K t (.type T) = some b/\Q (.bl b) H):=by
 intro pins s σ H xs us Q I r h
 obtain ⟨x,T,t,b,rfl,ty,e,q⟩:=h
 obtain ⟨u,w',rfl,ru,rw'⟩:=zb8 r
 cases rw'
 exact zdo I ru ty e fun tk=>⟨.bl b,H,I.tok tk,rfl,q⟩
end
def wL:Expr->Bool
 | .Starred ..=>true
 | _=>false
theorem yu {e:Expr} {es:List Expr} {env:Env} (h:wL e = false):starEach (e :: es) env = (false,eval e env) :: starEach es env:=by
 cases e <;> first | rfl | cases h
theorem wf {env:Env} {pos:Pos}:∀ {es:List Expr},es.any wL = false->(backTo pos (starEach es env)).any (·.1) = false
 | [],_=>rfl
 | e :: es,h=>by
  rw [List.any_cons,Bool.or_eq_false_iff] at h
  rw [yu h.1]
  show (false || (backTo pos (starEach es env)).any (·.1)) = false
  rw [wf h.2]
  rfl
section
variable {X:Cx} {CX:CXT} {k:Nat} {f C:Addr} {fd:FuncData} {ps:List Str} {sp:Sp} {dvs:List V} {ds:List Value} {E:XK} {x m:Str} {p pos apos:Pos} {e o:Expr} {es:List Expr} {te ta:TE} {t:TA} {id T:String} {r:List V->Hp->VK->Prop}
theorem ac (ha:PE X e te) (hr:PA X es t) (h:wL e = false:=by rfl):PA X (e :: es) (zgV te t):=zf2 ha hr (yu h)
theorem cB (hc:yN X (.builtin id) r) (hm:X.mg x = none) (hv:bootBuiltins x = some (.builtin id)) (ha:PA X (e :: es) t) (hg:Gl X x:=by rfl) (hn:x ≠ "__name__":=by decide) (hdb:(x == ("__debug__" : Str)) = false:=by decide)
  (h1:wL e = false:=by rfl) (h2:es.any wL = false:=by rfl):PE X (.Call (.Name x p) (e :: es) [] pos) (tCB r t):=zex hc hg hm hv ha hn hdb (yu h1) (wf h2)
theorem cTy (hc:yN X (.type T) r) (hm:X.mg x = none) (hv:bootBuiltins x = some (.type T)) (ha:PA X (e :: es) t) (hg:Gl X x:=by rfl) (hn:x ≠ "__name__":=by decide) (hdb:(x == ("__debug__" : Str)) = false:=by decide)
  (h1:wL e = false:=by rfl) (h2:es.any wL = false:=by rfl):PE X (.Call (.Name x p) (e :: es) [] pos) (tCB r t):=zdc hc hg hm hv ha hn hdb (yu h1) (wf h2)
structure zC (P:Program) (w:World) (K:Frag) (mg:Str->Option Value) (base:Heap) (k:Nat) (x:Str) (f:Addr) (fd:FuncData) (ps:List Str) (sp:Sp):Prop where
 ok:zA P w K mg base CX0 k f fd ps sp
 mg:mg x = some (.ref f)
 kp:keepIn K (.ref f) = true
 bd:zV K fd ps []
theorem cF (c:zC X.prog X.w X.K X.mg X.base k x f fd ps sp) (hr:yq k X.A) (ha:PA X (e :: es) t) (hg:Gl X x:=by rfl) (hdb:(x == ("__debug__" : Str)) = false:=by decide)
  (h1:wL e = false:=by rfl) (h2:es.any wL = false:=by rfl):PE X (.Call (.Name x p) (e :: es) [] pos) (zdU sp [] E0 t):=
 zf1 c.ok hr hg c.mg c.kp c.bd .nil yh ha hdb (yu h1) (wf h2)
end
end L2
namespace L2
open PySem PyProof.Rows
theorem uz (K:Frag):kitOne K (.type "NoneType") (.type "str") = some false:=by kernel_rfl
theorem zbQ (K:Frag):kitOne K (.type "int") (.type "str") = some false:=by kernel_rfl
theorem zbR (K:Frag):kitOne K (.type "int") (.type "int") = some true:=by kernel_rfl
theorem zaR (K:Frag):kitOne K (.type "bool") (.type "str") = some false:=by kernel_rfl
theorem qN (K:Frag):kitOne K (.type "bool") (.type "bool") = some true:=by kernel_rfl
theorem zbP (K:Frag):kitOne K (.type "str") (.type "str") = some true:=by kernel_rfl
theorem zaP (K:Frag):kitOne K (.type "list") (.type "str") = some false:=by kernel_rfl
theorem qM (K:Frag):kitOne K (.type "tuple") (.type "str") = some false:=by kernel_rfl
theorem zaQ (K:Frag):kitOne K (.type "dict") (.type "str") = some false:=by kernel_rfl
end L2
namespace L2
open PySem PySem.Spec PyProof.Rows
inductive Dt where
 | non | bl (b:Bool) | int (i:Int) | str (z:Str) | tup (ds:List Dt) | lst (ds:List Dt)
def uy:V->Dt->Prop
 | .non,.non=>True
 | .bl a,.bl b=>a = b
 | .int a,.int b=>a = b
 | .str a,.str b=>a = b
 | _,_=>False
def zO (K:Frag) (ok:Addr->Prop) (H:Hp):Nat->V->Dt->Prop
 | 0,x,d=>uy x d
 | n + 1,x,d=>uy x d\/(∃ a xs ds,x = .ref a/\d = .tup ds/\SqT K H a xs/\Paired (zO K ok H n) xs ds)\/(∃ a xs ds,x = .ref a/\d = .lst ds/\ok a/\H a = some (.lst xs)/\Paired (zO K ok H n) xs ds)
section
variable {K:Frag} {ok ok':Addr->Prop} {H H':Hp}
theorem zO.flat {n:Nat} {x:V} {d:Dt} (h:uy x d):zO K ok H n x d:=by
 cases n with
 | zero=>exact h
 | succ n=>exact .inl h
theorem zO.int {n:Nat} {i:Int}:zO K ok H n (.int i) (.int i):=.flat rfl
theorem zO.str {n:Nat} {z:Str}:zO K ok H n (.str z) (.str z):=.flat rfl
theorem zO.tup {n:Nat} {a:Addr} {xs:List V} {ds:List Dt} (h:SqT K H a xs) (r:Paired (zO K ok H n) xs ds):zO K ok H (n + 1) (.ref a) (.tup ds):=.inr (.inl ⟨a,xs,ds,rfl,rfl,h,r⟩)
theorem zO.lst {n:Nat} {a:Addr} {xs:List V} {ds:List Dt} (o:ok a) (h:H a = some (.lst xs)) (r:Paired (zO K ok H n) xs ds):zO K ok H (n + 1) (.ref a) (.lst ds):=.inr (.inr ⟨a,xs,ds,rfl,rfl,o,h,r⟩)
theorem zO.frame (hT:∀ a xs,SqT K H a xs->SqT K H' a xs) (hL:∀ a xs,ok a->H a = some (.lst xs)->ok' a/\H' a = some (.lst xs)):∀ {n:Nat} {x:V} {d:Dt},zO K ok H n x d->zO K ok' H' n x d
 | 0,_,_,h=>h
 | n + 1,x,d,h=>by
  rcases h with h | ⟨a,xs,ds,e1,e2,h,r⟩ | ⟨a,xs,ds,e1,e2,o,h,r⟩
  ·exact .inl h
  ·exact .inr (.inl ⟨a,xs,ds,e1,e2,hT a xs h,Paired.imp' (fun _ _ z=>zO.frame hT hL z) r⟩)
  ·exact .inr (.inr ⟨a,xs,ds,e1,e2,(hL a xs o h).1,(hL a xs o h).2,Paired.imp' (fun _ _ z=>zO.frame hT hL z) r⟩)
theorem zm.sqT {a:Addr} {xs:List V} (e:zm H H') (h:SqT K H a xs):SqT K H' a xs:=by
 rcases h with (h | ⟨o,h⟩) | h
 ·exact .inl (.inl (e _ _ h))
 ·exact .inl (.inr ⟨o,e _ _ h⟩)
 ·exact .inr h
theorem zO.same {n:Nat} {x:V} {d:Dt} (e:zm H H') (h:zO K ok H n x d):zO K ok H' n x d:=h.frame (fun _ _ z=>e.sqT z) fun _ _ o z=>⟨o,e _ _ z⟩
theorem Paired.get {α β : Type} {F : α->β->Prop}:∀ {l₁:List α} {l₂:List β} {i:Nat} {a : α},Paired F l₁ l₂->l₁[i]? = some a->∃ b,l₂[i]? = some b/\F a b
 | _,_,_,_,.nil,e=>by simp at e
 | _,_,0,_,.cons r _,e=>by simp at e; subst e; exact ⟨_,rfl,r⟩
 | _,_,i + 1,a,.cons _ t,e=>by
  obtain ⟨b,h1,h2⟩:=Paired.get (i:=i) (a:=a) t (by simpa using e)
  exact ⟨b,by simpa using h1,h2⟩
end
section
variable {X:Cx} {pins:List (Addr × Obj)} {σ : St} {H:Hp} {s:Shared} {ok ok':Addr->Prop}
theorem jX {A:Around} {x y:V} {d:Dt} {u v:Value} (hx:uy x d) (hy:uy y d) (ru:zR x u) (rv:zR y v):SeqAt.EqAt A s u v true:=by
 cases d with
 | non=>
  cases x <;> try exact hx.elim
  cases y <;> try exact hy.elim
  cases ru; cases rv; exact SeqAt.EqAt.same _
 | bl b=>
  cases x <;> try exact hx.elim
  cases y <;> try exact hy.elim
  rename_i a c
  obtain rfl:a = b:=hx
  obtain rfl:c = a:=hy
  cases ru; cases rv; exact SeqAt.EqAt.same _
 | int b=>
  cases x <;> try exact hx.elim
  cases y <;> try exact hy.elim
  rename_i a c
  obtain rfl:a = b:=hx
  obtain rfl:c = a:=hy
  obtain ⟨t,rfl⟩:=ru
  obtain ⟨t',rfl⟩:=rv
  have:=SeqAt.EqAt.int_int (A:=A) (s:=s) c t c t'
  simpa using this
 | str b=>
  cases x <;> try exact hx.elim
  cases y <;> try exact hy.elim
  rename_i a c
  obtain rfl:a = b:=hx
  obtain rfl:c = a:=hy
  obtain ⟨t,rfl⟩:=ru
  obtain ⟨t',rfl⟩:=rv
  have:=SeqAt.EqAt.str_str (A:=A) (s:=s) c t c t'
  simpa using this
 | tup ds=>cases x <;> exact hx.elim
 | lst ds=>cases x <;> exact hx.elim
theorem jp {a:Addr} {d:Dt} (h:uy (.ref a) d):False:=by cases d <;> exact h
theorem wP (n:Nat):((List.range n).all fun _=>true) = true:=by rw [List.all_eq_true]; intro _ _; rfl
theorem w5 (I:Inv X pins σ H s):∀ (n:Nat) {A:Around} {x y:V} {d:Dt} {u v:Value},zO X.K ok H n x d->zO X.K ok' H n y d->zR x u->zR y v->A.units + n < cLine->SeqAt.EqAt A s u v true
 | 0,A,x,y,d,u,v,hx,hy,ru,rv,_=>jX hx hy ru rv
 | n + 1,A,x,y,d,u,v,hx,hy,ru,rv,hu=>by
  have hin:A.in1.units + n < cLine:=by show A.units + 1 + n < cLine; omega
  rcases hx with hx | ⟨a,xs,ds,rfl,rfl,hx,r⟩ | ⟨a,xs,ds,rfl,rfl,_,hx,r⟩
  ·rcases hy with hy | ⟨b,ys,es,rfl,rfl,hy,q⟩ | ⟨b,ys,es,rfl,rfl,_,hy,q⟩
   ·exact jX hx hy ru rv
   ·cases x <;> exact hx.elim
   ·cases x <;> exact hx.elim
  ·rcases hy with hy | ⟨b,ys,es,rfl,e2,hy,q⟩ | ⟨b,ys,es,rfl,e2,_,hy,q⟩
   ·cases y <;> exact hy.elim
   ·cases e2
    cases ru; cases rv
    by_cases hab:a = b
    ·subst hab; exact SeqAt.EqAt.same _
    ·obtain ⟨ia,va,pa,_⟩:=I.tuple hx
     obtain ⟨ib,vb,pb,_⟩:=I.tuple hy
     have la:ia.length = ds.length:=by rw [<- va.length,r.length]
     have lb:ib.length = ds.length:=by rw [<- vb.length,q.length]
     have:=SeqAt.RcAt.tuples (A:=A) (s:=s) (e:=fun _=>true) (show s.heap.IsTuple a ia.toArray from pa) (show s.heap.IsTuple b ib.toArray from pb) (by omega) (fun j h1 h2=>by
      have j1:j < ia.length:=by simpa using h1
      have j2:j < ib.length:=by simpa using h2
      have hxl:j < xs.length:=by rw [va.length]; exact j1
      have hyl:j < ys.length:=by rw [vb.length]; exact j2
      obtain ⟨u',e1,e2⟩:=va.get (i:=j) (List.getElem?_eq_getElem hxl)
      obtain ⟨v',e3,e4⟩:=vb.get (i:=j) (List.getElem?_eq_getElem hyl)
      obtain ⟨d1,f1,f2⟩:=Paired.get r (List.getElem?_eq_getElem hxl)
      obtain ⟨d2,f3,f4⟩:=Paired.get q (List.getElem?_eq_getElem hyl)
      rw [f1] at f3
      cases f3
      rw [List.getElem?_eq_getElem j1] at e1
      rw [List.getElem?_eq_getElem j2] at e3
      cases e1; cases e3
      simpa using w5 I n f2 f4 e2 e4 hin)
     rw [wP] at this
     have z:(ia.toArray.size == ib.toArray.size) = true:=by simp [la,lb]
     rw [z] at this
     exact SeqAt.EqAt.of_refs hab this
   ·cases e2
  ·rcases hy with hy | ⟨b,ys,es,rfl,e2,hy,q⟩ | ⟨b,ys,es,rfl,e2,_,hy,q⟩
   ·cases y <;> exact hy.elim
   ·cases e2
   ·cases e2
    cases ru; cases rv
    by_cases hab:a = b
    ·subst hab; exact SeqAt.EqAt.same _
    ·obtain ⟨ia,va,pa,_⟩:=I.list (SqL.of hx)
     obtain ⟨ib,vb,pb,_⟩:=I.list (SqL.of hy)
     have la:ia.length = ds.length:=by rw [<- va.length,r.length]
     have lb:ib.length = ds.length:=by rw [<- vb.length,q.length]
     have:=SeqAt.RcAt.lists (A:=A) (s:=s) (e:=fun _=>true) pa.isList pb.isList (by simp [la,lb]) (by omega) (fun j h1 h2=>by
      have j1:j < ia.length:=by simpa using h1
      have j2:j < ib.length:=by simpa using h2
      have hxl:j < xs.length:=by rw [va.length]; exact j1
      have hyl:j < ys.length:=by rw [vb.length]; exact j2
      obtain ⟨u',e1,e2⟩:=va.get (i:=j) (List.getElem?_eq_getElem hxl)
      obtain ⟨v',e3,e4⟩:=vb.get (i:=j) (List.getElem?_eq_getElem hyl)
      obtain ⟨d1,f1,f2⟩:=Paired.get r (List.getElem?_eq_getElem hxl)
      obtain ⟨d2,f3,f4⟩:=Paired.get q (List.getElem?_eq_getElem hyl)
      rw [f1] at f3
      cases f3
      rw [List.getElem?_eq_getElem j1] at e1
      rw [List.getElem?_eq_getElem j2] at e3
      cases e1; cases e3
      simpa using w5 I n f2 f4 e2 e4 hin)
     rw [wP] at this
     exact SeqAt.EqAt.of_refs hab this
theorem zfT (I:Inv X pins σ H s) {n:Nat} {A:Around} {a b:Addr} {d:Dt} (hx:zO X.K ok H (n + 1) (.ref a) d) (hy:zO X.K ok' H (n + 1) (.ref b) d) (hu:A.units + n + 1 < cLine) :
  SeqAt.RcAt A s (.ref a) (.ref b) true/\SeqAt.RcNeAt A s (.ref a) (.ref b) false:=by
 have hin:A.in1.units + n < cLine:=by show A.units + 1 + n < cLine; omega
 rcases hx with hx | ⟨a,xs,ds,e0,rfl,hx,r⟩ | ⟨a,xs,ds,e0,rfl,_,hx,r⟩
 ·exact (jp hx).elim
 ·cases e0
  rcases hy with hy | ⟨b,ys,es,e1,e2,hy,q⟩ | ⟨b,ys,es,e1,e2,_,hy,q⟩
  ·exact (jp hy).elim
  ·cases e1; cases e2
   obtain ⟨ia,va,pa,_⟩:=I.tuple hx
   obtain ⟨ib,vb,pb,_⟩:=I.tuple hy
   have la:ia.length = ds.length:=by rw [<- va.length,r.length]
   have lb:ib.length = ds.length:=by rw [<- vb.length,q.length]
   have el:∀ j (h1:j < ia.toArray.size) (h2:j < ib.toArray.size),SeqAt.EqAt A.in1 s ia.toArray[j] ib.toArray[j] true:=fun j h1 h2=>by
    have j1:j < ia.length:=by simpa using h1
    have j2:j < ib.length:=by simpa using h2
    have hxl:j < xs.length:=by rw [va.length]; exact j1
    have hyl:j < ys.length:=by rw [vb.length]; exact j2
    obtain ⟨u',e1,e2⟩:=va.get (i:=j) (List.getElem?_eq_getElem hxl)
    obtain ⟨v',e3,e4⟩:=vb.get (i:=j) (List.getElem?_eq_getElem hyl)
    obtain ⟨d1,f1,f2⟩:=Paired.get r (List.getElem?_eq_getElem hxl)
    obtain ⟨d2,f3,f4⟩:=Paired.get q (List.getElem?_eq_getElem hyl)
    rw [f1] at f3
    cases f3
    rw [List.getElem?_eq_getElem j1] at e1
    rw [List.getElem?_eq_getElem j2] at e3
    cases e1; cases e3
    simpa using w5 I n f2 f4 e2 e4 hin
   have z:(ia.toArray.size == ib.toArray.size) = true:=by simp [la,lb]
   have t1:=SeqAt.RcAt.tuples (A:=A) (s:=s) (e:=fun _=>true) (show s.heap.IsTuple a ia.toArray from pa) (show s.heap.IsTuple b ib.toArray from pb) (by omega) el
   have t2:=SeqAt.RcNeAt.tuples (A:=A) (s:=s) (e:=fun _=>true) (show s.heap.IsTuple a ia.toArray from pa) (show s.heap.IsTuple b ib.toArray from pb) (by omega) el
   rw [wP,z] at t1 t2
   exact ⟨t1,t2⟩
  ·cases e1; cases e2
 ·cases e0
  rcases hy with hy | ⟨b,ys,es,e1,e2,hy,q⟩ | ⟨b,ys,es,e1,e2,_,hy,q⟩
  ·exact (jp hy).elim
  ·cases e1; cases e2
  ·cases e1; cases e2
   obtain ⟨ia,va,pa,_⟩:=I.list (SqL.of hx)
   obtain ⟨ib,vb,pb,_⟩:=I.list (SqL.of hy)
   have la:ia.length = ds.length:=by rw [<- va.length,r.length]
   have lb:ib.length = ds.length:=by rw [<- vb.length,q.length]
   have el:∀ j (h1:j < ia.toArray.size) (h2:j < ib.toArray.size),SeqAt.EqAt A.in1 s ia.toArray[j] ib.toArray[j] true:=fun j h1 h2=>by
    have j1:j < ia.length:=by simpa using h1
    have j2:j < ib.length:=by simpa using h2
    have hxl:j < xs.length:=by rw [va.length]; exact j1
    have hyl:j < ys.length:=by rw [vb.length]; exact j2
    obtain ⟨u',e1,e2⟩:=va.get (i:=j) (List.getElem?_eq_getElem hxl)
    obtain ⟨v',e3,e4⟩:=vb.get (i:=j) (List.getElem?_eq_getElem hyl)
    obtain ⟨d1,f1,f2⟩:=Paired.get r (List.getElem?_eq_getElem hxl)
    obtain ⟨d2,f3,f4⟩:=Paired.get q (List.getElem?_eq_getElem hyl)
    rw [f1] at f3
    cases f3
    rw [List.getElem?_eq_getElem j1] at e1
    rw [List.getElem?_eq_getElem j2] at e3
    cases e1; cases e3
    simpa using w5 I n f2 f4 e2 e4 hin
   have t1:=SeqAt.RcAt.lists (A:=A) (s:=s) (e:=fun _=>true) pa.isList pb.isList (by simp [la,lb]) (by omega) el
   have t2:=SeqAt.RcNeAt.lists (A:=A) (s:=s) (e:=fun _=>true) pa.isList pb.isList (by simp [la,lb]) (by omega) el
   rw [wP] at t1 t2
   exact ⟨t1,t2⟩
def ziR (K:Frag) (b:Bool):R2:=fun x y H Q=>∃ (a c:Addr) (n:Nat) (d:Dt) (ok ok':Addr->Prop),x = .ref a/\y = .ref c/\n<=20/\zO K ok H (n + 1) x d/\zO K ok' H (n + 1) y d/\Q (.bl b) H
theorem zhX (hu:X.A.units + 64 < cLine):OpR X (compareOp .Eq) (ziR X.K true):=by
 intro pins s σ H x y v u Q I rx ry h
 obtain ⟨a,c,n,d,ok,ok',rfl,rfl,hn,hx,hy,q⟩:=h
 cases rx; cases ry
 exact (zfT (A:=X.A) I hx hy (by omega)).1 X.prog X.w X.xe _ ⟨.bl true,H,I,rfl,q⟩
end
def Ite (K:Frag) (a:Addr):It:=
 ⟨fun i H=>∃ xs x,SqL K H a xs/\xs[i]? = some x,fun i H x H'=>∃ (p:Addr) (y:V),x = .ref p/\H p = none/\(∀ xs,SqL K H a xs->xs[i]? = some y)/\H' = upd H p (.tup [.int i,y]),fun i H=>∃ xs,SqL K H a xs/\xs.length<=i⟩
theorem zc0 {P:Program} {w:World} {K:Frag} {elts:List Expr} {x1:Nat} {tpos:Pos} (a e it:Addr) (hne:e ≠ it) :
  zaa P w K (.Tuple elts x1 tpos) (Ite K a) [e,it] e (fun i h=>(∃ old,IsEnum h e it (i:Int) old)/\h.IsListIter it a i) where
 mem:=by simp
 obj:=fun i h st b hb=>by
  rcases List.mem_cons.mp hb with rfl | hb
  ·obtain ⟨⟨old,he⟩,_⟩:=st
   exact ⟨_,he,fun v q=>by cases q⟩
  ·have e':b = it:=by simpa using hb
   subst e'
   obtain ⟨_,o,ho,_,hd⟩:=st
   exact ⟨o,ho,fun v q=>by rw [hd] at q; cases q⟩
 keep:=fun i h h' st k=>by
  obtain ⟨⟨old,he⟩,o,ho,r⟩:=st
  exact ⟨⟨old,k e (by simp) _ he⟩,o,k it (by simp) o ho,r⟩
 item:=by
  intro X hP hw hK hc i pins s σ H E I hf st hg
  subst hP hw hK
  obtain ⟨f0,f1,f2,f3,f4,f5⟩:=hf e (by simp)
  obtain ⟨g0,g1,g2,g3,g4,g5⟩:=hf it (by simp)
  obtain ⟨⟨old,he⟩,hit⟩:=st
  obtain ⟨xs,x,hS,hx⟩:=hg
  obtain ⟨its,rv,hp,hz⟩:=I.list hS
  obtain ⟨u,hu,ru⟩:=rv.get hx
  refine wpAny_pyNext_enum_item he hit hp.isList (x:=u) (by simpa using hu) hne fun h' he' hit' htup hsz hk=>?_
  have I0:Inv X pins σ H { s with heap:=h',toks:=s.toks + 1 }:=by
   refine I.step (g':=s.gens) (d':=s.drawn) (ch:=[e,it]) (fun b hb=>?_) (fun b o _ _ hc' e1 _=>hk b o (fun z=>hc' (by simp [z])) (fun z=>hc' (by simp [z])) e1) (fun b o _ _ hc' e1 _=>⟨o.slots,hk b o (fun z=>hc' (by simp [z])) (fun z=>hc' (by simp [z])) e1⟩) (fun _ _ _ _ n=>n)
    (fun b o hc' e1=>⟨o,hk b o (fun z=>hc' (by simp [z])) (fun z=>hc' (by simp [z])) e1⟩) (fun _ _ e1=>e1) (fun _ _ _ e1=>e1) (fun b ps e1=>⟨#[],by rw [e1]; simp⟩) (fun m hm=>?_) (fun b u' e1=>?_) I.bare
   ·rcases List.mem_cons.mp hb with rfl | hb
    ·exact ⟨f3,f1,f4,f5⟩
    ·have e':b = it:=by simpa using hb
     subst e'
     exact ⟨g3,g1,g4,g5⟩
   ·obtain ⟨o,es,ep,ho,r⟩:=hm
    exact ⟨o,es,ep,hk _ o (Ne.symm f1) (Ne.symm g1) ho,r⟩
   ·have nit:∀ c v',H c = some v'->c ≠ e/\c ≠ it:=fun c v' q=>⟨fun z=>(by rw [z,f0] at q; cases q),fun z=>(by rw [z,g0] at q; cases q)⟩
    refine (I.hok b u' e1).stay (fun c v' hc' q=>?_) (fun _ q=>q) fun _ _ q=>q
    rcases hc' with z | z
    ·subst z; exact hk c v' (nit c _ e1).1 (nit c _ e1).2 q
    ·exact hk c v' (nit c _ z).1 (nit c _ z).2 q
  have hfr:H s.heap.objs.size = none:=I.hok.fresh (Nat.le_refl _)
  have I1:Inv X pins σ (upd H s.heap.objs.size (.tup [.int i,x])) { s with heap:=h',toks:=s.toks + 1 }:=by
   have hok:HOk X.prog X.w (upd H s.heap.objs.size (.tup [.int i,x])) h':=fun b o q=>by
    by_cases hb:b = s.heap.objs.size
    ·subst hb
     rw [za] at q; cases q
     exact ⟨by show 2<=sizeLine; decide,[.int i s.toks,u],.cons ⟨_,rfl⟩ (.cons ru .nil),⟨_,htup,rfl,_,rfl⟩⟩
    ·rw [zg hb] at q
     exact (I0.hok b o q).stay (fun _ _ _ z=>z) (fun c z=>by rw [zg (zf z hfr)]; exact z) fun c xs' z=>by rw [zg (zf z hfr)]; exact z
   refine I0.step (s:={ s with heap:=h',toks:=s.toks + 1 }) (g':=s.gens) (d':=s.drawn) (h':=h') (t':=s.toks + 1) (ch:=[s.heap.objs.size]) (fun b hb=>?_) (fun b o _ _ _ e1 _=>e1) (fun b o _ _ _ e1 _=>⟨o.slots,e1⟩) (fun b o hb e1 n=>by rw [zg (fun z=>hb (by simp [z]))]; exact n)
    (fun b o _ e1=>⟨o,e1⟩) (fun b xs' e1=>by rw [zg (zf e1 hfr)]; exact e1) (fun b o' u' e1=>by rw [zg (zf e1 hfr)]; exact e1) (fun b ps e1=>⟨#[],by rw [zg (zf e1 hfr),e1]; simp⟩) (fun m hm=>hm) hok I0.bare
   have e':b = s.heap.objs.size:=by simpa using hb
   subst e'
   refine ⟨.inr I.sz,fun z=>?_,fun y c h z=>?_,fun p hp' z=>?_⟩
   ·have:=I.lt; rw [<- z] at this; exact absurd this (Nat.lt_irrefl _)
   ·obtain ⟨v',hv⟩:=I.cell y c h
    have:=hv.lt; rw [z] at this; exact absurd this (Nat.lt_irrefl _)
   ·have:=I.pin_lt hp'; rw [z] at this; exact absurd this (Nat.lt_irrefl _)
  refine ⟨_,rfl,wpAny_letOwnedTupleGo_enum he' fun h2 he2 hs2=>?_⟩
  have nes:s.heap.objs.size ≠ e:=fun z=>by
   have:=Heap.lt_size (show s.heap.get? e = some _ from he)
   rw [<- z] at this; exact absurd this (Nat.lt_irrefl _)
  have nis:s.heap.objs.size ≠ it:=fun z=>by
   obtain ⟨o,ho,_⟩:=hit
   have:=Heap.lt_size ho
   rw [<- z] at this; exact absurd this (Nat.lt_irrefl _)
  have I2:Inv X pins σ (upd H s.heap.objs.size (.tup [.int i,x])) { s with heap:=h2,toks:=s.toks + 1 }:=
   I1.turned (s:={ s with heap:=h',toks:=s.toks + 1 }) (t':=s.toks + 1) (it:=e) (fun b o hb q=>(hs2.2 b hb).trans q) (by rw [zg nes.symm]; exact f0) f1 f3 f4 f5
  refine ⟨.ref s.heap.objs.size,_,I2,rfl,⟨_,x,rfl,hfr,fun xs' h'=>?_,rfl⟩,⟨⟨_,by simpa using he2⟩,?_⟩,fun b hb=>?_⟩
  ·rw [I.list_inj h' hS]; exact hx
  ·obtain ⟨o,ho,r⟩:=hit'
   exact ⟨o,(hs2.2 it (Ne.symm hne)).trans ho,r⟩
  ·rcases List.mem_cons.mp hb with rfl | hb
   ·rw [zg nes.symm]; exact f0
   ·have e':b = it:=by simpa using hb
    subst e'
    rw [zg nis.symm]; exact g0
 done:=by
  intro X hP hw hK hc i pins s σ H E I hf st hg
  subst hP hw hK
  obtain ⟨⟨old,he⟩,hit⟩:=st
  obtain ⟨g0,g1,g2,g3,g4,g5⟩:=hf it (by simp)
  obtain ⟨xs,hS,hle⟩:=hg
  obtain ⟨its,rv,hp,hz⟩:=I.list hS
  have hx:its.toArray[i]? = none:=by simp [<- rv.length,hle]
  exact wpAny_pyNext_enum_end (I.ok.hd hc) he hit hp.isList hx fun h' eb=>⟨rfl,I.turned (t':=s.toks) (fun b o hb e1=>eb b o hb e1) g0 g1 g3 g4 g5⟩
 self:=fun A i s Q E st h=>by
  obtain ⟨⟨old,he⟩,_⟩:=st
  exact wpAny_pyIter_enum he h
section
variable {X:Cx} {elts:List Expr} {x1:Nat} {tpos:Pos}
def zi5 (K:Frag) (ta:TA):TI:=fun σ H R=>ta σ H fun vs H1=>∃ a,vs = [.ref a]/\(∃ xs,SqL K H1 a xs)/\R (Ite K a) H1
theorem wV {l:Expr} {ta:TA} {p pos:Pos} (hg:Gl X "enumerate") (hm:X.mg "enumerate" = none) (ha:PA X [l] ta) (hl:wL l = false:=by rfl):PI X (.Tuple elts x1 tpos) (.Call (.Name "enumerate" p) [l] [] pos) (zi5 X.K ta):=by
 refine ⟨?_⟩
 intro pins s σ H R I h
 refine Call_ (xN I hg hm PyProof.Rows.boot_enumerate (PyProof.Rows.callWith_type1 (thn (ha pos pins s σ H _ I h) fun us s1 ⟨vs,H1,I1,r1,q1⟩=>?_) (yu hl) rfl))
 obtain ⟨a,e,⟨xs,hS⟩,q⟩:=q1
 subst e
 obtain ⟨u,rfl,ru⟩:=xt r1
 cases ru
 obtain ⟨its,rv,hp,hz⟩:=I1.list hS
 refine call_enumerate_list hp.isList fun h' he hit hsz hk=>?_
 refine wpAny_pyIter_enum he ?_
 have hfr:∀ b,s1.heap.objs.size<=b->H1 b = none:=fun b hb=>I1.hok.fresh hb
 have I2:Inv X pins σ H1 { s1 with heap:=h' }:=I1.kept (t':=s1.toks) hk
 refine ⟨s1.heap.objs.size + 1,[s1.heap.objs.size + 1,s1.heap.objs.size],_,_,H1,rfl,I2,zc0 a _ _ (Nat.succ_ne_self _),⟨⟨_,he⟩,hit⟩,fun b hb=>?_,q⟩
 rcases List.mem_cons.mp hb with rfl | hb
 ·exact I1.fpOk (Nat.le_succ _) (hfr _ (Nat.le_succ _))
 ·have e':b = s1.heap.objs.size:=by simpa using hb
  subst e'
  exact I1.fpOk (Nat.le_refl _) (hfr _ (Nat.le_refl _))
end
end L2
namespace Att
open PySem PySem.W PySem.Calls PyProof.Rows
theorem zaq {ns:List Int} (h:WData.layableAll [WData.list (ns.map WData.int)] = true):∀ n ∈ ns,Builtin.Int.intBits n<=1048576:=fun n hn=>
 PySem.intBits_le_of_layable (layable0_of_all (lay0_int (layableW_item (layW_cons h).1 (.int n) (List.mem_map.mpr ⟨n,hn,rfl⟩))))
theorem zgL {l:OpenLaw} {n:Nat} {q:Program} {loose:List Str} {XP:(Str->Option Value)->Heap->Prop} {YP:World->Heap->Prop} {d:DefRec}
  (hn:l.most = some n) (hdf:d.params.defaults = [])
  (call:∀ (w:World) (s₀ s₁:Shared) (mg mb:Str->Option Value) (fa:Addr) (o:Obj) (pm cd doc:Value) (a:Addr) (vs:List Value) (ns:List Int),
   Ground q loose [] XP w s₀ mg mb s₁.heap->YP w s₁.heap->
   s₁.heap.get? fa = some o->o.data = .func (docDef d.name d.params d.body d.scope pm cd doc)->s₁.heap.CodeRec cd d.name->mg d.name = some (.ref fa)->
   s₁.heap.get? a = some { cls:=.type "list",data:=.seq vs.toArray }->IntsAre vs ns->ns.length<=n->(∀ m ∈ ns,Builtin.Int.intBits m<=1048576)->s₁.gens = #[]->
   codeAny (model l.prog w) callerA (.call (.ref fa) ⟨[.ref a],[]⟩) (fun r s'=>r = .ok (.ret (.bool true))/\OldK s₁.heap s'.heap/\s'.os = s₁.os/\AllBare s'.gens) s₁) :
  WalkO q loose XP YP l.row.toRowW d [] (fun f vs=>PySem.call f vs):=by
 intro w s₀ s₁ mg mb G Y fa o pm cd doc dV kV ho hd hcd hD hmg hg args vals as hpre hlay hrd hwl hlo
 obtain rfl:dV = .none:=Dflts.none hD hdf
 obtain rfl:kV = .none:=Dflts.noKw hD
 obtain ⟨a,vs,ns,rfl,rfl,hobj,hints,hlen⟩:=zc4 hn hpre hwl
 refine enter_call (codeAny_mono (call w s₀ s₁ mg mb fa o pm cd doc a vs ns G Y ho (fd_plain hd) hcd hmg hobj hints hlen (zaq hlay) hg) fun r s' hq=>?_)
 obtain ⟨rfl,h2,h3,h4⟩:=hq
 exact ⟨.inl ⟨.bool true,.bool true,[],rfl,fun _=>rfl,.bool true,zc9 l _,fun _=>⟨List.Pairwise.nil,fun _ hm=>(nomatch hm)⟩⟩,h2,h3,h4⟩
end Att
namespace L2
open PySem PySem.Spec PyProof.Rows
theorem ziu {l:PySem.W.OpenLaw} {n k:Nat} {q:Program} {loose:List Str} {XP:(Str->Option Value)->Heap->Prop} {YP:World->Heap->Prop} {d:DefRec} {K:Params->Frag} {CX:World->CXT} {sp:World->Sp} {x:Str}
  (hn:l.most = some n) (hn2:n<=sizeLine) (hdf:d.params.defaults = []) (hr:yq k callerA)
  (hY:∀ (w:World) (h:Heap),YP w h->(K w.params).In h)
  (F:∀ (w:World) (mg:Str->Option Value) (fa:Addr) (h:Heap),(K w.params).In h->h.Ns mainGlobals mg->mg d.name = some (.ref fa)->
   ∃ fd:FuncData,(∀ (s:Shared) (u:Value),BindsTo s fd ⟨[u],[]⟩ [(x,u)])/\
    ∀ base:Heap,(K w.params).In base->base.Ns mainGlobals mg->zA l.prog w (K w.params) mg base (CX w) k fa fd [x] (sp w))
  (hsp:∀ (w:World) (H:Hp) (a:Addr) (ns:List Int),ns.length<=n->(∀ m ∈ ns,Builtin.Int.intBits m<=1048576)->ziq H->SqL (K w.params) H a (ns.map V.int)->sp w [.ref a] H (fun v _=>v = .bl true) fun _ _ _=>False)
  (hCX:∀ (w:World) (H:Hp) (s:Shared) (e:Value) (s':Shared),CX w [] H s (fun _ _ _=>False) e s'->False) :
  PySem.W.WalkO q loose XP YP l.row.toRowW d [] (fun f vs=>PySem.call f vs):=by
 refine Att.zgL hn hdf fun w s₀ s₁ mg mb fa o pm cd doc a vs ns G Y ho hd hcd hmg hobj hints hlen hbits hg=>?_
 have KX:=hY w _ Y
 obtain ⟨fd,hb,hF⟩:=F w mg fa _ KX G.T.g hmg
 exact ze7 KX G.T.g G.T.b G.T.builtins G.T.nolimit hg hobj hints (Nat.le_trans hlen hn2) hr hF hb (fun H hO hS=>hsp w H a ns hlen hbits hO hS) fun H e s'=>hCX w H s₁ e s'
section
variable {X:Cx}
theorem zf4:OpR X (binaryOp .Mult) (rI IntMulOk fun i j=>.int (i * j)):=opI fun _ _ _ _ _ _ _ hc q=>mul_int q hc
end
structure jB (K:Frag) (x qual:Str) (st:Stmt) (f:Addr) (fd:FuncData) (items:List Value):Prop where
 ex:∃ (oc:Value) (od:Option Addr) (T:Addr) (kV doc pm:Value) (an:Option Addr) (cdv ct:Value) (osl:Array (Option Value)) (o:Obj) (n:Nat),
  fd = fnOf x qual (z6 st) (zX st) (zh st) (.ref T) kV doc pm an cdv ct/\K.lookup f = some ⟨oc,od,.func fd,osl⟩/\codeIn K cdv qual = true/\K.lookup T = some o/\o.data = .seq items.toArray n
 kp:keepIn K (.ref f) = true
section
variable {P:Program} {w:World} {K:Frag} {mg:Str->Option Value} {base:Heap}
theorem jB.ok {x qual:Str} {st:Stmt} {f:Addr} {fd:FuncData} {items:List Value} {N ps:List Str} {k:Nat} {sp:Sp} (F:jB K x qual st f fd items) (S:zt N ps (zh st)) (len:∀ vs H Q E,sp vs H Q E->vs.length = ps.length)
  (hbody:∀ (cdv:Value) (A:Around) (outer:List Env) (s:Shared) (H:Hp) (vs:List V) (Q:VK) (E:XK),yq k (A.deeper (envOfC qual (zh st) s.heap.objs.size f cdv))->sp vs H Q E->
   ∃ t,PSs (zbY CX0 P w K mg base N qual (zh st) f cdv A outer s H E).nox (zX st) t/\t { nx:=fun _ H'=>Q .non H',rt:=Q } (vq N vs) H):zA P w K mg base CX0 (k + 1) f fd ps sp:=by
 obtain ⟨oc,od,T,kV,doc,pm,an,cdv,ct,osl,o,n,rfl,lk,hcd,_,_⟩:=F.ex
 refine zha lk hcd S len fun A outer s H vs Q E hr hsp=>?_
 obtain ⟨t,h,q⟩:=hbody cdv A outer s H vs Q E hr hsp
 exact ⟨t,h.nox,q⟩
theorem jB.bindsTo {x qual:Str} {st:Stmt} {f:Addr} {fd:FuncData} {items:List Value} (F:jB K x qual st f fd items) {args:Args} {bs:List (Str × Value)}
  (h:∀ (T:Addr) (kV doc pm:Value) (an:Option Addr) (cdv ct:Value),∃ k:Option (Array Value)->Sem (List (Str × Value)),
   bindArgs (fnOf x qual (z6 st) (zX st) (zh st) (.ref T) kV doc pm an cdv ct) args = seqItems? (.ref T) >>= k/\k (some items.toArray) = pure bs) {s:Shared} (KX:K.In s.heap):BindsTo s fd args bs:=by
 obtain ⟨oc,od,T,kV,doc,pm,an,cdv,ct,osl,o,n,rfl,lk,hcd,lt,hs⟩:=F.ex
 obtain ⟨k,h1,h2⟩:=h T kV doc pm an cdv ct
 exact BindsTo.of_defaults (T:=T) (n:=n) rfl (KX _ _ lt) hs h1 h2
theorem zgD {x qual:Str} {st:Stmt} {f T:Addr} {oc:Value} {od an:Option Addr} {osl:Array (Option Value)} {kV doc pm cdv ct:Value} {o:Obj} {n:Nat} {items:List Value}
  (l:K.lookup f = some ⟨oc,od,.func (fnOf x qual (z6 st) (zX st) (zh st) (.ref T) kV doc pm an cdv ct),osl⟩)
  (c:codeIn K cdv qual = true) (k:keepIn K (.ref f) = true) (lT:K.lookup T = some o) (hs:o.data = .seq items.toArray n) :
  jB K x qual st f (fnOf x qual (z6 st) (zX st) (zh st) (.ref T) kV doc pm an cdv ct) items:=⟨⟨oc,od,T,kV,doc,pm,an,cdv,ct,osl,o,n,rfl,l,c,lT,hs⟩,k⟩
end
section
variable {X:Cx} {CX:CXT} {k:Nat} {f C:Addr} {fd:FuncData} {ps ks:List Str} {sp:Sp} {E:XK} {x:Str} {p pos:Pos} {e:Expr} {es:List Expr} {kws:List Keyword} {t tk:TA}
 {g:List Value->List Value->List Value} {gV:List V->List V->List V}
end
theorem y6 {t u:TS} {D:uj} {σ : St} {H:Hp} (R:St->Hp->Prop) (h2:∀ σ H,R σ H->u D σ H) (h1:(∀ σ H,R σ H->u D σ H)->t { D with nx:=u D } σ H):vQ t u D σ H:=h1 h2
def lcN (n i:Nat) (D:Addr) (Pv:Nat->List V->Hp->Prop) (ys:List V):VK:=fun v H4=>H4 D = some (.lst ys)/\ys.length < sizeLine/\∃ m',m' < n - i/\m' = n - (i + 1)/\i + 1<=n/\Pv (i + 1) (ys ++ [v]) (upd H4 D (.lst (ys ++ [v])))
def lcS (n i:Nat) (Pv:Nat->List V->Hp->Prop) (ys:List V):Hp->Prop:=fun H4=>∃ m',m' < n - i/\m' = n - (i + 1)/\i + 1<=n/\Pv (i + 1) ys H4
theorem lcN.mk {n i:Nat} {D:Addr} {Pv:Nat->List V->Hp->Prop} {ys:List V} {v:V} {H4:Hp} (hi:i < n) (hn:n<=sizeLine) (hD:H4 D = some (.lst ys)) (hy:ys.length<=i) (p:Pv (i + 1) (ys ++ [v]) (upd H4 D (.lst (ys ++ [v])))):lcN n i D Pv ys v H4:=
 ⟨hD,by omega,n - (i + 1),by omega,rfl,hi,p⟩
theorem lcS.mk {n i:Nat} {Pv:Nat->List V->Hp->Prop} {ys:List V} {H4:Hp} (hi:i < n) (p:Pv (i + 1) ys H4):lcS n i Pv ys H4:=⟨n - (i + 1),by omega,rfl,hi,p⟩
theorem xF {K:Frag} {a:Addr} {xs:List V} {caps:List (Option Nat)} {g:TG} {tt:TT} {te:TE} {σ : St} {H1:Hp} {Q:VK} {D:Addr} (Pv:Nat->List V->Hp->Prop) (h0:Pv 0 [] (upd H1 D (.lst [])))
  (hl:∀ i ys H,Pv i ys H->SqL K H a xs)
  (hs:∀ i x ys H,i < xs.length->xs[i]? = some x->Pv i ys H->g x (xa caps σ) H fun σ2 H2=>tt σ2 H2 fun ok H3=>(ok = true->te σ2 H3 (lcN xs.length i D Pv ys))/\(ok = false->lcS xs.length i Pv ys H3))
  (hd:∀ ys H,Pv xs.length ys H->Q (.ref D) H):LCr (Itl K a) caps g tt te σ H1 Q D:=by
 refine ⟨fun i m ys H=>m = xs.length - i/\i<=xs.length/\Pv i ys H,⟨xs.length,by simp,Nat.zero_le _,h0⟩,?_⟩
 rintro i m ys H ⟨rfl,hi,p⟩
 have q:=hl i ys H p
 by_cases hlt:i < xs.length
 ·refine .inr ⟨⟨xs,xs[i],q,by simp [hlt]⟩,fun x H' y=>?_⟩
  obtain ⟨e,y⟩:=y
  subst e
  exact hs i x ys _ hlt (y xs q) p
 ·have e:i = xs.length:=by omega
  subst e
  exact .inl ⟨⟨xs,q,Nat.le_refl _⟩,hd ys H p⟩
theorem y9 {H:Hp} {x dx:Addr} {o1:HO} (hx:H x = none) (hd:H dx = none):zm H (upd (upd H dx (.own x)) x o1):=fun b u q=>by
 rw [zg (zf q hx),zg (zf q hd)]
 exact q
theorem zc {H:Hp} {p:Addr} (h:H p = none) (o:HO):zm H (upd H p o):=fun b u q=>by rw [zg (zf q h)]; exact q
theorem wn {lo:Int} {n:Nat} {caps:List (Option Nat)} {g:TG} {tt:TT} {te:TE} {σ : St} {H1:Hp} {Q:VK} {D:Addr} (Pv:Nat->List V->Hp->Prop) (h0:Pv 0 [] (upd H1 D (.lst [])))
  (hs:∀ i ys H,i < n->Pv i ys H->g (.int (lo + i)) (xa caps σ) H fun σ2 H2=>tt σ2 H2 fun ok H3=>(ok = true->te σ2 H3 (lcN n i D Pv ys))/\(ok = false->lcS n i Pv ys H3))
  (hd:∀ ys H,Pv n ys H->Q (.ref D) H):LCr (Itr lo n) caps g tt te σ H1 Q D:=by
 refine ⟨fun i m ys H=>m = n - i/\i<=n/\Pv i ys H,⟨n,by simp,Nat.zero_le _,h0⟩,?_⟩
 rintro i m ys H ⟨rfl,hi,p⟩
 by_cases hlt:i < n
 ·refine .inr ⟨hlt,fun x H' y=>?_⟩
  obtain ⟨e,y⟩:=y
  subst e y
  exact hs i ys _ hlt p
 ·have e:i = n:=by omega
  subst e
  exact .inl ⟨Nat.le_refl _,hd ys H p⟩
theorem zgv {K:Frag} {a:Addr} {xs:List V} {caps:List (Option Nat)} {g:TG} {tt:TT} {te:TE} {σ : St} {H1:Hp} {Q:VK} {D:Addr} (Pv:Nat->List V->Hp->Prop) (h0:Pv 0 [] (upd H1 D (.lst [])))
  (hl:∀ i ys H,Pv i ys H->SqL K H a xs)
  (hs:∀ i x p ys H,i < xs.length->xs[i]? = some x->Pv i ys H->H p = none->g (.ref p) (xa caps σ) (upd H p (.tup [.int i,x])) fun σ2 H2=>tt σ2 H2 fun ok H3=>(ok = true->te σ2 H3 (lcN xs.length i D Pv ys))/\(ok = false->lcS xs.length i Pv ys H3))
  (hd:∀ ys H,Pv xs.length ys H->Q (.ref D) H):LCr (Ite K a) caps g tt te σ H1 Q D:=by
 refine ⟨fun i m ys H=>m = xs.length - i/\i<=xs.length/\Pv i ys H,⟨xs.length,by simp,Nat.zero_le _,h0⟩,?_⟩
 rintro i m ys H ⟨rfl,hi,p⟩
 have q:=hl i ys H p
 by_cases hlt:i < xs.length
 ·refine .inr ⟨⟨xs,xs[i],q,by simp [hlt]⟩,fun x H' y=>?_⟩
  obtain ⟨pp,y,rfl,hp,y2,rfl⟩:=y
  exact hs i y pp ys H hlt (y2 xs q) p hp
 ·have e:i = xs.length:=by omega
  subst e
  exact .inl ⟨⟨xs,q,Nat.le_refl _⟩,hd ys H p⟩
theorem vK {K:Frag} {a:Addr} {xs:List V} {g:TG} {tb:TS} {D:uj} {σ : St} {H:Hp} (Pv:Nat->St->Hp->Prop) (h0:Pv 0 σ H) (hl:∀ i σ H,i<=xs.length->Pv i σ H->SqL K H a xs)
  (hs:∀ i x p σ H,xs[i]? = some x->Pv i σ H->H p = none->g (.ref p) σ (upd H p (.tup [.int i,x])) fun σ2 H2=>tb { D with nx:=Pv (i + 1),ct:=Pv (i + 1),bk:=D.nx } σ2 H2) (hd:∀ σ H,Pv xs.length σ H->D.nx σ H) :
  ∃ W:Nat->Nat->St->Hp->Prop,(∃ m,W 0 m σ H)/\∀ i m σ H,W i m σ H->
   ((Ite K a).stop i H/\D.nx σ H)\/((Ite K a).go i H/\∃ N:St->Hp->Prop,(∀ σ' H',N σ' H'->∃ m',m' < m/\W (i + 1) m' σ' H')/\∀ x H',(Ite K a).yld i H x H'->g x σ H' fun σ2 H2=>tb { D with nx:=N,ct:=N,bk:=D.nx } σ2 H2):=by
 refine ⟨fun i m σ H=>m = xs.length - i/\i<=xs.length/\Pv i σ H,⟨xs.length,by simp,Nat.zero_le _,h0⟩,?_⟩
 rintro i m σ H ⟨rfl,hi,p⟩
 have q:=hl i σ H hi p
 by_cases hlt:i < xs.length
 ·refine .inr ⟨⟨xs,xs[i],q,by simp [hlt]⟩,Pv (i + 1),fun σ' H' p'=>⟨xs.length - (i + 1),by omega,rfl,hlt,p'⟩,fun x H' y=>?_⟩
  obtain ⟨pp,y,rfl,hp,y2,rfl⟩:=y
  exact hs i y pp σ H (y2 xs q) p hp
 ·have e:i = xs.length:=by omega
  subst e
  exact .inl ⟨⟨xs,q,Nat.le_refl _⟩,hd σ H p⟩
section
variable {X:Cx} {pins:List (Addr × Obj)} {σ : St} {H H':Hp} {s s':Shared} {ea:Addr} {cls:Value} {vs:List Value} {h':Heap} {M:Model} {E:Value->Shared->Prop}
end
section
variable {X:Cx} {E:XK} {x:Str} {C:Addr} {B Bn newId nid initId inN:String} {bm bmN:List Value} {np cpos pos:Pos} {e:Expr} {es:List Expr} {t:TA}
end
section
variable {P:Program} {w:World} {K:Frag} {mg:Str->Option Value} {base:Heap} {N:List Str} {qual:Str} {scope:Scope} {f:Addr} {cd:Value} {A:Around} {outer:List Env} {s:Shared} {H:Hp} {E E':XK}
end
section
variable {X:Cx} {k:Nat} {f:Addr} {fd:FuncData} {ps:List Str} {sp:Sp} {E:XK} {x:Str} {p pos:Pos} {e:Expr} {es:List Expr} {t:TA}
end
section
variable {X:Cx} {pins:List (Addr × Obj)} {σ : St} {H H':Hp} {s s':Shared} {ea a:Addr} {cls:Value} {o:HO} {h5:Heap}
end
section
variable {X:Cx} {pins:List (Addr × Obj)} {σ : St} {H:Hp} {s:Shared} {M:Model} {A:Around} {E:Value->Shared->Prop} {i:Nat} {n:Str} {pos:Pos}
end
section
variable {X:Cx} {pins:List (Addr × Obj)} {σ : St} {e:Expr} {es:List Expr} {te ta:TE} {t tr:TA} {E:XK} {x m:Str} {p pos apos:Pos} {k:Nat} {f C:Addr} {fd:FuncData} {ps:List Str} {sp:Sp} {o:Expr} {dvs:List V} {ds:List Value}
end
section
variable {X:Cx} {pins:List (Addr × Obj)} {σ : St} {H:Hp} {s:Shared} {ea:Addr}
variable {st b₀:Stmt} {suite:List Stmt} {c n:Str} {np hpos pos:Pos} {C:Addr} {i:Nat} {tb:XK->TS} {ts:TS} {ok:Value->Prop}
end
end L2
namespace L2
open PySem PySem.W PySem.Builtin PySem.Builtin.ObjectAttr PySem.Builtin.Getset_descriptor PySem.Spec PyProof.Rows
section
variable {prog:Program} {w:World} {A:Around} {E:Value->Shared->Prop} {s:Shared} {K:Frag} {x D:Addr}
end
end L2
namespace L2
open PySem PySem.Spec PyProof.Rows
section
variable {X:Cx}
end
section
variable {P:Program} {w:World} {K:Frag} {mg:Str->Option Value} {base:Heap}
end
section
variable {X:Cx} {k:Nat} {f:Addr} {fd:FuncData} {ps:List Str} {sp:Sp} {x:Str} {p pos:Pos} {e:Expr} {es:List Expr} {t:TA}
end
abbrev uo (n:Int):Obj:={ cls:=.type "range_iterator",data:=.fields #[rawInt (n - 1),rawInt n,rawInt (-1)] }
section
variable {prog:Program} {w:World} {A:Around} {E:Value->Shared->Prop} {s:Shared} {r:Addr} {n:Int} {t u v:Tok}
theorem zc8 (h0 : 0<=n) (h1:n < 2 ^ 62):(Builtin.Range.rangeFitsLong 0 && Builtin.Range.rangeFitsLong n && Builtin.Range.rangeFitsLong 1 && Builtin.Range.rangeFitsLong (-1) && Builtin.Range.rangeFitsLong (0 - 1) && Builtin.Range.rangeFitsLong (Builtin.Range.rangeSize 0 n 1)) = true:=by
 have e:Builtin.Range.rangeSize 0 n 1 = n:=by rw [rangeSize_one]; split <;> omega
 rw [e]
 have f:Builtin.Range.rangeFitsLong n = true:=by unfold Builtin.Range.rangeFitsLong; simp; omega
 rw [f]
 decide
theorem zdC {Q:Value->Shared->Prop} (hr:IsRange s.heap r 0 n 1 t u v) (h0 : 0<=n) (h1:n < 2 ^ 62) (h:Q (.ref s.heap.objs.size) { s with heap:=s.heap.push (uo n) }) :
  wpAny (model prog w) A (call (.builtin "range.__reversed__") [.ref r]) Q E s:=by
 have hT:s.TypeIs (.ref r) "range":=⟨_,hr,rfl⟩
 have e:Builtin.Range.rangeSize 0 n 1 = n:=by rw [rangeSize_one]; split <;> omega
 refine wpAny_call_entry F.slot_range_reversed hT F.entry_range_reversed ?_ (F.args_range_reversed_1 (.ref r))
 unfold Builtin.«range.__reversed__»
 refine wpAny_bind (wpAny_of_eq (a:=Value.ref r) (by rfl) ?_)
 have rf:∀ (Q':Int × Int × Int->Shared->Prop) (E':Value->Shared->Prop) (A':Around),Q' (0,n,1) s->wpAny (model prog w) A' (Builtin.Range.rangeFields (.ref r)) Q' E' s:=by
  intro Q' E' A' q
  unfold Builtin.Range.rangeFields
  refine wpAny_bind (wpAny_field hr rfl (x:=.int 0 t) rfl (wpAny_bind (wpAny_of_eq (a:=some (0:Int)) (by rfl) ?_)))
  refine wpAny_bind (wpAny_field hr rfl (x:=.int n u) rfl (wpAny_bind (wpAny_of_eq (a:=some n) (by rfl) ?_)))
  refine wpAny_bind (wpAny_field hr rfl (x:=.int 1 v) rfl (wpAny_bind (wpAny_of_eq (a:=some (1:Int)) (by rfl) ?_)))
  exact wpAny_pure q
 refine wpAny_bind (rf _ _ _ ?_)
 dsimp only
 rw [zc8 h0 h1]
 simp only [Bool.not_true,Bool.false_eq_true,if_false,if_true]
 rw [e]
 unfold newFields
 refine wpAny_bind (wpAny_newObj_type (wpAny_pure ⟨_,rfl,?_⟩))
 have e2:(0:Int) + (n - 1) * 1 = n - 1:=by omega
 rw [e2]
 exact h
theorem zfr {Q:Value->Shared->Prop} (hr:IsRange s.heap r 0 n 1 t u v) (h0 : 0<=n) (h1:n < 2 ^ 62) (h:Q (.ref s.heap.objs.size) { s with heap:=s.heap.push (uo n) }) :
  codeAny (model prog w) A (.call (.builtin "reversed.__new__") ⟨[.type "reversed",.ref r],[]⟩) (wants Q E) s:=by
 have hT:s.TypeIs (.ref r) "range":=⟨_,hr,rfl⟩
 refine codeAny_of_tree ?_
 show wpAny _ A.in1 (do checkBuiltinCall "reversed.__new__" ⟨[.type "reversed",.ref r],[]⟩; again (.builtin "reversed.__new__" ⟨[.type "reversed",.ref r],[]⟩)) _ _ s
 refine wpAny_bind (wpAny_of_eq (F.newCall_reversed_1 (.ref r)) (wpAny_pure ⟨plainId_quiet F.plain_reversed_new _,?_⟩))
 refine codeAny_builtin F.entry_reversed_new ?_
 rw [Around.under_plainId F.plain_reversed_new (⟨[.type "reversed",.ref r],[]⟩:Args)]
 unfold Builtin.«reversed.__new__»
 refine wpAny_bind (wpAny_of_eq (newClass_reversed (.ref r)) ?_)
 try dsimp only
 refine wpAny_bind (wpAny_of_eq (a:=Unit.unit) (by first | rfl | kernel_rfl) ?_)
 refine wpAny_bind (wpAny_of_eq (a:=Unit.unit) (by first | rfl | kernel_rfl) ?_)
 try dsimp only
 refine wpAny_bind (wpAny_specialOf hT F.slot_range_reversed.lookup ?_)
 try dsimp only
 refine wpAny_bind (wpAny_of_eq (F.slot_range_reversed.bind (.ref r)) ?_)
 try dsimp only
 have hn:¬ ((Value.builtin "range.__reversed__" == Value.none) = true):=Bool.false_ne_true
 first
 | rw [if_neg hn]
 | (show wpAny _ _ (if (Value.builtin "range.__reversed__" == Value.none) = true then _ else _) _ _ _; rw [if_neg hn])
 refine wpAny_bind (wpAny_rule ?_)
 have c1:∀ (Q':Value->Shared->Prop) (E':Value->Shared->Prop) (A':Around),Q' (.ref s.heap.objs.size) { s with heap:=s.heap.push (uo n) }->wpAny (model prog w) A' (runValue (.call (.builtin "range.__reversed__") ⟨[.ref r],[]⟩)) Q' E' s:=fun Q' E' A' q=>zdC hr h0 h1 q
 refine wpAny_bind (c1 _ _ _ ?_)
 first
 | exact wpAny_pure h
 | exact wpAny_bind (wpAny_pure (wpAny_pure h))
theorem zbd:isSubtype (.type "range_iterator") (.type "reversed") = pure false:=by rw [isSubtype_type]; kernel_rfl
theorem zfs {Q:Value->Shared->Prop} (hr:IsRange s.heap r 0 n 1 t u v) (h0 : 0<=n) (h1:n < 2 ^ 62) (h:Q (.ref s.heap.objs.size) { s with heap:=s.heap.push (uo n) }) :
  wpAny (model prog w) A (call (.type "reversed") [.ref r]) Q E s:=by
 refine callType_other (U:="range_iterator") (Q₁:=fun obj s₁=>obj = .ref s.heap.objs.size/\s₁ = { s with heap:=s.heap.push (uo n) }) (by decide +kernel) F.create_reversed ⟨_,_,F.mro_reversed⟩
  F.made_reversed zbd (F.typeCall_reversed_1 (.ref r)) (zfr hr h0 h1 ⟨rfl,rfl⟩) ?_
 rintro obj s₁ ⟨rfl,rfl⟩
 exact ⟨⟨_,Heap.get?_push_size _ rfl,rfl⟩,h⟩
end
theorem zft:bootBuiltins "reversed" = some (.type "reversed"):=by decide +kernel
def zfv (n:Nat):It:=⟨fun i _=>i < n,fun i H x H'=>H' = H/\x = .int ((n:Int) - 1 - i),fun i _=>n<=i⟩
theorem zdT {P:Program} {w:World} {K:Frag} {tg:Expr} (it:Addr) (n:Nat):zaa P w K tg (zfv n) [it] it (fun i h=>IsRangeIter h it (((n:Int) - 1) + (i:Nat) * (-1)) ((n:Int) - (i:Nat)) (-1)) where
 mem:=by simp
 obj:=fun i h st b hb=>by
  have e:b = it:=by simpa using hb
  subst e
  exact ⟨_,st,fun v z=>by
   have z':Data.fields _ = Data.cell v:=z
   cases z'⟩
 keep:=fun i h h' st k=>k it (by simp) _ st
 item:=by
  intro X hP hw hK hc i pins s σ H E I hf st hg
  subst hP hw hK
  obtain ⟨f0,f1,f2,f3,f4,f5⟩:=hf it (by simp)
  have W:=Walks.range (prog:=X.prog) (w:=X.w) (I.ok.hd hc) it ((n:Int) - 1) (-1) n
  refine W.item i s _ _ hg st fun v h' tk hv st' kk=>?_
  obtain ⟨t,rfl⟩:=hv
  have I1:Inv X pins σ H { s with heap:=h',toks:=tk }:=I.turned (fun b o hb e=>kk b o (by simpa using hb) e) f0 f1 f3 f4 f5
  refine ⟨_,rfl,zcJ (s:={ s with heap:=h',toks:=tk }) (n:="range_iterator") st' rfl rfl (by decide) ⟨.int ((n:Int) - 1 - i),H,I1,⟨t,?_⟩,⟨rfl,rfl⟩,st',fun b hb=>(hf b hb).1⟩⟩
  have e:(n:Int) - 1 + (i:Int) * -1 = (n:Int) - 1 - i:=by omega
  rw [e]
 done:=by
  intro X hP hw hK hc i pins s σ H E I hf st hg
  subst hP hw hK
  obtain ⟨f0,f1,f2,f3,f4,f5⟩:=hf it (by simp)
  exact wpAny_pyNext_range_end (I.ok.hd hc) st (by have:n<=i:=hg; omega) fun h' eb=>⟨rfl,I.turned (t':=s.toks) (fun b o hb e=>eb b o hb e) f0 f1 f3 f4 f5⟩
 self:=fun _ _ _ _ _ st h=>wpAny_pyIter_rangeiter st h
section
variable {X:Cx} {tg:Expr}
def zjP (ta:TA):TI:=fun σ H R=>ta σ H fun vs H1=>∃ j:Nat,vs = [.int j]/\(j:Int) < 2 ^ 62/\R (zfv j) H1
theorem zhT {a:Expr} {ta:TA} {p p2 pos pos2:Pos} (hg:Gl X "range") (hm:X.mg "range" = none) (hg2:Gl X "reversed") (hm2:X.mg "reversed" = none) (ha:PA X [a] ta) (h1:wL a = false:=by rfl) :
  PI X tg (.Call (.Name "reversed" p) [.Call (.Name "range" p2) [a] [] pos2] [] pos) (zjP ta):=by
 refine ⟨?_⟩
 intro pins s σ H R I h
 refine Call_ (xN I hg2 hm2 zft (PyProof.Rows.callWith_type1 ?_ (yu rfl) rfl))
 rw [yu (show wL (.Call (.Name "range" p2) [a] [] pos2) = false from rfl)]
 show wpAny _ _ (spliced ((false,eval (.Call (.Name "range" p2) [a] [] pos2) X.env) :: backTo pos (starEach [] X.env))) _ _ s
 refine Calls.spliced_cons ?_
 refine Call_ (xN I hg hm boot_range (PyProof.Rows.callWith_type1 (thn (ha pos2 pins s σ H _ I h) fun us s1 ⟨vs,H1,I1,r1,j,e,hj,q⟩=>?_) (yu h1) rfl))
 subst e
 cases r1 with
 | cons r rr=>
  cases rr
  obtain ⟨t,rfl⟩:=r
  refine call_range_1 (Calls.spliced_nil ?_)
  refine zfs (IsRange.new ..) (by omega) hj ?_
  generalize hg1:s1.heap.push { cls:=.type "range",data:=.fields #[.int 0 s1.toks,.int j t,.int 1 (s1.toks + 1)] } = hh
  have k1:∀ b o,s1.heap.get? b = some o->hh.get? b = some o:=fun b o e=>by rw [<- hg1]; exact Heap.get?_push_of_some _ e
  have I2:Inv X pins σ H1 { s1 with heap:=hh,toks:=s1.toks + 1 + 1 }:=I1.kept k1
  have hit:IsRangeIter (hh.push (uo j)) hh.objs.size ((j:Int) - 1) j (-1):=Heap.get?_push_size _ rfl
  refine wpAny_pyIter_rangeiter (s:={ s1 with heap:=hh.push (uo j),toks:=s1.toks + 1 + 1 }) hit ?_
  have I3:Inv X pins σ H1 { s1 with heap:=hh.push (uo j),toks:=s1.toks + 1 + 1 }:=I2.kept fun b o e=>Heap.get?_push_of_some _ e
  refine ⟨hh.objs.size,[hh.objs.size],_,_,H1,rfl,I3,zdT _ j,?_,fun b hb=>?_,q⟩
  ·show IsRangeIter _ _ (((j:Int) - 1) + ((0:Nat):Int) * (-1)) ((j:Int) - ((0:Nat):Int)) (-1)
   have e1:((j:Int) - 1) + ((0:Nat):Int) * (-1) = (j:Int) - 1:=by simp
   have e2:(j:Int) - ((0:Nat):Int) = j:=by simp
   rw [e1,e2]
   exact hit
  ·have e:b = hh.objs.size:=by simpa using hb
   subst e
   exact I2.fpOk (Nat.le_refl _) (I2.hok.fresh (Nat.le_refl _))
theorem zgF {n:Nat} {g:TG} {tb:TS} {D:uj} {σ : St} {H:Hp} (Pv:Nat->St->Hp->Prop) (h0:Pv 0 σ H)
  (hs:∀ i σ H,i < n->Pv i σ H->g (.int ((n:Int) - 1 - i)) σ H fun σ2 H2=>tb { D with nx:=Pv (i + 1),ct:=Pv (i + 1),bk:=D.nx } σ2 H2) (hd:∀ σ H,Pv n σ H->D.nx σ H) :
  ∃ W:Nat->Nat->St->Hp->Prop,(∃ m,W 0 m σ H)/\∀ i m σ H,W i m σ H->
   ((zfv n).stop i H/\D.nx σ H)\/((zfv n).go i H/\∃ N:St->Hp->Prop,(∀ σ' H',N σ' H'->∃ m',m' < m/\W (i + 1) m' σ' H')/\∀ x H',(zfv n).yld i H x H'->g x σ H' fun σ2 H2=>tb { D with nx:=N,ct:=N,bk:=D.nx } σ2 H2):=by
 refine ⟨fun i m σ H=>m = n - i/\i<=n/\Pv i σ H,⟨n,by simp,Nat.zero_le _,h0⟩,?_⟩
 rintro i m σ H ⟨rfl,hi,p⟩
 by_cases hlt:i < n
 ·refine .inr ⟨hlt,Pv (i + 1),fun σ' H' p'=>⟨n - (i + 1),by omega,rfl,hlt,p'⟩,fun x H' y=>?_⟩
  obtain ⟨e,y⟩:=y
  subst e y
  exact hs i σ _ hlt p
 ·have e:i = n:=by omega
  subst e
  exact .inl ⟨Nat.le_refl _,hd σ H p⟩
end
section
variable {X:Cx} {o i:Expr} {to ti:TE} {pos tpos:Pos}
def zjw:R2:=fun x y H Q=>∃ (a c:Addr) (xs ys:List V),x = .ref a/\y = .ref c/\H a = some (.lst xs)/\H c = some (.lst ys)/\xs.length ≠ ys.length/\Q (.bl false) H
theorem zeA (hu:X.A.units < cLine):OpR X (compareOp .Eq) zjw:=by
 intro pins s σ H x y v u Q I rx ry h
 obtain ⟨a,c,xs,ys,rfl,rfl,ha,hc,hn,q⟩:=h
 cases rx
 cases ry
 obtain ⟨its,r,pl,_⟩:=I.list (SqL.of ha)
 obtain ⟨its2,r2,pl2,_⟩:=I.list (SqL.of hc)
 have e1:=r.length
 have e2:=r2.length
 exact PySem.SeqAt.eq_list_lengthsAt pl.isList pl2.isList (by simp only [List.size_toArray,bne_iff_ne]; omega) hu ⟨.bl false,H,I,rfl,q⟩
end
section
variable {X:Cx} {pins:List (Addr × Obj)} {σ : St} {e:Expr} {te:TE} {pos p:Pos} {C:Addr} {x:Str}
end
theorem xJ {H H1:Hp} {x dx:Addr} {o1 o2:HO} (hx:H x = none) (hd:H dx = none) (s:zm (upd (upd H dx (.own x)) x o1) H1):zm H (upd H1 x o2):=fun b u q=>by
 rw [zg (zf q hx)]
 exact s _ _ (y9 hx hd b u q)
structure zdJ (P:Program) (w:World) (K:Frag) (mg:Str->Option Value) (base:Heap) (CX:CXT) (k:Nat) (x:Str) (C i:Addr) (fd:FuncData) (ps:List Str) (ds:List Value) (sp:Sp):Prop where
 mkr:Mk K C i
 ok:zA P w K mg base CX k i fd ps sp
 mg:mg x = some (.ref C)
 bd:zV K fd ps ds
section
variable {X:Cx} {CX:CXT} {k:Nat} {C i f:Addr} {fd:FuncData} {ps ks:List Str} {sp:Sp} {E:XK} {x m:Str} {p pos apos:Pos} {e:Expr} {es:List Expr} {t tk:TA} {ds:List Value} {dvs:List V} {kws:List Keyword}
 {g:List Value->List Value->List Value} {gV:List V->List V->List V}
theorem cMk (c:zdJ X.prog X.w X.K X.mg X.base CX k x C i fd ps ds sp) (hd:zS dvs ds) (hp:wb CX X E) (hr:yq (k + 1) X.A) (ha:PA X (e :: es) t) (hg:Gl X x:=by rfl) (hdb:(x == ("__debug__" : Str)) = false:=by decide)
  (h1:wL e = false:=by rfl) (h2:es.any wL = false:=by rfl):PE X (.Call (.Name x p) (e :: es) [] pos) (zgU C sp dvs E t):=zcz c.mkr c.ok hr hg c.mg c.bd hd hp ha hdb (yu h1) (wf h2)
structure jw (K:Frag) (C:Addr) (m:Str) (f:Addr):Prop where
 ga:PySem.W.specialIn K (.ref C) "__getattribute__" = some (some (.builtin "type.__getattribute__"))
 rd:PySem.W.readsIn K C (.type "type") = true
 fc:PySem.W.findCls K (.ref C) (.type "type") m = some (.val (.ref f))
 kp:keepIn K (.ref f) = true
theorem zaw {pl:Sem Bool} (B:jw X.K C m f) (hm:X.mg x = some (.ref C)) (F:zA X.prog X.w X.K X.mg X.base CX k f fd ps sp) (hr:yq k X.A) (hb:zV X.K fd ps []) (hx:wb CX X E) (ha:PA X (e :: es) t) (hg:Gl X x:=by rfl)
  (hdb:(x == ("__debug__" : Str)) = false:=by decide) (h1:wL e = false:=by rfl) (h2:es.any wL = false:=by rfl)
  (ht:eval (.Call (.Attribute (.Name x p) m apos) (e :: es) [] pos) X.env = (do
   let ov <- eval (.Name x p) X.env
   standAt apos.atName
   let (f,first) <- holding [ov] (getMethod ov m pl)
   callWith pos f first (backTo pos (starEach (e :: es) X.env)) (backToKw pos (keywordEach [] X.env))):=by rfl) :
  PE X (.Call (.Attribute (.Name x p) m apos) (e :: es) [] pos) (zdU sp [] E t):=by
 refine ⟨?_⟩
 intro pins s σ H Q I h
 refine methodCall_KW (pl:=pl) (vG I hg hm ?_ hdb) ht
 refine PySem.W.method_cls I.kIn B.ga (PySem.W.cls_value I.kIn B.rd B.fc rfl ?_)
 have It:=I.tok (s.toks + 1)
 refine callWith_K (first:=[]) (h₀:=X.base) I.ok.mod.kin B.kp (thn (ha pos pins _ σ H _ It h) fun us s2 ⟨vs,H2,I2,r,q2⟩=>⟨I2.kIn,?_⟩) (yu h1) (wf h2)
 exact uW F hr hb .nil hx I2 r q2
end
theorem wU {X:Cx} {st:Stmt}:PS X st (fun _ _ _=>False):=⟨fun _ _ _ _ _ _ h=>h.elim⟩
def zjX (P:Program) (w:World) (a:Addr) (S:Str->Bool) (n:Nat) (h:Heap):Prop:=h.SetOf (strKind P w) a S n
abbrev wE (P:Program) (w:World) (a:Addr) (S:Str->Bool) (n:Nat):HO:=.ext (zjX P w a S n)
theorem qo {P:Program} {w:World} {H:Hp} {h:Heap} {a:Addr} {S:Str->Bool} {n:Nat} (e:h.SetOf (strKind P w) a S n):yy P w H h a (wE P w a S n):=
 ⟨e,let ⟨o,_,_,_,h1,_⟩:=e; ⟨o,h1⟩,fun g1 g2 q k=>let ⟨o,es,ep,t,h1,c⟩:=q; ⟨o,es,ep,t,k o h1,c⟩⟩
section
variable {X:Cx}
theorem zdA:yN X (.type "set") (fun xs H Q=>xs = []/\∀ p,H p = none->Q (.ref p) (upd H p (wE X.prog X.w p (fun _=>false) 0))):=by
 intro pins s σ H xs us Q I r h
 obtain ⟨rfl,q⟩:=h
 cases r
 refine call_set_0 fun led=>?_
 have hf:H s.heap.objs.size = none:=I.hok.fresh (Nat.le_refl _)
 refine ⟨.ref s.heap.objs.size,_,I.laid (t':=s.toks) (fun b u e=>Heap.get?_push_of_some _ e) (Nat.le_refl _) (qo ?_),rfl,q _ hf⟩
 exact (setObjOf_fresh led).setOf (Heap.get?_push_size _ rfl) (by decide)
theorem jb:OpR X (compareOp .In) (fun x y H Q=>∃ (a:Addr) (S:Str->Bool) (n:Nat) (z:Str),x = .str z/\y = .ref a/\H a = some (wE X.prog X.w a S n)/\Q (.bl (S z)) H):=by
 intro pins s σ H x y v u Q I rx ry h
 obtain ⟨a,S,n,z,rfl,rfl,e,q⟩:=h
 obtain ⟨t,rfl⟩:=rx
 cases ry
 have hS:s.heap.SetOf (strKind X.prog X.w) a S n:=(I.hok a _ e).1
 exact wpAny_inSet_of (strKind_is X.prog X.w z t) rfl hS ⟨.bl (S z),H,I.tok _,rfl,q⟩
def zix (P:Program) (w:World) (to te:TE):TE:=fun σ H Q=>to σ H fun x H1=>∃ (a:Addr) (S:Str->Bool) (n:Nat),x = .ref a/\H1 a = some (wE P w a S n)/\te σ H1 fun y H2=>∃ (S:Str->Bool) (n:Nat) (z:Str),y = .str z/\H2 a = some (wE P w a S n)/\n + 1 < scanBound/\
 Q .non (upd H2 a (wE P w a (fun k=>S k || decide (k = z)) (if S z then n else n + 1)))
theorem zfZ {o e:Expr} {apos cpos:Pos} {to te:TE} (ho:PE X o to) (he:PE X e te) (m:M1 X o "add" apos e cpos):PE X (.Call (.Attribute o "add" apos) [e] [] cpos) (zix X.prog X.w to te):=by
 refine ⟨?_⟩
 intro pins s σ H Q I h
 refine wpAny_Call_method m.base m.few m.line PySem.F.plainAttrs_set PySem.F.slot_set_add PySem.F.type_set_add (thn (ho pins s σ H _ I h) fun u s1 ⟨x,H1,I1,rx,a,S,n,ex,d,q1⟩=>?_)
 subst ex
 obtain rfl:u = Value.ref a:=rx
 have hS:s1.heap.SetOf (strKind X.prog X.w) a S n:=(I1.hok a _ d).1
 refine ⟨hS.typeIs,hS.noDict,?_⟩
 rw [m.trees]
 refine Calls.callWith_builtin rfl (Calls.evalArgs_plain (Calls.spliced_cons (thn (he pins s1 σ H1 _ I1 q1) fun iv s2 ⟨y,H2,I2,ry,S2,n2,z,ey,e2,hn,q2⟩=>Calls.spliced_nil ?_)))
 subst ey
 obtain ⟨t,rfl⟩:=ry
 have hS2:s2.heap.SetOf (strKind X.prog X.w) a S2 n2:=(I2.hok a _ e2).1
 refine call_set_add (strKind_is X.prog X.w z t) rfl hS2 hn fun h' hs hS3=>⟨.non,_,?_,rfl,q2⟩
 refine I2.write (x:=a) (e:=a) (by rw [e2]; exact True.intro) (.inl rfl) (fun b q hb z=>(hs.2 b hb).trans z) (let ⟨o,_,_,_,h1,_⟩:=hS3; ⟨o,h1⟩) (qo hS3)
def zhk (Cs:Addr->Prop) (m:Str) (sp:Sp) (E:XK) (ta:TE):TE:=fun σ H Q=>ta σ H fun x H1=>∃ a C dx fs,x = .ref a/\Cs C/\H1 a = some (.ins C dx fs)/\fs.lookup m = none/\sp [x] H1 Q E
theorem xK {CX:CXT} {k:Nat} {f:Addr} {fd:FuncData} {ps:List Str} {sp:Sp} {E:XK} {m:Str} {pos apos:Pos} {o:Expr} {ta:TE} {Cs:Addr->Prop} {pl:Sem Bool} (he:PE X o ta) (hC:∀ C,Cs C->Cls X.K C/\y1 X.K C m f) (F:zA X.prog X.w X.K X.mg X.base CX k f fd ps sp) (hr:yq k X.A) (hb:zV X.K fd ps []) (hx:wb CX X E)
  (ht:eval (.Call (.Attribute o m apos) [] [] pos) X.env = (do
   let ov <- eval o X.env
   standAt apos.atName
   let (f,first) <- holding [ov] (getMethod ov m pl)
   callWith pos f first (backTo pos (starEach [] X.env)) (backToKw pos (keywordEach [] X.env))):=by rfl) :
  PE X (.Call (.Attribute o m apos) [] [] pos) (zhk Cs m sp E ta):=by
 refine ⟨?_⟩
 intro pins s σ H Q I h
 refine methodCall_KW (pl:=pl) (thn (he pins s σ H _ I h) fun u s1 ⟨x,H1,I1,rx,a,C,dx,fs,ex,hc,ea,l,q⟩=>?_) ht
 subst ex
 obtain rfl:u = Value.ref a:=rx
 obtain ⟨c,hm⟩:=hC C hc
 refine wA I1 ea c hm l ?_
 exact PySem.W.callWith_K0 (first:=[.ref a]) I1.kIn hm.kp (uW (us:=[.ref a]) (vs:=[.ref a]) F hr hb .nil hx I1 (.cons rfl .nil) q)
structure zis (w:World) (K:Frag) (a:Addr) (f:Str->Option V):Prop where
 obj:∃ es n,K.lookup a = some ⟨.type "dict",none,.dict es n,#[]⟩/\KeysLit w.params es.toList
 vals:∀ x v,f x = some v->∃ u,nsIn K a x = some (some u)/\zR v u
theorem zf0 {e:Expr} {d:Str} {p pos:Pos} {a:Addr} {f:Str->Option V} {te:TE} (T:zis X.w X.K a f) (hm:X.mg d = some (.ref a)) (he:PE X e te) (hg:Gl X d:=by rfl) (hs:zir e:=by first | exact fun _ _=>rfl | decide | rfl) (hdb:(d == ("__debug__" : Str)) = false:=by decide) :
  PE X (.Subscript (.Name d p) e pos) (fun σ H Q=>te σ H fun y H1=>∃ x v,y = .str x/\f x = some v/\Q v H1):=by
 refine ⟨?_⟩
 intro pins s σ H Q I h
 obtain ⟨es,n,hl,hk⟩:=T.obj
 refine zcc PySem.F.slot_dict_getitem.lookup hs (vG I hg hm (thn (he pins s σ H _ I h) fun iv s2 ⟨y,H2,I2,ry,x,v,ey,ef,q2⟩=>?_) hdb)
 subst ey
 obtain ⟨t,rfl⟩:=ry
 obtain ⟨u,eu,ru⟩:=T.vals x v ef
 have hmap:=PySem.W.mapOf_K (prog:=X.prog) (w:=X.w) I2.kIn hl hk
 exact ⟨hmap.typeIs,wpAny_getItem_of (strKind_is X.prog X.w x t) hmap (PySem.W.find_K hl eu) ⟨v,H2,I2.tok _,ru,q2⟩⟩
end
section
variable {X:Cx} {pins:List (Addr × Obj)} {σ : St} {H:Hp} {s:Shared} {sc:Scope} {fr Nc:List Str} {fp:List Addr} {C:Addr}
theorem zaZ {caps:List (Option Nat)} {h':Heap} {D:Addr} {m:Str->Option Value} {t':Nat} {o0:HO} (I:Inv X pins σ H s) (B:yO X.env sc fr) (hf:∀ b ∈ fp,wQ X pins H b) (ho:∀ b ∈ fp,∃ o,s.heap.get? b = some o)
  (hC:s.heap.objs.size<=C) (hD:s.heap.objs.size<=D) (hDC:D ≠ C) (keep:∀ b o,s.heap.get? b = some o->h'.get? b = some o) (new:yy X.prog X.w (upd H D o0) h' D o0) (hn:h'.Ns C m)
  (hcap:vo X.N Nc caps X.env sc fr = true) (hlen:caps.length = Nc.length) :
  Inv (zN X pins sc fr Nc fp s H C) [] (xa caps σ) (upd H D o0) { s with heap:=h',toks:=t' }:=by
 have hk:X.env.scope.kind = .function:=I.ok.kind
 have fresh:∀ a,s.heap.objs.size<=a->H a = none:=fun a ha=>I.hok.fresh ha
 refine ⟨zcT I B hf ho hC,rfl,I.bare,Un.laid keep hD (fresh D hD),⟨m,hn,fun i x v e1 e2 e3=>?_⟩,fun x c h=>?_,?_,fun x c h=>?_,fun p hp=>?_,?_,?_⟩
 ·
  have e2':(caps[i]?).map (fun o=>match o with | none=>none | some j=>(σ[j]?).join) = some (some v):=by
   have:(xa caps σ)[i]? = some (some v):=e2
   unfold xa at this
   rw [List.getElem?_map] at this
   exact this
  cases hc:caps[i]? with
  | none=>rw [hc] at e2'; cases e2'
  | some o=>
   rw [hc] at e2'
   cases o with
   | none=>simp at e2'
   | some j=>
    have e4:(σ[j]?).join = some v:=by simpa using e2'
    have e5 : σ[j]? = some (some v):=by
     cases q : σ[j]? with
     | none=>rw [q] at e4; cases e4
     | some w'=>rw [q] at e4; simp at e4; rw [e4]
    have e6:(Nc.zip caps)[i]? = some (x,some j):=by
     rw [List.getElem?_zip_eq_some]
     exact ⟨e1,hc⟩
    have e7:=List.all_eq_true.mp hcap _ (List.mem_of_getElem? e6)
    simp only [Bool.and_eq_true,beq_iff_eq,List.contains_iff_mem] at e7
    obtain ⟨⟨⟨a1,a2⟩,a3⟩,a4⟩:=e7
    obtain ⟨m0,hn0,hl0⟩:=I.loc
    obtain ⟨u,r,l⟩:=hl0 j x v a1 e5 (.inr (.inl a2))
    refine ⟨u,r,.inr ⟨.inl (wq hk a3 a2),_,qW a4,?_⟩⟩
    rcases l with ⟨z,_⟩ | ⟨_,c,ec,hcell⟩
    ·rw [a2] at z; cases z
    ·have:(X.env.cells.lookup x).getD 0 = c:=by rw [ec]; rfl
     rw [this]
     exact hcell.keeps keep
 ·obtain ⟨v,hv⟩:=I.cell x c (B.sub h)
  exact ⟨v,hv.keeps keep⟩
 ·show upd H D o0 C = none
  rw [zg (Ne.symm hDC)]; exact fresh C hC
 ·obtain ⟨v,hv⟩:=I.cell x c (B.sub h)
  have:c ≠ D:=fun z=>by have:=hv.lt; rw [z] at this; exact absurd (Nat.lt_of_lt_of_le this hD) (Nat.lt_irrefl _)
  rw [zg this]; exact I.freeC x c (B.sub h)
 ·have hp':p ∈ X.pn ++ pins:=by simpa using hp
  obtain ⟨e,n,ne,nf,d⟩:=I.pin p hp'
  have hlt:=I.pin_lt hp'
  refine ⟨keep _ _ e,?_,?_,fun z=>?_,d⟩
  ·rw [zg (fun z=>by rw [z] at hlt; exact absurd (Nat.lt_of_lt_of_le hlt hD) (Nat.lt_irrefl _))]; exact n
  ·intro z
   have z':p.1 = C:=z
   rw [z'] at hlt; exact absurd (Nat.lt_of_lt_of_le hlt hC) (Nat.lt_irrefl _)
  ·rcases List.mem_cons.mp (I.stkSub p.1 z) with q | q
   ·exact ne q
   ·exact nf q
 ·exact I.hok.laid keep hD new
 ·show (xa caps σ).length = Nc.length
  unfold xa
  rw [List.length_map,hlen]
end
section
variable {prog:Program} {w:World} {A:Around} {R:Result->Shared->Prop} {s:Shared}
theorem jz {kx vx target iter:Expr} {ifs:List Expr} {scope:Scope} {pos:Pos} {it:Value} {D:Addr} {env:Env} (I:Nat->Shared->Prop)
  (turn:∀ n s,I n s->wpAny (model prog w) A (pyNext it) (fun r s₁=>match r with
   | none=>R (.ok .next) s₁
   | some v=>wpAny (model prog w) A (letOwnedTupleGo target it v) (fun _ s₀=>wpAny (model prog w) A (assign target env v) (fun _ s₂=>
     wpAny (model prog w) A (forIn ifs true fun c r=>if r = true then do let ok <- isTrue c env (eval c env); pure (ForInStep.yield ok) else pure (ForInStep.yield r)) (fun ok s₃=>
      if ok = true then wpAny (model prog w) A (eval kx env) (fun kv s₄=>wpAny (model prog w) A (eval vx env) (fun vv s₅=>
       wpAny (model prog w) A (dictSet D kv vv) (fun _ s₆=>∃ m,m < n/\I m s₆) (fun _ _=>False) s₅) (fun _ _=>False) s₄) (fun _ _=>False) s₃
      else ∃ m,m < n/\I m s₃) (fun _ _=>False) s₂) (fun _ _=>False) s₀) (fun _ _=>False) s₁) (fun _ _=>False) s)
  (n:Nat) (h:I n s) :
  codeAny (model prog w) A (.compLoop (.DictComp kx vx [⟨target,iter,ifs,0⟩] scope pos) 0 it (.ref D) env) R s:=by
 refine codeAny_loop rfl I (fun n s hI=>?_) n h
 show wpAny _ A ((compTurn (.DictComp kx vx [⟨target,iter,ifs,0⟩] scope pos) 0 it (.ref D) env).onRaise (fun x=>do noteFrame x env; theTreesLotGoes x)) _ _ s
 refine wpAny_noted ?_
 rw [compTurn_dict]
 refine wpAny_bind (wpAny_standAt (wpAny_bind (wpAny_mono (turn n s hI) (fun r s₁ h₁=>?_) fun _ _ z=>z.elim)))
 cases r with
 | none=>exact wpAny_pure h₁
 | some v=>
  refine wpAny_bind (wpAny_mono h₁ (fun _ s₀ h₀=>?_) fun _ _ z=>z.elim)
  refine wpAny_bind (wpAny_mono h₀ (fun _ s₂ h₂=>wpAny_bind (wpAny_mono h₂ (fun ok s₃ h₃=>?_) fun _ _ z=>z.elim)) fun _ _ z=>z.elim)
  cases ok with
  | false=>exact wpAny_pure ⟨rfl,h₃⟩
  | true=>
   exact wpAny_bind (wpAny_bind (wpAny_mono h₃ (fun kv s₄ h₄=>wpAny_bind (wpAny_holding (wpAny_mono h₄ (fun vv s₅ h₅=>wpAny_bind (wpAny_standAt (wpAny_holding (wpAny_mono h₅ (fun _ s₆ h₆=>wpAny_pure ⟨rfl,h₆⟩) fun _ _ z=>z.elim)))) fun _ _ z=>z.elim))) fun _ _ z=>z.elim))
end
def DCr (J:It) (caps:List (Option Nat)) (g:TG) (tt:TT) (tk tv:TE) (σ : St) (H1:Hp) (Q:VK) (D:Addr):Prop:=
 ∃ W:Nat->Nat->List (Key × V)->Hp->Prop,(∃ m,W 0 m [] (upd H1 D (.dK [])))/\∀ i m ys H,W i m ys H->
  (J.stop i H/\Q (.ref D) H)\/
  (J.go i H/\∀ x H',J.yld i H x H'->g x (xa caps σ) H' fun σ2 H2=>tt σ2 H2 fun ok H3=>
   (ok = true->tk σ2 H3 fun y H4=>tv σ2 H4 fun v H5=>∃ k,y = kV k/\H5 D = some (.dK ys)/\ys.length < sizeLine/\∃ m',m' < m/\W (i + 1) m' (yP ys k v) (upd H5 D (.dK (yP ys k v))))/\
   (ok = false->∃ m',m' < m/\W (i + 1) m' ys H3))
def tDC (wi:TI) (caps:List (Option Nat)) (g:TG) (tt:TT) (tk tv:TE):TE:=fun σ H Q=>wi σ H fun J H1=>∀ D,H1 D = none->DCr J caps g tt tk tv σ H1 Q D
section
variable {X:Cx} {pins:List (Addr × Obj)} {σ : St} {s:Shared} {sc:Scope} {fr Nc:List Str} {caps:List (Option Nat)} {kx vx tg iter:Expr} {ifs:List Expr} {g:TG} {tt:TT} {tk tv:TE} {ow:List Nat} {pos pos2:Pos} {E:Value->Shared->Prop}
theorem ziE {H:Hp} (I:Inv X pins σ H s):sysModules < s.heap.objs.size:=I.big
theorem zdx {H2:Hp} {it:Addr} {fp:List Addr} {tn:Nat->Heap->Prop} {J:It} {Q:VK} {RR:Value->Addr->Result->Shared->Prop}
  (hc:X.calm = true) (B:yO X.env sc fr) (go:zb4 g ow) (how:(ow.all fun i=>caps[i]? == some none) = true) (hcap:vo X.N Nc caps X.env sc fr = true) (hlen:caps.length = Nc.length)
  (hb:∀ (pins:List (Addr × Obj)) (fp:List Addr) (s:Shared) (H:Hp) (C:Addr),PG (zN X pins sc fr Nc fp s H C) tg g/\PIf (zN X pins sc fr Nc fp s H C) ifs tt/\PE (zN X pins sc fr Nc fp s H C) kx tk/\PE (zN X pins sc fr Nc fp s H C) vx tv)
  (I2:Inv X pins σ H2 s) (T:zaa X.prog X.w X.K tg J fp it tn) (st2:tn 0 s.heap) (f2:∀ b ∈ fp,wQ X pins H2 b) (h:∀ D,H2 D = none->DCr J caps g tt tk tv σ H2 Q D)
  (fin:∀ (D C:Addr) (σ':St) (H':Hp) (s':Shared),Inv (zN X pins sc fr Nc fp s H2 C) [] σ' H' s'->Q (.ref D) H'->RR (.ref D) C (.ok .next) s') :
  wpAny (model X.prog X.w) X.A newDict (fun acc s₃=>wpAny (model X.prog X.w) X.A (newFunctionEnv sc X.env.globals (clB X.env fr) [] X.env.qual none .none (some X.env)) (fun cenv s₄=>
   codeAny (model X.prog X.w) X.A (.compStart (.DictComp kx vx [⟨tg,iter,ifs,0⟩] sc pos) 0 (.ref it) acc { cenv with scope:=relabel sc X.env }) (RR acc cenv.locals) s₄) E s₃) E s:=by
 have hcell:∀ y ∈ sc.names,y.2 ≠ .cell:=fun y hy=>by
  have h3:=List.all_eq_true.mp B.names _ hy
  simp only [Bool.and_eq_true,bne_iff_ne,ne_eq] at h3
  exact h3.1.1
 refine wpAny_newObj_type (wpAny_newFunctionEnv hcell (by intro y hy; simp at hy) (fun h₁ hns₁ hsb₁=>?_) B.kind)
 dsimp only at hns₁ hsb₁ |-
 have hnew:(s.heap.push { cls:=.type "dict",dict:=none,data:=.dict #[] }).DictOf (yg X.prog X.w) s.heap.objs.size []:=Heap.DictOf.new s.heap
 generalize hH2:s.heap.push { cls:=.type "dict",dict:=none,data:=.dict #[] } = H3 at hns₁ hsb₁ hnew |-
 have hCs:H3.objs.size = s.heap.objs.size + 1:=by rw [<- hH2,Heap.size_push]
 have hDC:s.heap.objs.size ≠ H3.objs.size:=by rw [hCs]; exact Nat.ne_of_lt (Nat.lt_succ_self _)
 have hC:s.heap.objs.size<=H3.objs.size:=by rw [hCs]; exact Nat.le_succ _
 have old:∀ b o,s.heap.get? b = some o->h₁.get? b = some o:=fun b o e=>
  hsb₁.extBut b o (Nat.ne_of_lt (Nat.lt_of_lt_of_le (Heap.lt_size e) hC)) (Heap.get?_push_of_some _ (hH2 ▸ Heap.get?_push_of_some _ e))
 have hsm:sysModules < s.heap.objs.size:=ziE I2
 have hD:h₁.DictOf (yg X.prog X.w) s.heap.objs.size []:=hnew.at fun o e=>hsb₁.extBut _ _ hDC (Heap.get?_push_of_some _ e)
 have hDo:∀ H',yy X.prog X.w H' h₁ s.heap.objs.size (.dK []):=fun _=>⟨Nat.zero_le _,beq_eq_false_iff_ne.mpr (Ne.symm (Nat.ne_of_lt hsm)),[],.nil,hD⟩
 have ho:∀ b ∈ fp,∃ o,s.heap.get? b = some o:=fun b hb'=>let ⟨o,e,_⟩:=T.obj 0 _ st2 b hb'; ⟨o,e⟩
 have I4:∀ t',Inv (zN X pins sc fr Nc fp s H2 H3.objs.size) [] (xa caps σ) (upd H2 s.heap.objs.size (.dK [])) { s with heap:=h₁,toks:=t' }:=fun t'=>
  zaZ I2 B f2 ho hC (Nat.le_refl _) hDC old (hDo _) hns₁ hcap hlen
 have ok:=(I4 0).ok
 obtain ⟨hbg,hbt,hbk,hbv⟩:=hb pins fp s H2 H3.objs.size
 obtain ⟨W,⟨m0,w0⟩,turn⟩:=h s.heap.objs.size (I2.hok.fresh (Nat.le_refl _))
 have stat:∀ {H':Hp},(∀ b ∈ fp,H' b = none)->∀ b ∈ fp,wQ (zN X pins sc fr Nc fp s H2 H3.objs.size) [] H' b:=fun hn b hb'=>
  ⟨hn b hb',(ok.exf b hb').1,ok.exfs b hb',.inl hb',(ok.exf b hb').2,fun p hp=>(f2 b hb').2.2.2.2.2 p (by simpa using hp)⟩
 have hfp0:∀ b ∈ fp,upd H2 s.heap.objs.size (.dK []) b = none:=fun b hb'=>by
  obtain ⟨o,e⟩:=ho b hb'
  rw [zg (Nat.ne_of_lt (Heap.lt_size e))]
  exact (f2 b hb').1
 have loop:∀ s₃:Shared,s₃ = { s with heap:=h₁,toks:=s.toks + ([]:List (Str × Value)).length }->
   codeAny (model X.prog X.w) X.A (.compLoop (.DictComp kx vx [⟨tg,iter,ifs,0⟩] sc pos) 0 (.ref it) (.ref s.heap.objs.size) (compEnvC sc (clB X.env fr) H3.objs.size X.env)) (RR (.ref s.heap.objs.size) H3.objs.size) s₃:=by
  rintro s₃ rfl
  refine jz (fun n s'=>∃ i σ' H' ys,Inv (zN X pins sc fr Nc fp s H2 H3.objs.size) [] σ' H' s'/\tn i s'.heap/\(∀ b ∈ fp,H' b = none)/\W i n ys H'/\
   (∀ (k:Nat) (v:V),(xa caps σ)[k]? = some (some v)->σ'[k]? = some (some v))) ?_ m0
   ⟨0,_,_,[],I4 _,T.keep _ _ _ st2 (fun b _ o e=>old b o e),hfp0,w0,fun _ _ e=>e⟩
  rintro n s3 ⟨i,σ3,H4,ys,I3,st3,fr3,w3,wk3⟩
  have I3':Inv (zN X pins sc fr Nc fp s H2 H3.objs.size) [] (xa caps σ) H4 s3:=I3.weak (by rw [I3.len]; exact (I4 0).len) wk3
  rcases turn i n ys H4 w3 with ⟨stop,qn⟩ | ⟨gg,step⟩
  ·refine thn (T.done (zN X pins sc fr Nc fp s H2 H3.objs.size) rfl rfl rfl hc i [] s3 _ H4 (fun _ _=>False) I3' (stat fr3) st3 stop) fun r s4 ⟨hr,I4'⟩=>?_
   subst hr
   exact fin _ _ _ _ _ I4' qn
  ·refine thn (T.item (zN X pins sc fr Nc fp s H2 H3.objs.size) rfl rfl rfl hc i [] s3 _ H4 (fun _ _=>False) I3' (stat fr3) st3 gg) fun r s4 ⟨u,hr,h4⟩=>?_
   subst hr
   refine thn h4 fun _ s5 ⟨x,H5,I5,r5,y5,st5,fr5⟩=>?_
   have I5':=I5.pinned (stat fr5) (T.obj _ _ st5)
   refine thn (hbg _ s5 _ H5 x u _ I5' r5 (go _ _ _ _ (step x H5 y5))) fun _ s6 ⟨σ6,H6,I6,q6,l6,k6⟩=>?_
   have wk6:∀ (k:Nat) (v:V),(xa caps σ)[k]? = some (some v)->σ6[k]? = some (some v):=fun k v e=>by
    rw [k6 k fun hk=>?_]
    ·exact e
    ·have h1:=List.all_eq_true.mp how k hk
     have h2:caps[k]? = some none:=by simpa using h1
     unfold xa at e
     rw [List.getElem?_map,h2] at e
     cases e
   refine thn (hbt _ s6 σ6 H6 _ I6 q6) fun ok s7 ⟨H7,I7,q7⟩=>?_
   have again:∀ {H8:Hp} {s8:Shared} {ys':List (Key × V)},Inv (zN X pins sc fr Nc fp s H2 H3.objs.size) ([] ++ vU fp s5.heap) σ6 H8 s8->(∃ m',m' < n/\W (i + 1) m' ys' H8)->
     ∃ m,m < n/\∃ i σ' H' ys,Inv (zN X pins sc fr Nc fp s H2 H3.objs.size) [] σ' H' s8/\tn i s8.heap/\(∀ b ∈ fp,H' b = none)/\W i m ys H'/\(∀ (k:Nat) (v:V),(xa caps σ)[k]? = some (some v)->σ'[k]? = some (some v)):=fun {H8 s8 ys'} I8 ⟨m',hm,w8⟩=>by
    refine ⟨m',hm,i + 1,σ6,H8,ys',I8.unpinned,T.keep _ _ _ st5 fun b hb' o e=>(I8.pin (b,o) (List.mem_append_right _ (List.mem_append_right _ (xn hb' e)))).1,fun b hb'=>?_,w8,wk6⟩
    obtain ⟨o,e,d⟩:=T.obj _ _ st5 b hb'
    exact (I8.pin (b,o) (List.mem_append_right _ (List.mem_append_right _ (xn hb' e)))).2.1
   cases ok with
   | false=>
    rw [if_neg Bool.false_ne_true]
    exact again I7 (q7.2 rfl)
   | true=>
    rw [if_pos rfl]
    refine thn (hbk _ s7 σ6 H7 _ I7 (q7.1 rfl)) fun uk s8 ⟨y,H8,I8,r8,q8⟩=>?_
    refine thn (hbv _ s8 σ6 H8 _ I8 q8) fun uv s9 ⟨v,H9,I9,r9,k,ey,hD9,hz,q9⟩=>?_
    subst ey
    obtain ⟨z,hd,vs,rel,dd⟩:=zhb I9.hok hD9
    have hzs:vs.length<=sizeLine:=by rw [<- rel.length]; exact z
    have hl:(yP ys k v).length<=sizeLine:=by have:=xx ys k v; omega
    refine wpAny_dictSet_pairs (hsz:=hzs) (jn r8) dd fun h' dd' hs=>?_
    have he:∃ q,h'.get? s.heap.objs.size = some q:=let ⟨q,_,_,hq,_⟩:=dd'; ⟨q,hq⟩
    exact again (qT I9 (by rw [hD9]; exact True.intro) hs he (zfm hl hd (rel.put k r9) dd')) q9
 exact codeAny_compStart_dict (loop _ rfl) (T.self _ 0 _ _ _ (T.keep _ _ _ st2 (fun b _ o e=>old b o e)) (loop _ rfl))
theorem ziS {wi:TI} (fr Nc:List Str) (caps:List (Option Nat)) (hc:X.calm = true) (B:yO X.env sc fr) (hi:PI X tg iter wi) (go:zb4 g ow) (how:(ow.all fun i=>caps[i]? == some none) = true)
  (hcap:vo X.N Nc caps X.env sc fr = true) (hlen:caps.length = Nc.length)
  (hb:∀ (pins:List (Addr × Obj)) (fp:List Addr) (s:Shared) (H:Hp) (C:Addr),PG (zN X pins sc fr Nc fp s H C) tg g/\PIf (zN X pins sc fr Nc fp s H C) ifs tt/\PE (zN X pins sc fr Nc fp s H C) kx tk/\PE (zN X pins sc fr Nc fp s H C) vx tv)
  (hs:∀ x,foldedSetIterable iter X.env x = pure x:=by intro _; rfl):PE X (.DictComp kx vx [⟨tg,iter,ifs,0⟩] sc pos) (tDC wi caps g tt tk tv):=by
 refine ⟨?_⟩
 intro pins s σ H Q I h
 rw [arm_eval_DictComp]
 refine wpAny_comprehension_free (use:=none) rfl hs B.clos B.kind B.loc (thn (hi pins s σ H _ I h) fun v s1 h1=>thn h1 fun itv s2 h2=>?_)
 obtain ⟨it,fp,tn,J,H2,e,I2,T,st2,f2,q⟩:=h2
 subst e
 refine zdx (RR:=fun acc C=>compPost (model X.prog X.w) X.A X.xe none (EP X pins σ Q) acc C) hc B go how hcap hlen hb I2 T st2 f2 q ?_
 intro D C σ' H' s' J' qq
 obtain ⟨m,hn,_⟩:=J'.loc
 exact ⟨m,hn,fun h' hs'=>⟨.ref D,H',j5 I2 J' (uf I2 f2 J') hs',rfl,qq⟩⟩
end
def eqT (xs ys:List V):Bool:=((List.range (min xs.length ys.length)).all fun j=>eqV (xs[j]?.getD .non) (ys[j]?.getD .non)) && xs.length == ys.length
end L2
namespace K33
open PySem L2 PyProof.Rows
def top (i:Nat):Stmt:=PySem.Challenge.pw_callbinds_k33_whole_no_fewer.main.body.getD i (.Pass ⟨0,0,0,0⟩)
abbrev sIs:Stmt:=top 25
abbrev zbo:Stmt:=yj (top 41) 0
abbrev zen:Stmt:=yj (top 41) 1
abbrev uV:Stmt:=yj (top 41) 2
abbrev qC:Stmt:=yj (top 41) 3
abbrev zhE:Stmt:=yj (top 41) 4
abbrev ziO:Stmt:=yj (top 41) 5
abbrev zee:Stmt:=yj (top 42) 0
abbrev zeq:Stmt:=yj (top 43) 0
abbrev zed:Stmt:=yj (top 44) 0
abbrev zhF:Stmt:=yj (top 45) 0
abbrev zhO:Stmt:=yj (top 46) 0
abbrev zbx:Stmt:=yj (top 31) 0
abbrev zel:Stmt:=yj (top 31) 1
abbrev zbw:Stmt:=yj (top 31) 2
abbrev zby:Stmt:=yj (top 31) 3
abbrev uU:Stmt:=yj (top 31) 4
abbrev zbv:Stmt:=yj (top 31) 5
abbrev zep:Stmt:=yj (top 31) 6
abbrev zeo:Stmt:=yj (top 31) 7
abbrev zhN:Stmt:=yj (top 31) 8
abbrev zhG:Stmt:=top 47
abbrev zbm:Stmt:=top 32
abbrev qx:Stmt:=top 33
abbrev zbn:Stmt:=top 34
abbrev qw:Stmt:=top 35
abbrev zeh:Stmt:=top 36
abbrev zej:Stmt:=top 1
abbrev zbl:Stmt:=top 9
abbrev qA:Stmt:=top 10
abbrev zhL:Stmt:=top 11
abbrev zbp:Stmt:=top 12
abbrev zhD:Stmt:=top 13
abbrev zek:Stmt:=top 14
abbrev zeg:Stmt:=top 15
abbrev qB:Stmt:=top 16
abbrev uT:Stmt:=top 18
abbrev zbq:Stmt:=top 19
abbrev qu:Stmt:=top 20
abbrev zhK:Stmt:=top 21
abbrev zhI:Stmt:=top 49
abbrev zhH:Stmt:=top 50
abbrev zhJ:Stmt:=top 51
abbrev zef:Stmt:=top 52
abbrev zem:Stmt:=top 53
abbrev zec:Stmt:=top 54
abbrev zei:Stmt:=top 55
abbrev zbk:Stmt:=top 56
abbrev zer:Stmt:=top 57
abbrev zbj:Stmt:=top 58
abbrev zbu:Stmt:=top 59
abbrev zbs:Stmt:=top 60
abbrev zbt:Stmt:=top 61
abbrev qv:Stmt:=top 62
abbrev zbz:Stmt:=top 63
abbrev zbr:Stmt:=top 64
abbrev qz:Stmt:=top 65
abbrev zhM:Stmt:=top 66
def low (c:Nat):Bool:=decide (97<=c) && decide (c<=122)
def yx (z:Str):Bool:=decide (1<=z.length) && decide (z.length<=8) && z.cps.toList.all low
def nmV:V->Bool
 | .str z=>yx z
 | _=>false
def OkS (z:Str):Prop:=z.length<=1000/\∀ c ∈ z.cps.toList,c < 128
def OkV (K:Frag) (H:Hp) (x:V):Prop:=(∃ z,x = .str z/\OkS z)\/(nmV x = false/\∃ t,vf K H x t/\kitOne K t (.type "str") = some false)
theorem vW {z:Str}:yx z = true ↔ 1<=z.length/\z.length<=8/\∀ c ∈ z.cps.toList,97<=c/\c<=122:=by
 unfold yx low
 simp only [Bool.and_eq_true,decide_eq_true_eq,List.all_eq_true]
 constructor
 ·rintro ⟨⟨a,b⟩,c⟩; exact ⟨a,b,c⟩
 ·rintro ⟨a,b,c⟩; exact ⟨⟨a,b⟩,c⟩
theorem je {z:Str} (h:z.length = 0\/9<=z.length):yx z = false:=by
 cases e:yx z with
 | false=>rfl
 | true=>
  have:=vW.mp e
  omega
theorem zaI {z:Str} (h:yx z = true):OkS z:=by
 obtain ⟨_,h2,h3⟩:=vW.mp h
 exact ⟨by omega,fun c hc=>by have:=h3 c hc; omega⟩
def letters:Str:="abcdefghijklmnopqrstuvwxyz"
theorem zbM:∀ c:Nat,c < 128->(!(Builtin.Str.occurrences letters ⟨#[c]⟩ 0 letters.length 1).isEmpty) = low c:=by decide +kernel
theorem zc {H:Hp} {p:Addr} (h:H p = none) (o:HO):zm H (upd H p o):=fun b u q=>by rw [zg (zf q h)]; exact q
theorem zcY {K:Frag} {H H':Hp} {x:V} {t:Value} (s:zm H H') (h:vf K H x t):vf K H' x t:=by
 cases h with
 | non=>exact .non
 | bl b=>exact .bl b
 | int i=>exact .int i
 | str z=>exact .str z
 | flt z=>exact .flt z
 | lst e=>exact .lst (s _ _ e)
 | frz e=>exact .frz (s _ _ e)
 | tup e=>exact .tup (s _ _ e)
 | dK e=>exact .dK (s _ _ e)
 | dT e=>exact .dT (s _ _ e)
 | ins e a b c d f=>exact .ins (s _ _ e) a b c d f
theorem OkV.same {K:Frag} {H H':Hp} {x:V} (s:zm H H') (h:OkV K H x):OkV K H' x:=by
 rcases h with h | ⟨h,t,ty,e⟩
 ·exact .inl h
 ·exact .inr ⟨h,t,zcY s ty,e⟩
theorem nd1:([Str.ofString "sign"]:List Str).Nodup:=by decide +kernel
def zhp (K:Frag):Sp:=fun vs H Q _=>∃ x,vs = [x]/\OkV K H x/\∀ H',zm H H'->Q (.bl (nmV x)) H'
structure zja (K:Frag) (mg:Str->Option Value):Prop where
 isi:mg "isinstance" = none
 str:mg "str" = none
 bool:mg "bool" = none
 len:mg "len" = none
 all:mg "all" = none
 range:mg "range" = none
 letters:∃ t,mg "LETTERS" = some (.str letters t)
 longest:∃ t,mg "LONGEST" = some (.int 8 t)
 kNon:kitOne K (.type "NoneType") (.type "str") = some false
 kInt:kitOne K (.type "int") (.type "str") = some false
 kBl:kitOne K (.type "bool") (.type "str") = some false
 kLst:kitOne K (.type "list") (.type "str") = some false
 kTup:kitOne K (.type "tuple") (.type "str") = some false
 kDct:kitOne K (.type "dict") (.type "str") = some false
 kStr:kitOne K (.type "str") (.type "str") = some true
 bBl:kitOne K (.type "bool") (.type "bool") = some true
section
variable {P:Program} {w:World} {K:Frag} {mg:Str->Option Value} {base:Heap} {f:Addr} {fd:FuncData}
theorem zjp:zt ["thing"] ["thing"] (zh sIs):=⟨rfl,rfl,rfl,by decide +kernel,rfl,by decide +kernel,by decide +kernel⟩
theorem ziV (F:Fun K "is_name" "is_name" sIs f fd) (T:zja K mg):zA P w K mg base CX0 1 f fd ["thing"] (zhp K):=by
 refine F.ok zjp (fun vs H Q E h=>?_) (fun cdv A outer s H vs Q E hr h=>?_)
 ·obtain ⟨x,rfl,_⟩:=h
  rfl
 obtain ⟨x,rfl,hx,q⟩:=h
 obtain ⟨tL,hL⟩:=T.letters
 obtain ⟨tN,hN⟩:=T.longest
 refine ⟨_,zj (zD (PW.pt (wI (xy (yz (cB ux T.isi boot_isinstance (ac (pv 0) (ac (zcA (v:=.ty "str") rfl T.str PyProof.Rows.boot_str rfl) zb)))))
   (x6 (xy (zet zg7 zg7 ze (cB qY T.len PySem.boot_len (ac (pv 0) zb)) (wy (v:=.int 8) rfl hN ⟨_,rfl⟩))))))
   (zd (zp xw)) zu)
  (zd (zp (cB (zdH rfl) T.all boot_all (ac (xz [] ["sign"] [none] rfl ⟨rfl,rfl,rfl,rfl⟩ (zhS (pv 0)) (zM 0) rfl rfl rfl
   (fun pins fp s H C=>⟨zk (i:=0) nd1 rfl (Or.inl rfl) (.inr rfl),yB,yM zdd (pv 0) (wy (v:=.str letters) rfl hL ⟨_,rfl⟩) (by with_unfolding_all rfl)⟩)) zb)))),?_⟩
 rcases hx with ⟨z,rfl,hz1,hz2⟩ | ⟨hn,t,ty,e⟩
 ·refine ⟨_,rfl,_,_,_,_,rfl,.str z,T.kStr,_,rfl,?_⟩
  refine ym ?_
  refine ⟨_,rfl,z,rfl,Nat.le_trans hz1 (by decide),_,_,rfl,rfl,_,rfl,?_⟩
  have no:yx z = false->Q (.bl false) H:=fun e=>by
   have:=q H (zm.refl H)
   have e':nmV (.str z) = false:=e
   rw [e'] at this
   exact this
  refine vI (fun c=>?_) (fun c=>?_)
  ·have c':(1:Int)<=(z.length:Int):=of_decide_eq_true c
   refine ⟨_,_,rfl,rfl,_,rfl,?_⟩
   by_cases h8:(z.length:Int)<=8
   ·rw [decide_eq_true h8]
    refine ym ?_
    refine ⟨_,rfl,z,rfl,fun D hD=>?_⟩
    refine ⟨fun i m ys H'=>i<=z.cps.size/\m = z.cps.size - i/\ys = (z.cps.toList.take i).map (fun c=>V.bl (low c))/\H' = upd H D (.lst ys),⟨_,Nat.zero_le _,rfl,rfl,rfl⟩,?_⟩
    rintro i m ys H' ⟨hi,rfl,rfl,rfl⟩
    by_cases he:i = z.cps.size
    ·subst he
     refine .inl ⟨Nat.le_refl _,?_⟩
     refine ⟨D,z.cps.toList.map low,rfl,SqL.of ?_,?_⟩
     ·rw [za,List.take_of_length_le (by simp),List.map_map]
      rfl
     ·have e:(z.cps.toList.map low).all id = nmV (.str z):=by
       show _ = yx z
       unfold yx
       rw [decide_eq_true (show 1<=z.length by omega),decide_eq_true (show z.length<=8 by omega),List.all_map]
       rfl
      rw [e]
      exact q _ (zc hD _)
    ·refine .inr ⟨by show i < z.cps.size; omega,?_⟩
     rintro x H' ⟨rfl,c,hc,rfl⟩
     refine ⟨fun _=>?_,fun e=>Bool.noConfusion e⟩
     refine ⟨_,rfl,_,_,rfl,rfl,za,?_,z.cps.size - (i + 1),by omega,by omega,rfl,?_,?_⟩
     ·rw [List.length_map,List.length_take]
      have:z.cps.size<=1000:=hz1
      exact zG (by omega)
     ·have hc':z.cps.toList[i]? = some c:=by simpa using hc
      have hlow:=zbM c (hz2 c (List.mem_of_getElem? hc'))
      rw [hlow,List.take_add_one,hc',List.map_append]
      rfl
     ·rw [qe]
   ·rw [decide_eq_false h8]
    refine yT ?_
    exact no (je (.inr (by omega)))
  ·have c':¬ (1:Int)<=(z.length:Int):=of_decide_eq_false (Bool.eq_false_iff.mpr c)
   refine ⟨_,rfl,?_⟩
   exact yT (no (je (.inl (by omega))))
 ·refine ⟨_,rfl,_,_,_,_,rfl,ty,e,_,rfl,?_⟩
  refine yT ?_
  refine yT ?_
  have:=q H (zm.refl H)
  rw [hn] at this
  exact this
end
theorem dT {A B:Prop} {c:Prop} [Decidable c] (h:c) (a:A):if decide c = true then A else B:=by rw [decide_eq_true h]; exact yT a
theorem dF {A B:Prop} {c:Prop} [Decidable c] (h:¬ c) (b:B):if decide c = true then A else B:=by rw [decide_eq_false h]; exact ym b
def kw:Nat->Str
 | 0=>"seat" | 1=>"both" | 2=>"tail" | 3=>"tag" | _=>"bag"
def zhP (k:Nat) (x:V) (b:Bool):List V:=match k with
 | 0=>[.str "seat",x,.bl b] | 1=>[.str "both",x,.bl b] | 2=>[.str "tail",x] | 3=>[.str "tag",x,.bl b] | _=>[.str "bag",x]
def fr (k:Nat) (b:Bool):Bool:=match k with
 | 0=>b | 1=>b | 2=>true | 3=>b | _=>true
theorem lt5 {k:Nat} (h:k < 5):k = 0\/k = 1\/k = 2\/k = 3\/k = 4:=by omega
def pf (wd:Str) (x:V) (b:Bool):List (Str × V):=zW "may_lack" (.bl b) (zW "name" x (zW "word" (.str wd) []))
theorem vB {wd:Str} {x:V} {b:Bool}:(pf wd x b).lookup ("word" : Str) = some (.str wd):=by
 unfold pf
 rw [zl,if_neg (by decide +kernel),zl,if_neg (by decide +kernel),zl,if_pos rfl]
theorem wx {wd:Str} {x:V} {b:Bool}:(pf wd x b).lookup ("name" : Str) = some x:=by
 unfold pf
 rw [zl,if_neg (by decide +kernel),zl,if_pos rfl]
theorem zfY {wd:Str} {x:V} {b:Bool}:(pf wd x b).lookup ("may_lack" : Str) = some (.bl b):=by
 unfold pf
 rw [zl,if_pos rfl]
theorem vC {wd:Str} {x:V} {b:Bool} {m:Str} (h1:¬ m = "may_lack") (h2:¬ m = "name") (h3:¬ m = "word"):(pf wd x b).lookup m = none:=by
 unfold pf
 rw [zl,if_neg h1,zl,if_neg h2,zl,if_neg h3]
 rfl
structure MA where
 (fF fP fB fT fO:Addr)
structure PC (K:Frag) (m:MA) (C:Addr):Prop where
 cl:Cls K C
 nW:xb K C "word"
 nN:xb K C "name"
 nM:xb K C "may_lack"
 mF:y1 K C "free" m.fF
 mP:y1 K C "by_place" m.fP
 mB:y1 K C "by_name" m.fB
 mT:y1 K C "takes_one" m.fT
 mO:y1 K C "told" m.fO
def spP (K:Frag) (m:MA):Sp:=fun vs H Q _=>∃ (p dx C:Addr) (wd:Str) (x:V) (b:Bool),vs = [.ref p,.str wd,x,.bl b]/\H p = some (.ins C dx [])/\PC K m C/\OkV K H x/\nmV x = true/\∀ H1,zm H H1->Q .non (upd H1 p (.ins C dx (pf wd x b)))
def spS (K:Frag) (C:Addr) (wd:Str):Sp:=fun vs H Q _=>∃ (p dx:Addr) (x:V) (b:Bool),vs = [.ref p,x,.bl b]/\H p = some (.ins C dx [])/\OkV K H x/\nmV x = true/\∀ H1,zm H H1->Q .non (upd H1 p (.ins C dx (pf wd x b)))
def spT (K:Frag) (C:Addr) (wd:Str):Sp:=fun vs H Q _=>∃ (p dx:Addr) (x:V),vs = [.ref p,x]/\H p = some (.ins C dx [])/\OkV K H x/\nmV x = true/\∀ H1,zm H H1->Q .non (upd H1 p (.ins C dx (pf wd x true)))
def bpL:List V:=[.str "seat",.str "both"]
def bnL:List V:=[.str "both",.str "tag"]
def otL:List V:=[.str "seat",.str "both",.str "tag"]
def ql (K:Frag) (m:MA):Sp:=fun vs H Q _=>∃ (p dx C:Addr) (wd:Str) (x:V) (b:Bool),vs = [.ref p]/\PC K m C/\H p = some (.ins C dx (pf wd x b))/\Q (.bl b) H
def uM (K:Frag) (m:MA) (l:List V):Sp:=fun vs H Q _=>∃ (p dx C:Addr) (wd:Str) (x:V) (b:Bool),vs = [.ref p]/\PC K m C/\H p = some (.ins C dx (pf wd x b))/\Q (.bl (inV (.str wd) l)) H
structure Wds (K:Frag) (mg:Str->Option Value) (tP tB tO:Addr):Prop where
 mP:mg "BY_PLACE" = some (.ref tP)
 mB:mg "BY_NAME" = some (.ref tB)
 mO:mg "OF_ONE_THING" = some (.ref tO)
 hP:∀ H,SqT K H tP bpL
 hB:∀ H,SqT K H tB bnL
 hO:∀ H,SqT K H tO otL
section
variable {P:Program} {w:World} {K:Frag} {mg:Str->Option Value} {base:Heap} {f C tP tB tO:Addr} {fd:FuncData} {m:MA}
theorem zfM:zt ["self","word","name","may_lack"] ["self","word","name","may_lack"] (zh zbo):=⟨rfl,rfl,rfl,by decide +kernel,rfl,by decide +kernel,by decide +kernel⟩
theorem zeG {g:Addr} {gd:FuncData} (F:Fun K "__init__" "Parameter.__init__" zbo f fd) (cI:zC P w K mg base 1 "is_name" g gd ["thing"] (zhp K)) :
  zA P w K mg base CX0 2 f fd ["self","word","name","may_lack"] (spP K m):=by
 refine F.ok zfM (fun vs H Q E h=>?_) (fun cdv A outer s H vs Q E hr h=>?_)
 ·obtain ⟨p,dx,C,wd,x,b,rfl,_⟩:=h
  rfl
 obtain ⟨p,dx,C,wd,x,b,rfl,hp,c,hx,q1,q2⟩:=h
 refine ⟨_,zj (zD (xy (yz (cF cI hr (ac (pv 2) zb)))) (zd wU) zu)
  (zj (wu (pv 0) (pv 1) rfl) (zj (wu (pv 0) (pv 2) rfl) (zd (wu (pv 0) (pv 3) rfl)))),?_⟩
 refine ⟨_,rfl,x,rfl,hx,fun H1 s1=>⟨_,rfl,?_⟩⟩
 rw [q1]
 refine ym ?_
 refine ⟨_,rfl,_,rfl,p,C,dx,[],rfl,s1 _ _ hp,c.cl,c.nW,(by show 0 < 1000; decide),?_⟩
 refine ⟨_,rfl,_,rfl,p,C,dx,_,rfl,za,c.cl,c.nN,(by show 1 < 1000; decide),?_⟩
 refine ⟨_,rfl,_,rfl,p,C,dx,_,rfl,za,c.cl,c.nM,(by show 2 < 1000; decide),?_⟩
 rw [qe,qe]
 exact q2 _ s1
theorem zhu:zt ["self","name","free"] ["self","name","free"] (zh zee):=⟨rfl,rfl,rfl,by decide +kernel,rfl,by decide +kernel,by decide +kernel⟩
theorem zf9 {g D:Addr} {gd:FuncData} {ds:List Value} (F:jB K "__init__" "Seat.__init__" zee f fd ds) (c:PC K m C) (B:jw K D "__init__" g) (mD:mg "Parameter" = some (.ref D)) (G:zA P w K mg base CX0 2 g gd ["self","word","name","may_lack"] (spP K m)) (bg:zV K gd ["self","word","name","may_lack"] []) :
  zA P w K mg base CX0 3 f fd ["self","name","free"] (spS K C "seat"):=by
 refine F.ok zhu (fun vs H Q E h=>?_) (fun cdv A outer s H vs Q E hr h=>?_)
 ·obtain ⟨p,dx,x,b,rfl,_⟩:=h
  rfl
 obtain ⟨p,dx,x,b,rfl,hp,hx,q1,q2⟩:=h
 refine ⟨_,zd (zI (zaw B mD G hr bg yh (ac (pv 0) (ac zn (ac (pv 1) (ac (pv 2) zb)))))),?_⟩
 exact ⟨_,rfl,_,rfl,_,rfl,p,dx,C,_,x,b,rfl,hp,c,hx,q1,q2⟩
theorem zhC:zt ["self","name","free"] ["self","name","free"] (zh zeq):=⟨rfl,rfl,rfl,by decide +kernel,rfl,by decide +kernel,by decide +kernel⟩
theorem zgo {g D:Addr} {gd:FuncData} {ds:List Value} (F:jB K "__init__" "Both.__init__" zeq f fd ds) (c:PC K m C) (B:jw K D "__init__" g) (mD:mg "Parameter" = some (.ref D)) (G:zA P w K mg base CX0 2 g gd ["self","word","name","may_lack"] (spP K m)) (bg:zV K gd ["self","word","name","may_lack"] []) :
  zA P w K mg base CX0 3 f fd ["self","name","free"] (spS K C "both"):=by
 refine F.ok zhC (fun vs H Q E h=>?_) (fun cdv A outer s H vs Q E hr h=>?_)
 ·obtain ⟨p,dx,x,b,rfl,_⟩:=h
  rfl
 obtain ⟨p,dx,x,b,rfl,hp,hx,q1,q2⟩:=h
 refine ⟨_,zd (zI (zaw B mD G hr bg yh (ac (pv 0) (ac zn (ac (pv 1) (ac (pv 2) zb)))))),?_⟩
 exact ⟨_,rfl,_,rfl,_,rfl,p,dx,C,_,x,b,rfl,hp,c,hx,q1,q2⟩
theorem ziK:zt ["self","name","free"] ["self","name","free"] (zh zhF):=⟨rfl,rfl,rfl,by decide +kernel,rfl,by decide +kernel,by decide +kernel⟩
theorem zhZ {g D:Addr} {gd:FuncData} {ds:List Value} (F:jB K "__init__" "Tag.__init__" zhF f fd ds) (c:PC K m C) (B:jw K D "__init__" g) (mD:mg "Parameter" = some (.ref D)) (G:zA P w K mg base CX0 2 g gd ["self","word","name","may_lack"] (spP K m)) (bg:zV K gd ["self","word","name","may_lack"] []) :
  zA P w K mg base CX0 3 f fd ["self","name","free"] (spS K C "tag"):=by
 refine F.ok ziK (fun vs H Q E h=>?_) (fun cdv A outer s H vs Q E hr h=>?_)
 ·obtain ⟨p,dx,x,b,rfl,_⟩:=h
  rfl
 obtain ⟨p,dx,x,b,rfl,hp,hx,q1,q2⟩:=h
 refine ⟨_,zd (zI (zaw B mD G hr bg yh (ac (pv 0) (ac zn (ac (pv 1) (ac (pv 2) zb)))))),?_⟩
 exact ⟨_,rfl,_,rfl,_,rfl,p,dx,C,_,x,b,rfl,hp,c,hx,q1,q2⟩
theorem zht:zt ["self","name"] ["self","name"] (zh zed):=⟨rfl,rfl,rfl,by decide +kernel,rfl,by decide +kernel,by decide +kernel⟩
theorem zf8 {g D:Addr} {gd:FuncData} (F:Fun K "__init__" "Tail.__init__" zed f fd) (c:PC K m C) (B:jw K D "__init__" g) (mD:mg "Parameter" = some (.ref D)) (G:zA P w K mg base CX0 2 g gd ["self","word","name","may_lack"] (spP K m)) (bg:zV K gd ["self","word","name","may_lack"] []) :
  zA P w K mg base CX0 3 f fd ["self","name"] (spT K C "tail"):=by
 refine F.ok zht (fun vs H Q E h=>?_) (fun cdv A outer s H vs Q E hr h=>?_)
 ·obtain ⟨p,dx,x,rfl,_⟩:=h
  rfl
 obtain ⟨p,dx,x,rfl,hp,hx,q1,q2⟩:=h
 refine ⟨_,zd (zI (zaw B mD G hr bg yh (ac (pv 0) (ac zn (ac (pv 1) (ac xw zb)))))),?_⟩
 exact ⟨_,rfl,_,rfl,p,dx,C,_,x,true,rfl,hp,c,hx,q1,q2⟩
theorem ziN:zt ["self","name"] ["self","name"] (zh zhO):=⟨rfl,rfl,rfl,by decide +kernel,rfl,by decide +kernel,by decide +kernel⟩
theorem zh7 {g D:Addr} {gd:FuncData} (F:Fun K "__init__" "Bag.__init__" zhO f fd) (c:PC K m C) (B:jw K D "__init__" g) (mD:mg "Parameter" = some (.ref D)) (G:zA P w K mg base CX0 2 g gd ["self","word","name","may_lack"] (spP K m)) (bg:zV K gd ["self","word","name","may_lack"] []) :
  zA P w K mg base CX0 3 f fd ["self","name"] (spT K C "bag"):=by
 refine F.ok ziN (fun vs H Q E h=>?_) (fun cdv A outer s H vs Q E hr h=>?_)
 ·obtain ⟨p,dx,x,rfl,_⟩:=h
  rfl
 obtain ⟨p,dx,x,rfl,hp,hx,q1,q2⟩:=h
 refine ⟨_,zd (zI (zaw B mD G hr bg yh (ac (pv 0) (ac zn (ac (pv 1) (ac xw zb)))))),?_⟩
 exact ⟨_,rfl,_,rfl,p,dx,C,_,x,true,rfl,hp,c,hx,q1,q2⟩
theorem zhz:zt ["self"] ["self"] (zh zen):=⟨rfl,rfl,rfl,by decide +kernel,rfl,by decide +kernel,by decide +kernel⟩
theorem zgl (F:Fun K "free" "Parameter.free" zen f fd):zA P w K mg base CX0 1 f fd ["self"] (ql K m):=by
 refine F.ok zhz (fun vs H Q E h=>?_) (fun cdv A outer s H vs Q E hr h=>?_)
 ·obtain ⟨p,dx,C,wd,x,b,rfl,_⟩:=h
  rfl
 obtain ⟨p,dx,C,wd,x,b,rfl,c,hp,q⟩:=h
 refine ⟨_,zd (zp (yE (pv 0) rfl)),?_⟩
 exact ⟨_,rfl,p,C,dx,_,_,rfl,hp,c.cl,c.nM,zfY,q⟩
theorem zc6:zt ["self"] ["self"] (zh uV):=⟨rfl,rfl,rfl,by decide +kernel,rfl,by decide +kernel,by decide +kernel⟩
theorem zaE (F:Fun K "by_place" "Parameter.by_place" uV f fd) (Wd:Wds K mg tP tB tO):zA P w K mg base CX0 1 f fd ["self"] (uM K m bpL):=by
 refine F.ok zc6 (fun vs H Q E h=>?_) (fun cdv A outer s H vs Q E hr h=>?_)
 ·obtain ⟨p,dx,C,wd,x,b,rfl,_⟩:=h
  rfl
 obtain ⟨p,dx,C,wd,x,b,rfl,c,hp,q⟩:=h
 refine ⟨_,zd (zp (yM yK (yE (pv 0) rfl) (wy (v:=.ref tP) rfl Wd.mP rfl) (by with_unfolding_all rfl))),?_⟩
 exact ⟨_,rfl,p,C,dx,_,_,rfl,hp,c.cl,c.nW,vB,tP,bpL,rfl,.inr (Wd.hP H),rfl,(by decide),q⟩
theorem zeb:zt ["self"] ["self"] (zh qC):=⟨rfl,rfl,rfl,by decide +kernel,rfl,by decide +kernel,by decide +kernel⟩
theorem zbI (F:Fun K "by_name" "Parameter.by_name" qC f fd) (Wd:Wds K mg tP tB tO):zA P w K mg base CX0 1 f fd ["self"] (uM K m bnL):=by
 refine F.ok zeb (fun vs H Q E h=>?_) (fun cdv A outer s H vs Q E hr h=>?_)
 ·obtain ⟨p,dx,C,wd,x,b,rfl,_⟩:=h
  rfl
 obtain ⟨p,dx,C,wd,x,b,rfl,c,hp,q⟩:=h
 refine ⟨_,zd (zp (yM yK (yE (pv 0) rfl) (wy (v:=.ref tB) rfl Wd.mB rfl) (by with_unfolding_all rfl))),?_⟩
 exact ⟨_,rfl,p,C,dx,_,_,rfl,hp,c.cl,c.nW,vB,tB,bnL,rfl,.inr (Wd.hB H),rfl,(by decide),q⟩
end
structure C5 where
 (c0 c1 c2 c3 c4:Addr)
def C5.at (c:C5):Nat->Addr
 | 0=>c.c0 | 1=>c.c1 | 2=>c.c2 | 3=>c.c3 | _=>c.c4
structure zhf (P:Program) (w:World) (K:Frag) (mg:Str->Option Value) (base:Heap) (c:C5) (i0 i1 i2 i3 i4:Addr) (d0 d1 d2 d3 d4:FuncData):Prop where
 k0:zdJ P w K mg base CX0 3 "Seat" c.c0 i0 d0 ["self","name","free"] [] (spS K c.c0 "seat")
 k1:zdJ P w K mg base CX0 3 "Both" c.c1 i1 d1 ["self","name","free"] [] (spS K c.c1 "both")
 k2:zdJ P w K mg base CX0 3 "Tail" c.c2 i2 d2 ["self","name"] [] (spT K c.c2 "tail")
 k3:zdJ P w K mg base CX0 3 "Tag" c.c3 i3 d3 ["self","name","free"] [] (spS K c.c3 "tag")
 k4:zdJ P w K mg base CX0 3 "Bag" c.c4 i4 d4 ["self","name"] [] (spT K c.c4 "bag")
def Res (c:C5) (H:Hp) (k:Nat) (x:V) (b:Bool) (Q:VK):Prop:=
 nmV x = true/\∀ (o dx:Addr) (H':Hp),zm H H'->H' o = some (.ins (c.at k) dx (pf (kw k) x (fr k b)))->Q (.ref o) H'
def zgX (K:Frag) (c:C5):Sp:=fun vs H Q _=>∃ (p:Addr) (k:Nat) (x:V) (b:Bool),vs = [.ref p]/\k < 5/\H p = some (.tup (zhP k x b))/\OkV K H x/\Res c H k x b Q
theorem zjI:¬ (V.str "both" = V.str "seat"):=by decide +kernel
theorem zjH:¬ (V.str "tail" = V.str "seat"):=by decide +kernel
theorem zjG:¬ (V.str "tail" = V.str "both"):=by decide +kernel
theorem zjF:¬ (V.str "tag" = V.str "seat"):=by decide +kernel
theorem zjE:¬ (V.str "tag" = V.str "both"):=by decide +kernel
theorem zjD:¬ (V.str "tag" = V.str "tail"):=by decide +kernel
theorem zjC:¬ (V.str "bag" = V.str "seat"):=by decide +kernel
theorem zjB:¬ (V.str "bag" = V.str "both"):=by decide +kernel
theorem zjA:¬ (V.str "bag" = V.str "tail"):=by decide +kernel
theorem zjz:¬ (V.str "bag" = V.str "tag"):=by decide +kernel
section
variable {P:Program} {w:World} {K:Frag} {mg:Str->Option Value} {base:Heap} {f i0 i1 i2 i3 i4:Addr} {fd d0 d1 d2 d3 d4:FuncData} {c:C5}
theorem zjL {x:V} {k:Nat} {b:Bool} (h:k < 5):atI (zhP k x b) 0 = some (.str (kw k)):=by rcases lt5 h with rfl | rfl | rfl | rfl | rfl <;> rfl
theorem zg3:zt ["told","word"] ["told"] (zh zhG):=⟨rfl,rfl,rfl,by decide +kernel,rfl,by decide +kernel,by decide +kernel⟩
theorem zh0 (F:Fun K "parameter_of" "parameter_of" zhG f fd) (U:zhf P w K mg base c i0 i1 i2 i3 i4 d0 d1 d2 d3 d4):zA P w K mg base CX0 5 f fd ["told"] (zgX K c):=by
 refine F.ok zg3 (fun vs H Q E h=>?_) (fun cdv A outer s H vs Q E hr h=>?_)
 ·obtain ⟨p,k,x,b,rfl,_⟩:=h
  rfl
 obtain ⟨p,k,x,b,rfl,hk,hp,hx,r1,r2⟩:=h
 refine ⟨_,zj (zw (i:=1) zg3.nd rfl (Or.inl rfl) (zo zF (pv 0) ze (fun _ _=>rfl)))
  (zj (zD (zi z5 (pv 1) zn (zr _)) (zd (zp (cMk U.k0 .nil yh hr (ac (zo zF (pv 0) ze (fun _ _=>rfl)) (ac (zo zF (pv 0) ze (fun _ _=>rfl)) zb))))) zu)
  (zj (zD (zi z5 (pv 1) zn (zr _)) (zd (zp (cMk U.k1 .nil yh hr (ac (zo zF (pv 0) ze (fun _ _=>rfl)) (ac (zo zF (pv 0) ze (fun _ _=>rfl)) zb))))) zu)
  (zj (zD (zi z5 (pv 1) zn (zr _)) (zd (zp (cMk U.k2 .nil yh hr (ac (zo zF (pv 0) ze (fun _ _=>rfl)) zb)))) zu)
  (zj (zD (zi z5 (pv 1) zn (zr _)) (zd (zp (cMk U.k3 .nil yh hr (ac (zo zF (pv 0) ze (fun _ _=>rfl)) (ac (zo zF (pv 0) ze (fun _ _=>rfl)) zb))))) zu)
  (zd (zp (cMk U.k4 .nil yh hr (ac (zo zF (pv 0) ze (fun _ _=>rfl)) zb)))))))),?_⟩
 refine ⟨_,rfl,p,_,_,.str (kw k),rfl,rfl,SqT.of hp,zjL hk,?_⟩
 rcases lt5 hk with rfl | rfl | rfl | rfl | rfl
 ·have hS:SqT K H p _:=SqT.of hp
  refine ⟨_,rfl,rfl,_,rfl,?_⟩
  refine dT rfl ?_
  exact ⟨_,rfl,p,_,_,x,rfl,rfl,hS,rfl,_,rfl,p,_,_,.bl b,rfl,rfl,hS,rfl,fun o dx ho hdx ne=>⟨o,dx,x,b,rfl,za,hx.same (y9 ho hdx),r1,fun H1 s1=>⟨rfl,r2 o dx _ (xJ ho hdx s1) za⟩⟩⟩
 ·have hS:SqT K H p _:=SqT.of hp
  refine ⟨_,rfl,rfl,_,rfl,?_⟩
  refine dF zjI ?_
  refine ⟨_,rfl,rfl,_,rfl,?_⟩
  refine dT rfl ?_
  exact ⟨_,rfl,p,_,_,x,rfl,rfl,hS,rfl,_,rfl,p,_,_,.bl b,rfl,rfl,hS,rfl,fun o dx ho hdx ne=>⟨o,dx,x,b,rfl,za,hx.same (y9 ho hdx),r1,fun H1 s1=>⟨rfl,r2 o dx _ (xJ ho hdx s1) za⟩⟩⟩
 ·have hS:SqT K H p _:=SqT.of hp
  refine ⟨_,rfl,rfl,_,rfl,?_⟩
  refine dF zjH ?_
  refine ⟨_,rfl,rfl,_,rfl,?_⟩
  refine dF zjG ?_
  refine ⟨_,rfl,rfl,_,rfl,?_⟩
  refine dT rfl ?_
  exact ⟨_,rfl,p,_,_,x,rfl,rfl,hS,rfl,fun o dx ho hdx ne=>⟨o,dx,x,rfl,za,hx.same (y9 ho hdx),r1,fun H1 s1=>⟨rfl,r2 o dx _ (xJ ho hdx s1) za⟩⟩⟩
 ·have hS:SqT K H p _:=SqT.of hp
  refine ⟨_,rfl,rfl,_,rfl,?_⟩
  refine dF zjF ?_
  refine ⟨_,rfl,rfl,_,rfl,?_⟩
  refine dF zjE ?_
  refine ⟨_,rfl,rfl,_,rfl,?_⟩
  refine dF zjD ?_
  refine ⟨_,rfl,rfl,_,rfl,?_⟩
  refine dT rfl ?_
  exact ⟨_,rfl,p,_,_,x,rfl,rfl,hS,rfl,_,rfl,p,_,_,.bl b,rfl,rfl,hS,rfl,fun o dx ho hdx ne=>⟨o,dx,x,b,rfl,za,hx.same (y9 ho hdx),r1,fun H1 s1=>⟨rfl,r2 o dx _ (xJ ho hdx s1) za⟩⟩⟩
 ·have hS:SqT K H p _:=SqT.of hp
  refine ⟨_,rfl,rfl,_,rfl,?_⟩
  refine dF zjC ?_
  refine ⟨_,rfl,rfl,_,rfl,?_⟩
  refine dF zjB ?_
  refine ⟨_,rfl,rfl,_,rfl,?_⟩
  refine dF zjA ?_
  refine ⟨_,rfl,rfl,_,rfl,?_⟩
  refine dF zjz ?_
  exact ⟨_,rfl,p,_,_,x,rfl,rfl,hS,rfl,fun o dx ho hdx ne=>⟨o,dx,x,rfl,za,hx.same (y9 ho hdx),r1,fun H1 s1=>⟨rfl,r2 o dx _ (xJ ho hdx s1) za⟩⟩⟩
end
end K33
namespace L2
open PySem PySem.Spec PyProof.Rows
def dcN (n i:Nat) (D:Addr) (Pv:Nat->List (Key × V)->Hp->Prop) (ys:List (Key × V)) (y:V):VK:=fun v H5=>∃ k,y = kV k/\H5 D = some (.dK ys)/\ys.length < sizeLine/\∃ m',m' < n - i/\m' = n - (i + 1)/\i + 1<=n/\Pv (i + 1) (yP ys k v) (upd H5 D (.dK (yP ys k v)))
def dcS (n i:Nat) (Pv:Nat->List (Key × V)->Hp->Prop) (ys:List (Key × V)) (H4:Hp):Prop:=∃ m',m' < n - i/\m' = n - (i + 1)/\i + 1<=n/\Pv (i + 1) ys H4
theorem dcN.mk {n i:Nat} {D:Addr} {Pv:Nat->List (Key × V)->Hp->Prop} {ys:List (Key × V)} {y v:V} {H5:Hp} (k:Key) (hi:i < n) (ek:y = kV k) (hn:n<=sizeLine) (hD:H5 D = some (.dK ys)) (hy:ys.length<=i) (p:Pv (i + 1) (yP ys k v) (upd H5 D (.dK (yP ys k v)))):dcN n i D Pv ys y v H5:=
 ⟨k,ek,hD,by omega,n - (i + 1),by omega,rfl,hi,p⟩
theorem dcS.mk {n i:Nat} {Pv:Nat->List (Key × V)->Hp->Prop} {ys:List (Key × V)} {H4:Hp} (hi:i < n) (p:Pv (i + 1) ys H4):dcS n i Pv ys H4:=⟨n - (i + 1),by omega,rfl,hi,p⟩
theorem zgH {K:Frag} {a:Addr} {xs:List V} {caps:List (Option Nat)} {g:TG} {tt:TT} {tk tv:TE} {σ : St} {H1:Hp} {Q:VK} {D:Addr} (Pv:Nat->List (Key × V)->Hp->Prop) (h0:Pv 0 [] (upd H1 D (.dK [])))
  (hl:∀ i ys H,Pv i ys H->SqL K H a xs)
  (hs:∀ i x p ys H,i < xs.length->xs[i]? = some x->Pv i ys H->H p = none->g (.ref p) (xa caps σ) (upd H p (.tup [.int i,x])) fun σ2 H2=>tt σ2 H2 fun ok H3=>(ok = true->tk σ2 H3 fun y H4=>tv σ2 H4 (dcN xs.length i D Pv ys y))/\(ok = false->dcS xs.length i Pv ys H3))
  (hd:∀ ys H,Pv xs.length ys H->Q (.ref D) H):DCr (Ite K a) caps g tt tk tv σ H1 Q D:=by
 refine ⟨fun i m ys H=>m = xs.length - i/\i<=xs.length/\Pv i ys H,⟨xs.length,by simp,Nat.zero_le _,h0⟩,?_⟩
 rintro i m ys H ⟨rfl,hi,p⟩
 have q:=hl i ys H p
 by_cases hlt:i < xs.length
 ·refine .inr ⟨⟨xs,xs[i],q,by simp [hlt]⟩,fun x H' y=>?_⟩
  obtain ⟨pp,y,rfl,hp,y2,rfl⟩:=y
  exact hs i y pp ys H hlt (y2 xs q) p hp
 ·have e:i = xs.length:=by omega
  subst e
  exact .inl ⟨⟨xs,q,Nat.le_refl _⟩,hd ys H p⟩
end L2
namespace K33
open PySem L2 PyProof.Rows
structure Rw where
 (k:Nat) (z:Str) (b:Bool)
def Rw.ok (r:Rw):Prop:=r.k < 5/\yx r.z = true
abbrev rv (r:Rw):List V:=zhP r.k (.str r.z) r.b
abbrev pr (r:Rw):List (Str × V):=pf (kw r.k) (.str r.z) (fr r.k r.b)
def PAt (c:C5) (H:Hp) (p:Addr) (r:Rw):Prop:=∃ dx,H p = some (.ins (c.at r.k) dx (pr r))
def y0 (k:Nat):Bool:=k == 0 || k == 1
def yl (k:Nat):Bool:=k == 1 || k == 3
theorem zg9:∀ k:Nat,k < 5->inV (.str (kw k)) bpL = y0 k:=by decide +kernel
theorem jT:∀ k:Nat,k < 5->inV (.str (kw k)) bnL = yl k:=by decide +kernel
def grp:Nat->Nat
 | 0=>0 | 1=>0 | 2=>1 | 3=>2 | _=>3
def vi (l g:Nat):Bool:=decide (g < l) || (g == l && (g == 1 || g == 3))
def yF:Nat->List Rw->Bool
 | _,[]=>true
 | l,r :: rs=>!vi l (grp r.k) && yF (grp r.k) rs
def nms (rows:List Rw):List Str:=(rows.filter fun r=>yl r.k).map (·.z)
structure xR (rows:List Rw) (bars:List Str):Prop where
 ok:∀ r ∈ rows,r.ok
 l24:rows.length<=24
 l60:bars.length<=60
 ord:yF 0 rows = true
 bn:∀ z ∈ bars,yx z = true
 nd:(nms rows ++ bars).Nodup
def zy (kk:Nat):Nat->List Rw->Option Nat
 | _,[]=>none
 | i,r :: rs=>if r.k = kk then some i else zy kk (i + 1) rs
def xD:Option Nat->V
 | none=>.non
 | some i=>.int i
def yk:Nat->List (Key × V)->List Rw->List (Key × V)
 | _,acc,[]=>acc
 | i,acc,r :: rs=>yk (i + 1) (if yl r.k = true then yP acc (.inr r.z) (.int i) else acc) rs
def plN (rows:List Rw):Nat:=(rows.filter fun r=>y0 r.k).length
def zfu:List Str:=["row","bar_names","place_count","tail_number","bag_number","doors"]
structure FF (fs:List (Str × V)) (lr lb ld:Addr) (rows:List Rw):Prop where
 row:fs.lookup ("row" : Str) = some (.ref lr)
 bn:fs.lookup ("bar_names" : Str) = some (.ref lb)
 pc:fs.lookup ("place_count" : Str) = some (.int (plN rows))
 tn:fs.lookup ("tail_number" : Str) = some (xD (zy 2 0 rows))
 bg:fs.lookup ("bag_number" : Str) = some (xD (zy 4 0 rows))
 dr:fs.lookup ("doors" : Str) = some (.ref ld)
 no:∀ m,m ∉ zfu->fs.lookup m = none
def xp (c:C5) (CF:Addr) (H:Hp) (f:Addr) (rows:List Rw) (bars:List Str):Prop:=
 ∃ dx fs lr lb ld ps,H f = some (.ins CF dx fs)/\FF fs lr lb ld rows/\H lr = some (.lst (ps.map V.ref))/\Paired (PAt c H) ps rows/\H lb = some (.lst (bars.map V.str))/\H ld = some (.dK (yk 0 [] rows))
section
variable {c:C5} {CF f p:Addr} {H H':Hp} {rows:List Rw} {bars:List Str} {r:Rw} {ps:List Addr}
theorem PAt.same (h:PAt c H p r) (s:zm H H'):PAt c H' p r:=h.imp fun _=>s _ _
theorem xl (s:zm H H') (h:Paired (PAt c H) ps rows):Paired (PAt c H') ps rows:=Paired.imp' (fun _ _ z=>z.same s) h
theorem xp.same (h:xp c CF H f rows bars) (s:zm H H'):xp c CF H' f rows bars:=by
 obtain ⟨dx,fs,lr,lb,ld,ps,h1,h2,h3,h4,h5,h6⟩:=h
 exact ⟨dx,fs,lr,lb,ld,ps,s _ _ h1,h2,s _ _ h3,xl s h4,s _ _ h5,s _ _ h6⟩
def za9 (c:C5) (CF:Addr) (H H':Hp) (f:Addr) (rows:List Rw) (bars:List Str):Prop:=
 ∃ dx fs lr lb ld ps,H' f = some (.ins CF dx fs)/\FF fs lr lb ld rows/\H' lr = some (.lst (ps.map V.ref))/\Paired (PAt c H') ps rows/\H' lb = some (.lst (bars.map V.str))/\H' ld = some (.dK (yk 0 [] rows))/\H lr = none/\H lb = none
theorem za9.of {H0:Hp} (h:za9 c CF H H' f rows bars) (s:zm H0 H):za9 c CF H0 H' f rows bars:=by
 obtain ⟨dx,fs,lr,lb,ld,ps,h1,h2,h3,h4,h5,h6,h7,h8⟩:=h
 exact ⟨dx,fs,lr,lb,ld,ps,h1,h2,h3,h4,h5,h6,s.free h7,s.free h8⟩
theorem yw {α β : Type} {R : α->β->Prop} {xs:List α} {ys:List β} (h:Paired R xs ys):∀ {i:Nat} {x : α},xs[i]? = some x->∃ y,ys[i]? = some y/\R x y:=by
 induction h with
 | nil=>intro i x e; simp at e
 | cons r t ih=>
  intro i x e
  cases i with
  | zero=>exact ⟨_,rfl,by simp at e; exact e ▸ r⟩
  | succ i=>simpa using ih (by simpa using e)
end
def zgB (x:Str):Option V:=([(("seat" : Str),V.int 0),("both",.int 0),("tail",.int 1),("tag",.int 2),("bag",.int 3)]:List (Str × V)).lookup x
theorem zgA:∀ k:Nat,k < 5->zgB (kw k) = some (.int (grp k)):=by decide +kernel
theorem zii (k:Nat):grp k < 4:=by unfold grp; split <;> decide
structure za8 (w:World) (K:Frag) (mg:Str->Option Value) (G sg:Addr):Prop where
 len:mg "len" = none
 en:mg "enumerate" = none
 lst:mg "list" = none
 set:mg "set" = none
 mp:∃ t,mg "MOST_PARAMETERS" = some (.int 24 t)
 mb:∃ t,mg "MOST_BARS" = some (.int 60 t)
 mgr:mg "GROUPS" = some (.ref G)
 gt:zis w K G zgB
 ms:mg "SINGLE_GROUPS" = some (.ref sg)
 hs:∀ H,SqT K H sg [.int 1,.int 3]
def Cs5 (c:C5):Addr->Prop:=fun C=>∃ k,k < 5/\C = c.at k
def zd0 (K:Frag):Sp:=fun vs H Q _=>∃ (a b:Addr) (xs ys:List V),vs = [.ref a,.ref b]/\SqL K H a xs/\SqL K H b ys/\xs.length<=24/\ys.length<=60/\Q .non H
def zgY (c:C5):Sp:=fun vs H Q _=>∃ (a:Addr) (ps:List Addr) (rows:List Rw),vs = [.ref a]/\H a = some (.lst (ps.map V.ref))/\Paired (PAt c H) ps rows/\(∀ r ∈ rows,r.ok)/\yF 0 rows = true/\∀ H',zm H H'->Q .non H'
def ziG:Sp:=fun vs H Q _=>∃ (b:Addr) (bars:List Str),vs = [.ref b]/\H b = some (.lst (bars.map V.str))/\(∀ z ∈ bars,yx z = true)/\∀ H',zm H H'->Q .non H'
def ziF (c:C5):Sp:=fun vs H Q _=>∃ (a b:Addr) (ps:List Addr) (rows:List Rw) (bars:List Str),vs = [.ref a,.ref b]/\H a = some (.lst (ps.map V.ref))/\Paired (PAt c H) ps rows/\(∀ r ∈ rows,r.ok)/\rows.length<=500/\H b = some (.lst (bars.map V.str))/\bars.length<=500/\(nms rows ++ bars).Nodup/\∀ H',zm H H'->Q .non H'
def ziH (c:C5):Sp:=fun vs H Q _=>∃ (a:Addr) (ps:List Addr) (rows:List Rw) (kk:Nat),vs = [.ref a,.str (kw kk)]/\kk < 5/\H a = some (.lst (ps.map V.ref))/\Paired (PAt c H) ps rows/\(∀ r ∈ rows,r.ok)/\∀ H',zm H H'->Q (xD (zy kk 0 rows)) H'
theorem ze8:∀ i:Nat,i < 5->∀ k:Nat,k < 5->decide (V.str (kw k) = V.str (kw i)) = (k == i):=by decide +kernel
theorem zcN {α : Type} {xs:List α} {i:Nat} {x : α} (h:xs[i]? = some x):xs.drop i = x :: xs.drop (i + 1):=by
 have hi:i < xs.length:=(List.getElem?_eq_some_iff.mp h).1
 rw [List.drop_eq_getElem_cons hi]
 rw [List.getElem?_eq_getElem hi] at h
 rw [Option.some.inj h]
theorem xC {ps:List Addr} {i:Nat} {x:V} (h:(ps.map V.ref)[i]? = some x):∃ p,ps[i]? = some p/\x = .ref p:=by
 rw [List.getElem?_map] at h
 cases e:ps[i]? with
 | none=>rw [e] at h; cases h
 | some p=>rw [e] at h; exact ⟨p,rfl,(Option.some.inj h).symm⟩
theorem strs_at {zs:List Str} {i:Nat} {x:V} (h:(zs.map V.str)[i]? = some x):∃ z,zs[i]? = some z/\x = .str z:=by
 rw [List.getElem?_map] at h
 cases e:zs[i]? with
 | none=>rw [e] at h; cases h
 | some p=>rw [e] at h; exact ⟨p,rfl,(Option.some.inj h).symm⟩
section
variable {P:Program} {w:World} {K:Frag} {mg:Str->Option Value} {base:Heap} {f G sg:Addr} {fd:FuncData} {c:C5} {m:MA}
def Pcs (K:Frag) (m:MA) (c:C5):Prop:=∀ k,k < 5->PC K m (c.at k)
theorem zfL:zt ["parameters","bars"] ["parameters","bars"] (zh zbm):=⟨rfl,rfl,rfl,by decide +kernel,rfl,by decide +kernel,by decide +kernel⟩
theorem zgg (F:Fun K "refuse_too_many" "refuse_too_many" zbm f fd) (T:za8 w K mg G sg):zA P w K mg base CX0 1 f fd ["parameters","bars"] (zd0 K):=by
 refine F.ok zfL (fun vs H Q E h=>?_) (fun cdv A outer s H vs Q E hr h=>?_)
 ·obtain ⟨a,b,xs,ys,rfl,_⟩:=h
  rfl
 obtain ⟨a,b,xs,ys,rfl,ha,hb,l1,l2,q⟩:=h
 obtain ⟨t1,m1⟩:=T.mp
 obtain ⟨t2,m2⟩:=T.mb
 refine ⟨_,zj (zD (zi jN (cB zH T.len PySem.boot_len (ac (pv 0) zb)) (wy (v:=.int 24) rfl m1 ⟨_,rfl⟩) (zr _)) (zd wU) zu)
  (zd (zD (zi jN (cB zH T.len PySem.boot_len (ac (pv 1) zb)) (wy (v:=.int 60) rfl m2 ⟨_,rfl⟩) (zr _)) (zd wU) zu)),?_⟩
 refine ⟨_,rfl,a,_,rfl,.inl ha,_,_,rfl,rfl,_,rfl,?_⟩
 refine dF (by show ¬ (24:Int) < (xs.length:Int); omega) ?_
 refine ⟨_,rfl,b,_,rfl,.inl hb,_,_,rfl,rfl,_,rfl,?_⟩
 exact dF (by show ¬ (60:Int) < (ys.length:Int); omega) q
theorem wj:zt ["parameters","last","at","parameter","group"] ["parameters"] (zh qx):=⟨rfl,rfl,rfl,by decide +kernel,rfl,by decide +kernel,by decide +kernel⟩
theorem zeI (F:Fun K "refuse_bad_order" "refuse_bad_order" qx f fd) (T:za8 w K mg G sg) (PP:Pcs K m c):zA P w K mg base CX0 1 f fd ["parameters"] (zgY c):=by
 refine F.ok wj (fun vs H Q E h=>?_) (fun cdv A outer s H vs Q E hr h=>?_)
 ·obtain ⟨a,ps,rows,rfl,_⟩:=h
  rfl
 obtain ⟨a,ps,rows,rfl,ha,hp,hok,ho,q⟩:=h
 refine ⟨_,zj (zw (i:=1) wj.nd rfl (Or.inl rfl) ze)
  (zd (yn PassesOwn.never rfl (wV rfl T.en (ac (pv 0) zb)) (yH rfl (zz (zk (i:=2) wj.nd rfl (Or.inl rfl)) (zz (zk (i:=3) wj.nd rfl (Or.inl rfl)) yo)))
   (zj (zw (i:=4) wj.nd rfl (Or.inl rfl) (zf0 T.gt T.mgr (yE (pv 3) rfl)))
   (zj (zD (PW.pt (wI (zi xZ (pv 4) (pv 1) (zr _)) (x6 (PW.pt (yb (zi z5 (pv 4) (pv 1) (zr _)) (z4 (zi yK (pv 4) (wy (v:=.ref sg) rfl T.ms rfl) (by with_unfolding_all rfl)))))))) (zd wU) zu)
   (zd (zw (i:=1) wj.nd rfl (Or.inl rfl) (pv 4))))))),?_⟩
 show vQ _ _ _ _ _
 refine ⟨_,rfl,a,rfl,⟨_,SqL.of ha⟩,vK (K:=K) (a:=a) (xs:=ps.map V.ref) (fun i σ H'=>∃ (l:Nat) (v2 v3 v4:Option V),σ = [some (.ref a),some (.int (l:Nat)),v2,v3,v4]/\zm H H'/\yF l (rows.drop i) = true)
  ⟨0,_,_,_,rfl,zm.refl _,ho⟩ (fun i σ H' _ ⟨_,_,_,_,_,sH,_⟩=>SqL.of (sH _ _ ha)) ?_ ?_⟩
 ·rintro i x p σ H' hx ⟨l,v2,v3,v4,rfl,sH,hl⟩ hpn
  obtain ⟨pa,hpa,rfl⟩:=xC hx
  obtain ⟨r,hr',dx,hdx⟩:=yw hp hpa
  have rok:=hok r (List.mem_of_getElem? hr')
  have C:=PP r.k rok.1
  rw [zcN hr'] at hl
  have hl':(!vi l (grp r.k) && yF (grp r.k) (rows.drop (i + 1))) = true:=hl
  rw [Bool.and_eq_true,Bool.not_eq_true'] at hl'
  obtain ⟨hb,hl2⟩:=hl'
  have hb':(decide (grp r.k < l) || (grp r.k == l && (grp r.k == 1 || grp r.k == 3))) = false:=hb
  rw [Bool.or_eq_false_iff] at hb'
  have sp:=zc hpn (.tup [.int (i:Nat),.ref pa])
  refine ⟨p,_,rfl,SqT.of za,rfl,_,_,rfl,_,_,rfl,rfl,?_⟩
  refine ⟨_,rfl,pa,_,dx,_,_,rfl,sp _ _ (sH _ _ hdx),C.cl,C.nW,vB,kw r.k,.int (grp r.k),rfl,zgA r.k rok.1,?_⟩
  refine ⟨_,rfl,_,rfl,_,_,rfl,rfl,_,rfl,?_⟩
  refine dF (fun z=>by have:=of_decide_eq_false hb'.1; omega) ?_
  have fin:∃ (l':Nat) (v2 v3 v4:Option V),([some (.ref a),some (.int (grp r.k:Nat)),some (.int (i:Nat)),some (.ref pa),some (.int (grp r.k:Nat))]:L2.St) = [some (.ref a),some (.int (l':Nat)),v2,v3,v4]/\zm H (upd H' p (.tup [.int (i:Nat),.ref pa]))/\yF l' (rows.drop (i + 1)) = true:=
   ⟨grp r.k,_,_,_,rfl,sH.trans sp,hl2⟩
  refine ⟨_,rfl,_,rfl,rfl,_,rfl,?_⟩
  by_cases e:grp r.k = l
  ·refine dT (by rw [e]) ?_
   refine ⟨_,rfl,sg,_,rfl,.inr (T.hs _),rfl,(by decide),_,rfl,?_⟩
   have h13:(grp r.k == 1 || grp r.k == 3) = false:=by
    have:=hb'.2
    rw [e] at this |-
    simpa using this
   have hin:inV (.int (grp r.k:Nat)) [.int 1,.int 3] = false:=by
    have g4:=zii r.k
    have:∀ g:Nat,g < 4->(g == 1 || g == 3) = false->inV (.int (g:Nat)) [.int 1,.int 3] = false:=by decide +kernel
    exact this _ g4 h13
   rw [show (if false = true then !inV (V.int ((grp r.k:Nat):Int)) [V.int 1,V.int 3] else inV (V.int ((grp r.k:Nat):Int)) [V.int 1,V.int 3]) = false from hin]
   refine ym ?_
   exact ⟨_,rfl,fin⟩
  ·refine dF (fun z=>e (by have:=V.int.inj z; omega)) ?_
   exact ⟨_,rfl,fin⟩
 ·rintro σ H' ⟨l,v2,v3,v4,rfl,sH,_⟩
  exact q _ sH
end
end K33
namespace L2
open PySem PySem.Spec PyProof.Rows
theorem qG {X:Cx} {K:Frag} {e:Expr} {f:Str} {pos:Pos} {ta:TE} (hK:X.K = K) (he:PE X e ta) (hb:attributeBase e f X.env (eval e X.env) = eval e X.env):PE X (.Attribute e f pos) (ziA K ta f):=hK ▸ yE he hb
end L2
namespace K33
open PySem L2 PyProof.Rows
theorem zY {n:Nat} (h:n<=1000):n<=sizeLine:=Nat.le_of_lt (zG h)
theorem zgr {rows:List Rw} {i:Nat} {r:Rw} (h:rows[i]? = some r):nms (rows.take (i + 1)) = nms (rows.take i) ++ (if yl r.k = true then [r.z] else []):=by
 have hi:i < rows.length:=(List.getElem?_eq_some_iff.mp h).1
 have e:rows[i] = r:=by rw [List.getElem?_eq_getElem hi] at h; exact Option.some.inj h
 unfold nms
 rw [List.take_succ_eq_append_getElem hi,List.filter_append,List.map_append,e]
 cases hb:yl r.k <;> simp [hb]
section
variable {P:Program} {w:World} {K:Frag} {mg:Str->Option Value} {base:Heap} {f G sg:Addr} {fd:FuncData} {c:C5} {m:MA}
theorem zbg:zt ["parameters","word","at","parameter"] ["parameters","word"] (zh zeh):=⟨rfl,rfl,rfl,by decide +kernel,rfl,by decide +kernel,by decide +kernel⟩
theorem zgc (F:Fun K "number_of_word" "number_of_word" zeh f fd) (T:za8 w K mg G sg) (PP:Pcs K m c):zA P w K mg base CX0 1 f fd ["parameters","word"] (ziH c):=by
 refine F.ok zbg (fun vs H Q E h=>?_) (fun cdv A outer s H vs Q E hr h=>?_)
 ·obtain ⟨a,ps,rows,kk,rfl,_⟩:=h
  rfl
 obtain ⟨a,ps,rows,kk,rfl,hkk,ha,hp,hok,q⟩:=h
 refine ⟨_,zj (yn PassesOwn.never rfl (wV rfl T.en (ac (pv 0) zb)) (yH rfl (zz (zk (i:=2) zbg.nd rfl (Or.inl rfl)) (zz (zk (i:=3) zbg.nd rfl (Or.inl rfl)) yo)))
   (zd (zD (zi z5 (yE (pv 3) rfl) (pv 1) (zr _)) (zd (zp (pv 2))) zu))) (zd (zp uZ)),?_⟩
 refine ⟨_,rfl,a,rfl,⟨_,SqL.of ha⟩,vK (K:=K) (a:=a) (xs:=ps.map V.ref) (fun i σ H'=>∃ (v2 v3:Option V),σ = [some (.ref a),some (.str (kw kk)),v2,v3]/\zm H H'/\zy kk i (rows.drop i) = zy kk 0 rows)
  ⟨_,_,rfl,zm.refl _,rfl⟩ (fun i σ H' _ ⟨_,_,_,sH,_⟩=>SqL.of (sH _ _ ha)) ?_ ?_⟩
 ·rintro i x p σ H' hx ⟨v2,v3,rfl,sH,hl⟩ hpn
  obtain ⟨pa,hpa,rfl⟩:=xC hx
  obtain ⟨r,hr',dx,hdx⟩:=yw hp hpa
  have rok:=hok r (List.mem_of_getElem? hr')
  have C:=PP r.k rok.1
  rw [zcN hr'] at hl
  have hl':(if r.k = kk then some i else zy kk (i + 1) (rows.drop (i + 1))) = zy kk 0 rows:=hl
  have sp:=zc hpn (.tup [.int (i:Nat),.ref pa])
  refine ⟨p,_,rfl,SqT.of za,rfl,_,_,rfl,_,_,rfl,rfl,?_⟩
  refine ⟨_,rfl,pa,_,dx,_,_,rfl,sp _ _ (sH _ _ hdx),C.cl,C.nW,vB,_,rfl,rfl,_,rfl,?_⟩
  by_cases e:r.k = kk
  ·refine dT (by rw [e]) ?_
   rw [if_pos e] at hl'
   refine ⟨_,rfl,?_⟩
   have:=q _ (sH.trans sp)
   rw [<- hl'] at this
   exact this
  ·refine dF (fun z=>?_) ?_
   ·have h1:=ze8 kk hkk r.k rok.1
    rw [decide_eq_true z] at h1
    exact e (by simpa using h1.symm)
   ·rw [if_neg e] at hl'
    exact ⟨_,_,rfl,sH.trans sp,hl'⟩
 ·rintro σ H' ⟨v2,v3,rfl,sH,hl⟩
  have e:zy kk 0 rows = none:=by
   rw [<- hl,List.length_map,hp.length,List.drop_length]
   rfl
  have:=q _ sH
  rw [e] at this
  exact this
theorem zcr:zt ["bars","bar"] ["bars"] (zh zbn):=⟨rfl,rfl,rfl,by decide +kernel,rfl,by decide +kernel,by decide +kernel⟩
theorem zeF {g:Addr} {gd:FuncData} (F:Fun K "refuse_bars_without_name" "refuse_bars_without_name" zbn f fd) (cI:zC P w K mg base 1 "is_name" g gd ["thing"] (zhp K)):zA P w K mg base CX0 2 f fd ["bars"] ziG:=by
 refine F.ok zcr (fun vs H Q E h=>?_) (fun cdv A outer s H vs Q E hr h=>?_)
 ·obtain ⟨b,bars,rfl,_⟩:=h
  rfl
 obtain ⟨b,bars,rfl,hb,hn,q⟩:=h
 refine ⟨_,zd (yn PassesOwn.never rfl (zU (pv 0)) (zk (i:=1) zcr.nd rfl (Or.inl rfl)) (zd (zD (xy (yz (cF cI hr (ac (pv 1) zb)))) (zd wU) zu))),?_⟩
 refine ⟨_,rfl,b,rfl,⟨_,SqL.of hb⟩,yJ (K:=K) (a:=b) (xs:=bars.map V.str) (fun i σ H'=>∃ v1,σ = [some (.ref b),v1]/\zm H H') ⟨_,rfl,zm.refl _⟩ (fun i σ H' _ ⟨_,_,sH⟩=>SqL.of (sH _ _ hb)) ?_ ?_⟩
 ·rintro i x σ H' hx ⟨v1,rfl,sH⟩
  obtain ⟨z,hz,rfl⟩:=strs_at hx
  have nz:=hn z (List.mem_of_getElem? hz)
  refine ⟨_,rfl,_,rfl,.inl ⟨z,rfl,zaI nz⟩,fun H2 s2=>⟨_,rfl,?_⟩⟩
  rw [show nmV (.str z) = true from nz]
  refine ym ?_
  exact ⟨_,rfl,sH.trans s2⟩
 ·rintro σ H' ⟨v1,rfl,sH⟩
  exact q _ sH
theorem zh9:([Str.ofString "parameter"]:List Str).Nodup:=by decide +kernel
theorem uQ:zt ["parameters","bars","seen","name"] ["parameters","bars"] (zh qw):=⟨rfl,rfl,rfl,by decide +kernel,rfl,by decide +kernel,by decide +kernel⟩
theorem zeB {gd:FuncData} (F:Fun K "refuse_twice" "refuse_twice" qw f fd) (T:za8 w K mg G sg) (PP:Pcs K m c) (GB:zA P w K mg base CX0 1 m.fB gd ["self"] (uM K m bnL)) (bB:zV K gd ["self"] []):zA P w K mg base CX0 2 f fd ["parameters","bars"] (ziF c):=by
 refine F.ok uQ (fun vs H Q E h=>?_) (fun cdv A outer s H vs Q E hr h=>?_)
 ·obtain ⟨a,b,ps,rows,bars,rfl,_⟩:=h
  rfl
 obtain ⟨a,b,ps,rows,bars,rfl,ha,hp,hok,l1,hb,l2,nd,q⟩:=h
 have hC:∀ C,Cs5 c C->Cls K C/\y1 K C "by_name" m.fB:=fun C ⟨k,hk,e⟩=>by rw [e]; exact ⟨(PP k hk).cl,(PP k hk).mB⟩
 refine ⟨_,zj (zw (i:=2) uQ.nd rfl (Or.inl rfl) (zbE zdA rfl T.set (by decide +kernel:bootBuiltins "set" = some (.type "set"))))
  (zd (yn PassesOwn.never rfl (zU (zq yG (xz [] ["parameter"] [none] rfl ⟨rfl,rfl,rfl,rfl⟩ (zU (pv 0)) (zM 0) rfl rfl rfl
    (fun pins fp s H C=>⟨zk (i:=0) zh9 rfl (Or.inl rfl) (.inr rfl),xr (yz (xK (pv 0) hC GB hr bB yh)),qG (K:=K) rfl (pv 0) rfl⟩)) (cTy yX T.lst PyProof.Rows.boot_list (ac (pv 1) zb)))) (zk (i:=3) uQ.nd rfl (Or.inl rfl))
   (zj (zD (zi jb (pv 3) (pv 2) (by with_unfolding_all rfl)) (zd wU) zu)
   (zd (zI (zfZ (pv 2) (pv 3) ⟨rfl,rfl,rfl,rfl⟩)))))),?_⟩
 refine ⟨rfl,fun se hse=>?_⟩
 have s1:zm H (upd H se (wE P w se (fun _=>false) 0)):=zc hse _
 have g1:upd H se (wE P w se (fun _=>false) 0) se = some (wE P w se (fun _=>false) 0):=za
 show vQ _ _ _ _ (upd H se (wE P w se (fun _=>false) 0))
 generalize upd H se (wE P w se (fun _=>false) 0) = H1 at s1 g1 |-
 have ha1:=s1 _ _ ha
 have hp1:=xl s1 hp
 refine ⟨_,rfl,a,rfl,⟨_,SqL.of ha1⟩,fun D hD=>?_⟩
 refine xF (K:=K) (xs:=ps.map V.ref) (fun i ys H'=>zm H1 H'/\H' D = some (.lst ys)/\ys = (nms (rows.take i)).map V.str) ⟨zc hD _,za,rfl⟩ (fun i ys H' h=>SqL.of (h.1 _ _ ha1)) ?_ ?_
 ·rintro i x ys H' hlt hx ⟨sH,hDy,ey⟩
  obtain ⟨pa,hpa,rfl⟩:=xC hx
  obtain ⟨r,hr',dx,hdx⟩:=yw hp1 hpa
  have rok:=hok r (List.mem_of_getElem? hr')
  have C:=PP r.k rok.1
  have nl:ys.length<=i:=by
   rw [ey,List.length_map]
   unfold nms
   rw [List.length_map]
   refine Nat.le_trans (List.length_filter_le _ _) ?_
   rw [List.length_take]
   omega
  have hd2:=sH _ _ hdx
  refine ⟨_,rfl,pa,_,dx,_,rfl,⟨r.k,rok.1,rfl⟩,hd2,vC (by decide +kernel) (by decide +kernel) (by decide +kernel),pa,dx,_,_,_,_,rfl,C,hd2,_,rfl,?_⟩
  rw [jT r.k rok.1]
  have tk:=zgr hr'
  refine ⟨fun e=>?_,fun e=>?_⟩
  ·rw [e,if_pos rfl] at tk
   refine ⟨_,rfl,pa,_,dx,_,_,rfl,hd2,C.cl,C.nN,wx,?_⟩
   refine lcN.mk hlt (zY (by rw [List.length_map,hp.length]; omega)) hDy nl ⟨fun b u e=>?_,za,?_⟩
   ·rw [zg (zf e hD)]
    exact sH b u e
   ·rw [ey,tk,List.map_append]
    rfl
  ·rw [e,if_neg Bool.false_ne_true,List.append_nil] at tk
   exact lcS.mk hlt ⟨sH,hDy,by rw [ey,tk]⟩
 rintro ys H2 ⟨s2,hDy,ey⟩
 have ey:ys = (nms rows).map V.str:=by
  rw [ey,List.length_map,hp.length,List.take_length]
 subst ey
 have hb2:=s2 _ _ (s1 _ _ hb)
 refine ⟨_,rfl,b,_,rfl,.inl (SqL.of hb2),fun l hl=>?_⟩
 have s3:=zc hl (.lst (bars.map V.str))
 have g3:upd H2 l (.lst (bars.map V.str)) l = some (.lst (bars.map V.str)):=za
 generalize upd H2 l (.lst (bars.map V.str)) = H3 at s3 g3 |-
 have ln:(nms rows).length<=500:=by
  unfold nms
  rw [List.length_map]
  exact Nat.le_trans (List.length_filter_le _ _) l1
 refine ⟨D,l,_,_,rfl,rfl,s3 _ _ hDy,g3,zY (by rw [List.length_map,List.length_map]; omega),fun l4 hl4=>?_⟩
 rw [<- List.map_append]
 have s4:=zc hl4 (.lst ((nms rows ++ bars).map V.str))
 have g4:upd H3 l4 (.lst ((nms rows ++ bars).map V.str)) l4 = some (.lst ((nms rows ++ bars).map V.str)):=za
 have nse:l4 ≠ se:=fun z=>by
  rw [z] at hl4
  rw [s3 _ _ (s2 _ _ g1)] at hl4
  cases hl4
 generalize upd H3 l4 (.lst ((nms rows ++ bars).map V.str)) = H4 at s4 g4 |-
 have sA:zm H1 H4:=s2.trans (s3.trans s4)
 have gse:=sA _ _ g1
 refine ⟨l4,rfl,⟨_,SqL.of g4⟩,yJ (K:=K) (a:=l4) (xs:=(nms rows ++ bars).map V.str) (fun i σ H'=>∃ (S:Str->Bool) (n:Nat) (v3:Option V),σ = [some (.ref a),some (.ref b),some (.ref se),v3]/\H' se = some (wE P w se S n)/\(∀ z,S z = decide (z ∈ (nms rows ++ bars).take i))/\n<=i/\(∀ b' u,H4 b' = some u->b' ≠ se->H' b' = some u))
  ⟨_,0,_,rfl,gse,fun z=>by simp,Nat.le_refl _,fun b' u e _=>e⟩ (fun i σ H' _ ⟨_,_,_,_,_,_,_,k⟩=>SqL.of (k _ _ g4 nse)) ?_ ?_⟩
 ·rintro i x σ H' hx ⟨S,n,v3,rfl,hS,hSz,hn,k⟩
  obtain ⟨z,hz,rfl⟩:=strs_at hx
  have hi:i < (nms rows ++ bars).length:=(List.getElem?_eq_some_iff.mp hz).1
  have ez:(nms rows ++ bars)[i] = z:=by rw [List.getElem?_eq_getElem hi] at hz; exact Option.some.inj hz
  have nz:S z = false:=by
   rw [hSz,decide_eq_false_iff_not]
   intro hm
   obtain ⟨j,hj,ej⟩:=List.mem_take_iff_getElem.mp hm
   have:=List.pairwise_iff_getElem.mp nd j i (by omega) hi (by omega)
   exact this (ej.trans ez.symm)
  refine ⟨_,rfl,_,rfl,se,S,n,z,rfl,rfl,hS,_,rfl,?_⟩
  rw [nz]
  refine ym ?_
  refine ⟨_,rfl,se,S,n,rfl,hS,_,rfl,S,n,z,rfl,hS,?_,?_⟩
  ·rw [List.length_append] at hi
   show n + 1 < 4096
   omega
  ·refine ⟨_,_,_,rfl,za,fun y=>?_,?_,fun b' u e ne=>?_⟩
   ·rw [hSz y,List.take_succ_eq_append_getElem hi,ez]
    simp [List.mem_append]
   ·rw [nz]
    show n + 1<=i + 1
    omega
   ·rw [zg ne]
    exact k b' u e ne
 ·rintro σ H' ⟨S,n,v3,rfl,hS,hSz,hn,k⟩
  refine q _ fun b' u e=>k b' u (sA _ _ (s1 _ _ e)) fun z=>?_
  rw [z,hse] at e
  cases e
end
def SX (f:Addr) (H H':Hp):Prop:=∀ b u,H b = some u->b ≠ f->H' b = some u
theorem SX.same {f:Addr} {H H1 H2:Hp} (x:SX f H H1) (s:zm H1 H2):SX f H H2:=fun b u e n=>s b u (x b u e n)
theorem SX.upd {f:Addr} {H H1:Hp} {o:HO} (x:SX f H H1):SX f H (upd H1 f o):=fun b u e n=>by rw [zg n]; exact x b u e n
theorem SX.refl {f:Addr} {H:Hp}:SX f H H:=fun _ _ e _=>e
theorem wt (f:Str) (v:V):∀ fs:List (Str × V),(zW f v fs).length<=fs.length + 1
 | []=>Nat.le_refl _
 | (g,x) :: r=>by
  show (if g = f then (g,v) :: r else (g,x) :: zW f v r).length<=_
  split
  ·simp
  ·have:=wt f v r
   simp only [List.length_cons]
   omega
def Pre (fs:List (Str × V)):Prop:=fs.length<=50/\∀ m,m ∉ zfu->fs.lookup m = none
structure FC (K:Frag) (CF:Addr):Prop where
 cl:Cls K CF
 n1:xb K CF "row"
 n2:xb K CF "bar_names"
 n3:xb K CF "place_count"
 n4:xb K CF "tail_number"
 n5:xb K CF "bag_number"
 n6:xb K CF "doors"
def zd1 (c:C5) (CF:Addr):Sp:=fun vs H Q _=>∃ (f a b dx:Addr) (fs:List (Str × V)) (ps:List Addr) (rows:List Rw) (bars:List Str),vs = [.ref f,.ref a,.ref b]/\H f = some (.ins CF dx fs)/\Pre fs/\H a = some (.lst (ps.map V.ref))/\Paired (PAt c H) ps rows/\(∀ r ∈ rows,r.ok)/\rows.length<=500/\H b = some (.lst (bars.map V.str))/\
 ∀ H',SX f H H'->za9 c CF H H' f rows bars->(∃ dx' fs',H' f = some (.ins CF dx' fs')/\fs'.length<=fs.length + 6)->Q .non H'
theorem zfX {rows:List Rw} {i:Nat} {r:Rw} (h:rows[i]? = some r):plN (rows.take (i + 1)) = plN (rows.take i) + (if y0 r.k = true then 1 else 0):=by
 have hi:i < rows.length:=(List.getElem?_eq_some_iff.mp h).1
 have e:rows[i] = r:=by rw [List.getElem?_eq_getElem hi] at h; exact Option.some.inj h
 unfold plN
 rw [List.take_succ_eq_append_getElem hi,List.filter_append,List.length_append,e]
 cases hb:y0 r.k <;> simp [hb]
theorem ue:∀ (rows:List Rw) (i:Nat) (acc:List (Key × V)),(yk i acc rows).length<=acc.length + rows.length
 | [],_,_=>Nat.le_refl _
 | r :: rs,i,acc=>by
  have h:=ue rs (i + 1) (if yl r.k = true then yP acc (.inr r.z) (.int i) else acc)
  have h2:(if yl r.k = true then yP acc (.inr r.z) (.int i) else acc).length<=acc.length + 1:=by
   split
   ·exact xx acc _ _
   ·omega
  show (yk (i + 1) _ rs).length<=acc.length + (rs.length + 1)
  omega
theorem wN {r:Rw}:∀ (rows:List Rw) (j i:Nat) (acc:List (Key × V)),rows[i]? = some r->yk j acc (rows.take (i + 1)) = (if yl r.k = true then yP (yk j acc (rows.take i)) (.inr r.z) (.int (j + i:Nat)) else yk j acc (rows.take i))
 | [],_,_,_,h=>by simp at h
 | r0 :: rs,j,0,acc,h=>by
  have e:r0 = r:=by simpa using h
  subst e
  show (if yl r0.k = true then yP acc (.inr r0.z) (.int j) else acc) = _
  rfl
 | r0 :: rs,j,i + 1,acc,h=>by
  have:=wN rs (j + 1) i (if yl r0.k = true then yP acc (.inr r0.z) (.int j) else acc) (by simpa using h)
  show yk (j + 1) _ (rs.take (i + 1)) = _
  rw [this,show j + 1 + i = j + (i + 1) by omega]
  rfl
section
variable {P:Program} {w:World} {K:Frag} {mg:Str->Option Value} {base:Heap} {f G sg CF:Addr} {fd:FuncData} {c:C5} {m:MA}
theorem PAt.ne {H:Hp} {p f CF dx:Addr} {r:Rw} {fs:List (Str × V)} (h:PAt c H p r) (e:H f = some (.ins CF dx fs)) (n:fs.lookup ("word" : Str) = none):p ≠ f:=fun z=>by
 obtain ⟨d,h⟩:=h
 rw [z,e] at h
 injection h with h
 injection h with h1 h2 h3
 rw [h3,vB] at n
 cases n
theorem vD {H H':Hp} {f CF dx:Addr} {fs:List (Str × V)} (e:H f = some (.ins CF dx fs)) (n:fs.lookup ("word" : Str) = none) (x:SX f H H') {ps:List Addr} {rows:List Rw} (h:Paired (PAt c H) ps rows):Paired (PAt c H') ps rows:=
 Paired.imp' (fun _ _ z=>by
  have ne:=z.ne e n
  obtain ⟨d,q⟩:=z
  exact ⟨d,x _ _ q ne⟩) h
theorem zi1:([Str.ofString "at",Str.ofString "parameter"]:List Str).Nodup:=by decide +kernel
theorem zhx:zt ["self","parameters","bars"] ["self","parameters","bars"] (zh zel):=⟨rfl,rfl,rfl,by decide +kernel,rfl,by decide +kernel,by decide +kernel⟩
theorem zgi {g:Addr} {gd gp gb:FuncData} (F:Fun K "keep" "Form.keep" zel f fd) (T:za8 w K mg G sg) (PP:Pcs K m c) (FK:FC K CF) (cW:zC P w K mg base 1 "number_of_word" g gd ["parameters","word"] (ziH c))
  (GP:zA P w K mg base CX0 1 m.fP gp ["self"] (uM K m bpL)) (bP:zV K gp ["self"] []) (GB:zA P w K mg base CX0 1 m.fB gb ["self"] (uM K m bnL)) (bB:zV K gb ["self"] []):zA P w K mg base CX0 2 f fd ["self","parameters","bars"] (zd1 c CF):=by
 refine F.ok zhx (fun vs H Q E h=>?_) (fun cdv A outer s H vs Q E hr h=>?_)
 ·obtain ⟨f,a,b,dx,fs,ps,rows,bars,rfl,_⟩:=h
  rfl
 obtain ⟨f,a,b,dx,fs,ps,rows,bars,rfl,hf,⟨pl,pn⟩,ha,hp,hok,l5,hb,q⟩:=h
 have hP:∀ C,Cs5 c C->Cls K C/\y1 K C "by_place" m.fP:=fun C ⟨k,hk,e⟩=>by rw [e]; exact ⟨(PP k hk).cl,(PP k hk).mP⟩
 have hB:∀ C,Cs5 c C->Cls K C/\y1 K C "by_name" m.fB:=fun C ⟨k,hk,e⟩=>by rw [e]; exact ⟨(PP k hk).cl,(PP k hk).mB⟩
 have nw:fs.lookup ("word" : Str) = none:=pn _ (by decide +kernel)
 refine ⟨_,zj (wu (pv 0) (cTy yX T.lst PyProof.Rows.boot_list (ac (pv 1) zb)) rfl)
  (zj (wu (pv 0) (cTy yX T.lst PyProof.Rows.boot_list (ac (pv 2) zb)) rfl)
  (zj (wu (pv 0) (cB zH T.len PySem.boot_len (ac (xz [] ["parameter"] [none] rfl ⟨rfl,rfl,rfl,rfl⟩ (zU (yE (pv 0) rfl)) (zM 0) rfl rfl rfl
    (fun pins fp s H C=>⟨zk (i:=0) zh9 rfl (Or.inl rfl) (.inr rfl),xr (yz (xK (pv 0) hP GP hr bP yh)),pv 0⟩)) zb)) rfl)
  (zj (wu (pv 0) (cF cW hr (ac (yE (pv 0) rfl) (ac zn zb))) rfl)
  (zj (wu (pv 0) (cF cW hr (ac (yE (pv 0) rfl) (ac zn zb))) rfl)
  (zd (wu (pv 0) (ziS [] ["at","parameter"] [none,none] rfl ⟨rfl,rfl,rfl,rfl⟩ (wV rfl T.en (ac (yE (pv 0) rfl) zb)) (w4 (K:=K) (n:=2) 0 1) rfl rfl rfl
    (fun pins fp s H C=>⟨yH rfl (zz (zk (i:=0) zi1 rfl (Or.inl rfl) (.inr rfl)) (zz (zk (i:=1) zi1 rfl (Or.inl rfl) (.inr rfl)) yo)),xr (yz (xK (pv 1) hB GB hr bB yh)),qG (K:=K) rfl (pv 1) rfl,pv 0⟩)) rfl)))))),?_⟩
 refine ⟨_,rfl,a,_,rfl,.inl (SqL.of ha),fun l1 hl1=>?_⟩
 have s1:=zc hl1 (.lst (ps.map V.ref))
 refine ⟨_,rfl,f,CF,dx,fs,rfl,s1 _ _ hf,FK.cl,FK.n1,(by omega),?_⟩
 have x1:SX f H (upd (upd H l1 (.lst (ps.map V.ref))) f (.ins CF dx (zW "row" (.ref l1) fs))):=(SX.refl.same s1).upd
 have f1:upd (upd H l1 (.lst (ps.map V.ref))) f (.ins CF dx (zW "row" (.ref l1) fs)) f = some (.ins CF dx (zW "row" (.ref l1) fs)):=za
 have e1:upd (upd H l1 (.lst (ps.map V.ref))) f (.ins CF dx (zW "row" (.ref l1) fs)) l1 = some (.lst (ps.map V.ref)):=by
  rw [zg (fun z=>by rw [z,hf] at hl1; cases hl1),za]
 have p1:=wt "row" (.ref l1) fs
 have r1:(zW "row" (.ref l1) fs).lookup ("row" : Str) = some (.ref l1):=by rw [zl,if_pos rfl]
 show vQ _ _ _ _ (upd (upd H l1 (.lst (ps.map V.ref))) f (.ins CF dx (zW "row" (.ref l1) fs)))
 generalize upd (upd H l1 (.lst (ps.map V.ref))) f (.ins CF dx (zW "row" (.ref l1) fs)) = H1 at x1 f1 e1 |-
 have nbf:b ≠ f:=xA hb hf (by intro z; cases z)
 refine ⟨_,rfl,b,_,rfl,.inl (SqL.of (x1 _ _ hb nbf)),fun l2 hl2=>?_⟩
 have s2:=zc hl2 (.lst (bars.map V.str))
 have hlb:H l2 = none:=by
  cases e:H l2 with
  | none=>rfl
  | some u=>exact absurd (x1 _ _ e (fun z=>by rw [z,f1] at hl2; cases hl2)) (by rw [hl2]; intro z; cases z)
 refine ⟨_,rfl,f,CF,dx,_,rfl,s2 _ _ f1,FK.cl,FK.n2,(by omega),?_⟩
 have x2:SX f H (upd (upd H1 l2 (.lst (bars.map V.str))) f (.ins CF dx (zW "bar_names" (.ref l2) (zW "row" (.ref l1) fs)))):=(x1.same s2).upd
 have f2:upd (upd H1 l2 (.lst (bars.map V.str))) f (.ins CF dx (zW "bar_names" (.ref l2) (zW "row" (.ref l1) fs))) f = some (.ins CF dx (zW "bar_names" (.ref l2) (zW "row" (.ref l1) fs))):=za
 have g2:upd (upd H1 l2 (.lst (bars.map V.str))) f (.ins CF dx (zW "bar_names" (.ref l2) (zW "row" (.ref l1) fs))) l2 = some (.lst (bars.map V.str)):=by
  rw [zg (fun z=>by rw [z,f1] at hl2; cases hl2),za]
 have e2:upd (upd H1 l2 (.lst (bars.map V.str))) f (.ins CF dx (zW "bar_names" (.ref l2) (zW "row" (.ref l1) fs))) l1 = some (.lst (ps.map V.ref)):=by
  rw [zg (xA e1 f1 (by intro z; cases z)),s2 _ _ e1]
 have p2:=wt "bar_names" (.ref l2) (zW "row" (.ref l1) fs)
 have r2:(zW "bar_names" (.ref l2) (zW "row" (.ref l1) fs)).lookup ("row" : Str) = some (.ref l1):=by rw [zl,if_neg (by decide +kernel)]; exact r1
 show vQ _ _ _ _ (upd (upd H1 l2 (.lst (bars.map V.str))) f (.ins CF dx (zW "bar_names" (.ref l2) (zW "row" (.ref l1) fs))))
 generalize hfs2:zW "bar_names" (.ref l2) (zW "row" (.ref l1) fs) = fs2 at f2 e2 g2 p2 r2 x2 |-
 generalize upd (upd H1 l2 (.lst (bars.map V.str))) f (.ins CF dx fs2) = H2 at x2 f2 e2 g2 |-
 have hp2:=vD hf nw x2 hp
 refine ⟨_,rfl,f,CF,dx,_,_,rfl,f2,FK.cl,FK.n1,r2,l1,rfl,⟨_,SqL.of e2⟩,fun D hD=>?_⟩
 refine xF (K:=K) (xs:=ps.map V.ref) (fun i ys H'=>zm H2 H'/\H' D = some (.lst ys)/\ys.length = plN (rows.take i)) ⟨zc hD _,za,rfl⟩ (fun i ys H' h=>SqL.of (h.1 _ _ e2)) ?_ ?_
 ·rintro i x ys H' hlt hx ⟨sH,hDy,ey⟩
  obtain ⟨pa,hpa,rfl⟩:=xC hx
  obtain ⟨r,hr',dx',hdx⟩:=yw hp2 hpa
  have rok:=hok r (List.mem_of_getElem? hr')
  have C:=PP r.k rok.1
  have nl:ys.length<=i:=by
   rw [ey]
   unfold plN
   refine Nat.le_trans (List.length_filter_le _ _) ?_
   rw [List.length_take]
   omega
  have hd2:=sH _ _ hdx
  refine ⟨_,rfl,pa,_,dx',_,rfl,⟨r.k,rok.1,rfl⟩,hd2,vC (by decide +kernel) (by decide +kernel) (by decide +kernel),pa,dx',_,_,_,_,rfl,C,hd2,_,rfl,?_⟩
  rw [zg9 r.k rok.1]
  have tk:=zfX hr'
  refine ⟨fun e=>?_,fun e=>?_⟩
  ·rw [e,if_pos rfl] at tk
   refine ⟨_,rfl,lcN.mk hlt (zY (by rw [List.length_map,hp.length]; omega)) hDy nl ⟨fun b u e=>?_,za,?_⟩⟩
   ·rw [zg (zf e hD)]
    exact sH b u e
   ·rw [List.length_append,ey,tk]
    rfl
  ·rw [e,if_neg Bool.false_ne_true] at tk
   exact lcS.mk hlt ⟨sH,hDy,by rw [ey,tk]; rfl⟩
 rintro ys H3 ⟨s3,hDy,ey⟩
 rw [List.length_map,hp.length,List.take_length] at ey
 refine ⟨D,_,rfl,.inl (SqL.of hDy),?_⟩
 rw [ey]
 have x3:=x2.same s3
 refine ⟨_,rfl,f,CF,dx,_,rfl,s3 _ _ f2,FK.cl,FK.n3,(by omega),?_⟩
 have f3:upd H3 f (.ins CF dx (zW "place_count" (.int (plN rows:Nat)) fs2)) f = some (.ins CF dx (zW "place_count" (.int (plN rows:Nat)) fs2)):=za
 have x4:SX f H (upd H3 f (.ins CF dx (zW "place_count" (.int (plN rows:Nat)) fs2))):=x3.upd
 have e4:upd H3 f (.ins CF dx (zW "place_count" (.int (plN rows:Nat)) fs2)) l1 = some (.lst (ps.map V.ref)):=by rw [zg (xA e2 f2 (by intro z; cases z))]; exact s3 _ _ e2
 have g4:upd H3 f (.ins CF dx (zW "place_count" (.int (plN rows:Nat)) fs2)) l2 = some (.lst (bars.map V.str)):=by rw [zg (xA g2 f2 (by intro z; cases z))]; exact s3 _ _ g2
 have p3:=wt "place_count" (.int (plN rows:Nat)) fs2
 have r3:(zW "place_count" (.int (plN rows:Nat)) fs2).lookup ("row" : Str) = some (.ref l1):=by rw [zl,if_neg (by decide +kernel)]; exact r2
 show vQ _ _ _ _ (upd H3 f (.ins CF dx (zW "place_count" (.int (plN rows:Nat)) fs2)))
 generalize hfs3:zW "place_count" (.int (plN rows:Nat)) fs2 = fs3 at f3 x4 e4 g4 p3 r3 |-
 generalize upd H3 f (.ins CF dx fs3) = H4 at x4 f3 e4 g4 |-
 refine ⟨_,rfl,f,CF,dx,_,_,rfl,f3,FK.cl,FK.n1,r3,l1,ps,rows,2,rfl,by decide,e4,vD hf nw x4 hp,hok,fun H5 s5=>?_⟩
 refine ⟨_,rfl,f,CF,dx,_,rfl,s5 _ _ f3,FK.cl,FK.n4,(by omega),?_⟩
 have f5:upd H5 f (.ins CF dx (zW "tail_number" (xD (zy 2 0 rows)) fs3)) f = some (.ins CF dx (zW "tail_number" (xD (zy 2 0 rows)) fs3)):=za
 have x5:SX f H (upd H5 f (.ins CF dx (zW "tail_number" (xD (zy 2 0 rows)) fs3))):=(x4.same s5).upd
 have e5:upd H5 f (.ins CF dx (zW "tail_number" (xD (zy 2 0 rows)) fs3)) l1 = some (.lst (ps.map V.ref)):=by rw [zg (xA e4 f3 (by intro z; cases z))]; exact s5 _ _ e4
 have g5:upd H5 f (.ins CF dx (zW "tail_number" (xD (zy 2 0 rows)) fs3)) l2 = some (.lst (bars.map V.str)):=by rw [zg (xA g4 f3 (by intro z; cases z))]; exact s5 _ _ g4
 have p4:=wt "tail_number" (xD (zy 2 0 rows)) fs3
 have r4:(zW "tail_number" (xD (zy 2 0 rows)) fs3).lookup ("row" : Str) = some (.ref l1):=by rw [zl,if_neg (by decide +kernel)]; exact r3
 show vQ _ _ _ _ (upd H5 f (.ins CF dx (zW "tail_number" (xD (zy 2 0 rows)) fs3)))
 generalize hfs4:zW "tail_number" (xD (zy 2 0 rows)) fs3 = fs4 at f5 x5 e5 g5 p4 r4 |-
 generalize upd H5 f (.ins CF dx fs4) = H6 at x5 f5 e5 g5 |-
 refine ⟨_,rfl,f,CF,dx,_,_,rfl,f5,FK.cl,FK.n1,r4,l1,ps,rows,4,rfl,by decide,e5,vD hf nw x5 hp,hok,fun H7 s7=>?_⟩
 refine ⟨_,rfl,f,CF,dx,_,rfl,s7 _ _ f5,FK.cl,FK.n5,(by omega),?_⟩
 have f7:upd H7 f (.ins CF dx (zW "bag_number" (xD (zy 4 0 rows)) fs4)) f = some (.ins CF dx (zW "bag_number" (xD (zy 4 0 rows)) fs4)):=za
 have x7:SX f H (upd H7 f (.ins CF dx (zW "bag_number" (xD (zy 4 0 rows)) fs4))):=(x5.same s7).upd
 have e7:upd H7 f (.ins CF dx (zW "bag_number" (xD (zy 4 0 rows)) fs4)) l1 = some (.lst (ps.map V.ref)):=by rw [zg (xA e5 f5 (by intro z; cases z))]; exact s7 _ _ e5
 have g7:upd H7 f (.ins CF dx (zW "bag_number" (xD (zy 4 0 rows)) fs4)) l2 = some (.lst (bars.map V.str)):=by rw [zg (xA g5 f5 (by intro z; cases z))]; exact s7 _ _ g5
 have p5:=wt "bag_number" (xD (zy 4 0 rows)) fs4
 have r5:(zW "bag_number" (xD (zy 4 0 rows)) fs4).lookup ("row" : Str) = some (.ref l1):=by rw [zl,if_neg (by decide +kernel)]; exact r4
 generalize hfs5:zW "bag_number" (xD (zy 4 0 rows)) fs4 = fs5 at f7 x7 e7 g7 p5 r5 |-
 generalize upd H7 f (.ins CF dx fs5) = H8 at x7 f7 e7 g7 |-
 have hp8:=vD hf nw x7 hp
 refine ⟨_,rfl,f,CF,dx,_,_,rfl,f7,FK.cl,FK.n1,r5,l1,rfl,⟨_,SqL.of e7⟩,fun D2 hD2=>?_⟩
 refine zgH (K:=K) (xs:=ps.map V.ref) (fun i ys H'=>zm H8 H'/\H' D2 = some (.dK ys)/\ys = yk 0 [] (rows.take i)) ⟨zc hD2 _,za,rfl⟩ (fun i ys H' h=>SqL.of (h.1 _ _ e7)) ?_ ?_
 ·rintro i x p ys H' hlt hx ⟨sH,hDy,ey⟩ hpn
  obtain ⟨pa,hpa,rfl⟩:=xC hx
  obtain ⟨r,hr',dx',hdx⟩:=yw hp8 hpa
  have rok:=hok r (List.mem_of_getElem? hr')
  have C:=PP r.k rok.1
  have sp:=zc hpn (.tup [.int (i:Nat),.ref pa])
  have hd2:=sp _ _ (sH _ _ hdx)
  have hDp:upd H' p (.tup [.int (i:Nat),.ref pa]) D2 = some (.dK ys):=by rw [zg (zf hDy hpn)]; exact hDy
  have nl:ys.length<=i:=by
   rw [ey]
   refine Nat.le_trans (ue _ _ _) ?_
   rw [List.length_take]
   show 0 + _<=i
   omega
  refine ⟨p,_,rfl,SqT.of za,rfl,_,_,rfl,_,_,rfl,rfl,?_⟩
  refine ⟨_,rfl,pa,_,dx',_,rfl,⟨r.k,rok.1,rfl⟩,hd2,vC (by decide +kernel) (by decide +kernel) (by decide +kernel),pa,dx',_,_,_,_,rfl,C,hd2,_,rfl,?_⟩
  rw [jT r.k rok.1]
  have tk:=wN rows 0 i [] hr'
  refine ⟨fun e=>?_,fun e=>?_⟩
  ·rw [e,if_pos rfl] at tk
   refine ⟨_,rfl,pa,_,dx',_,_,rfl,hd2,C.cl,C.nN,wx,_,rfl,dcN.mk (.inr r.z) hlt rfl (zY (by rw [List.length_map,hp.length]; omega)) hDp nl ⟨fun b u e=>?_,za,?_⟩⟩
   ·rw [zg (zf e hD2)]
    exact sp _ _ (sH b u e)
   ·rw [tk,<- ey,Nat.zero_add]
  ·rw [e,if_neg Bool.false_ne_true] at tk
   exact dcS.mk hlt ⟨sH.trans sp,hDp,by rw [ey,tk]⟩
 rintro ys H9 ⟨s9,hDy,ey⟩
 rw [List.length_map,hp.length,List.take_length] at ey
 refine ⟨_,rfl,f,CF,dx,_,rfl,s9 _ _ f7,FK.cl,FK.n6,(by omega),?_⟩
 have nf:∀ {x:Addr} {o:HO},H9 x = some o->(∀ C d g,o ≠ .ins C d g)->upd H9 f (.ins CF dx (zW "doors" (.ref D2) fs5)) x = some o:=fun {x o} e n=>by
  rw [zg (xA e (s9 _ _ f7) (by intro z; exact n _ _ _ z))]
  exact e
 refine q _ (x7.same s9).upd ⟨dx,_,l1,l2,D2,ps,za,?_,nf (s9 _ _ e7) (by intro _ _ _ z; cases z),vD hf nw (x7.same s9).upd hp,nf (s9 _ _ g7) (by intro _ _ _ z; cases z),nf (by rw [hDy,ey]) (by intro _ _ _ z; cases z),hl1,hlb⟩ ⟨dx,_,za,Nat.le_trans (wt _ _ _) (by omega)⟩
 rw [<- hfs5,<- hfs4,<- hfs3,<- hfs2]
 refine ⟨?_,?_,?_,?_,?_,?_,fun mm hm=>?_⟩
 ·rw [zl,if_neg (by decide +kernel),zl,if_neg (by decide +kernel),zl,if_neg (by decide +kernel),zl,if_neg (by decide +kernel),zl,if_neg (by decide +kernel),zl,if_pos rfl]
 ·rw [zl,if_neg (by decide +kernel),zl,if_neg (by decide +kernel),zl,if_neg (by decide +kernel),zl,if_neg (by decide +kernel),zl,if_pos rfl]
 ·rw [zl,if_neg (by decide +kernel),zl,if_neg (by decide +kernel),zl,if_neg (by decide +kernel),zl,if_pos rfl]
 ·rw [zl,if_neg (by decide +kernel),zl,if_neg (by decide +kernel),zl,if_pos rfl]
 ·rw [zl,if_neg (by decide +kernel),zl,if_pos rfl]
 ·rw [zl,if_pos rfl]
 ·have h':∀ a ∈ zfu,¬ mm = a:=fun a ha e=>hm (e ▸ ha)
  rw [zl,if_neg (h' _ (by decide +kernel)),zl,if_neg (h' _ (by decide +kernel)),zl,if_neg (h' _ (by decide +kernel)),zl,if_neg (h' _ (by decide +kernel)),zl,if_neg (h' _ (by decide +kernel)),zl,if_neg (h' _ (by decide +kernel))]
  exact pn mm hm
end
def ziI (c:C5) (CF:Addr):Sp:=fun vs H Q _=>∃ (f a dx:Addr) (bv:V) (ps:List Addr) (rows:List Rw) (bars:List Str),vs = [.ref f,.ref a,bv]/\H f = some (.ins CF dx [])/\H a = some (.lst (ps.map V.ref))/\Paired (PAt c H) ps rows/\((bv = .non/\bars = [])\/∃ b,bv = .ref b/\H b = some (.lst (bars.map V.str)))/\xR rows bars/\
 ∀ H',SX f H H'->za9 c CF H H' f rows bars->(∃ dx' fs',H' f = some (.ins CF dx' fs')/\fs'.length<=6)->Q .non H'
def vR (c:C5) (CF:Addr):Sp:=fun vs H Q _=>∃ (f:Addr) (rows:List Rw) (bars:List Str),vs = [.ref f]/\xp c CF H f rows bars/\∀ (l:Addr) (ps:List Addr) (H':Hp),zm H H'->H l = none->H' l = some (.lst (ps.map V.ref))->Paired (PAt c H') ps rows->Q (.ref l) H'
def zbe (c:C5) (CF:Addr):Sp:=fun vs H Q _=>∃ (f:Addr) (rows:List Rw) (bars:List Str),vs = [.ref f]/\xp c CF H f rows bars/\∀ (l:Addr) (H':Hp),zm H H'->H l = none->H' l = some (.lst (bars.map V.str))->Q (.ref l) H'
def wg (c:C5) (CF:Addr):Sp:=fun vs H Q _=>∃ (f:Addr) (rows:List Rw) (bars:List Str),vs = [.ref f]/\xp c CF H f rows bars/\Q (.int (plN rows:Nat)) H
def vj (c:C5) (CF:Addr) (kk:Nat):Sp:=fun vs H Q _=>∃ (f:Addr) (rows:List Rw) (bars:List Str),vs = [.ref f]/\xp c CF H f rows bars/\Q (xD (zy kk 0 rows)) H
def zdY (c:C5) (CF:Addr):Sp:=fun vs H Q _=>∃ (f:Addr) (z:Str) (rows:List Rw) (bars:List Str),vs = [.ref f,.str z]/\xp c CF H f rows bars/\Q ((zJ (yk 0 [] rows) (.inr z)).getD .non) H
def TAt (H:Hp) (u:Addr) (r:Rw):Prop:=H u = some (.tup (rv r))
section
variable {P:Program} {w:World} {K:Frag} {mg:Str->Option Value} {base:Heap} {f G sg CF:Addr} {fd:FuncData} {c:C5} {m:MA}
theorem zcu:zt ["self","parameters","bars","names"] ["self","parameters","bars"] (zh zbx):=⟨rfl,rfl,rfl,by decide +kernel,rfl,by decide +kernel,by decide +kernel⟩
theorem zeS {ds:List Value} {g1 g2 g3 g4 g5:Addr} {e1 e2 e3 e4 e5:FuncData} (F:jB K "__init__" "Form.__init__" zbx f fd ds) (FK:FC K CF) (mK:y1 K CF "keep" g5)
  (cM:zC P w K mg base 1 "refuse_too_many" g1 e1 ["parameters","bars"] (zd0 K)) (cO:zC P w K mg base 1 "refuse_bad_order" g2 e2 ["parameters"] (zgY c)) (cB':zC P w K mg base 2 "refuse_bars_without_name" g3 e3 ["bars"] ziG) (cT:zC P w K mg base 2 "refuse_twice" g4 e4 ["parameters","bars"] (ziF c))
  (GK:zA P w K mg base CX0 2 g5 e5 ["self","parameters","bars"] (zd1 c CF)) (bK:zV K e5 ["self","parameters","bars"] []):zA P w K mg base CX0 3 f fd ["self","parameters","bars"] (ziI c CF):=by
 refine F.ok zcu (fun vs H Q E h=>?_) (fun cdv A outer s H vs Q E hr h=>?_)
 ·obtain ⟨f,a,dx,bv,ps,rows,bars,rfl,_⟩:=h
  rfl
 obtain ⟨f,a,dx,bv,ps,rows,bars,rfl,hf,ha,hp,hb,V',q⟩:=h
 have hr1:yq 1 _:=hr.mono (by decide)
 refine ⟨_,zj (zw (i:=3) zcu.nd rfl (Or.inl rfl) (zau (x8 (zbF (pv 2))) (zT zb) (pv 2)))
  (zj (zI (cF cM hr1 (ac (pv 1) (ac (pv 3) zb))))
  (zj (zI (cF cO hr1 (ac (pv 1) zb)))
  (zj (zI (cF cB' hr (ac (pv 3) zb)))
  (zj (zI (cF cT hr (ac (pv 1) (ac (pv 3) zb))))
  (zd (zI (zcy (pv 0) FK.cl mK GK hr bK .nil yh (ac (pv 1) (ac (pv 3) zb))))))))),?_⟩
 try dsimp only
 refine y6 (fun σ' H'=>∃ b,σ' = [some (.ref f),some (.ref a),some bv,some (.ref b)]/\zm H H'/\H' b = some (.lst (bars.map V.str))) ?_ (fun key=>?_)
 rotate_left
 ·rcases hb with ⟨rfl,rfl⟩ | ⟨b,rfl,hb⟩
  ·refine ⟨_,rfl,_,rfl,?_⟩
   refine dT rfl ?_
   refine ⟨zz0,fun l hl=>?_⟩
   exact key _ _ ⟨l,rfl,zc hl _,za⟩
  ·refine ⟨_,rfl,_,rfl,?_⟩
   refine dF (by intro z; cases z) ?_
   exact ⟨_,rfl,key _ _ ⟨b,rfl,zm.refl _,hb⟩⟩
 rintro σ1 H1 ⟨b,rfl,s1,hb1⟩
 have ha1:=s1 _ _ ha
 refine ⟨_,rfl,_,rfl,a,b,_,_,rfl,SqL.of ha1,SqL.of hb1,(by rw [List.length_map,hp.length]; exact V'.l24),(by rw [List.length_map]; exact V'.l60),?_⟩
 refine ⟨_,rfl,a,ps,rows,rfl,ha1,xl s1 hp,V'.ok,V'.ord,fun H2 s2=>?_⟩
 refine ⟨_,rfl,b,bars,rfl,s2 _ _ hb1,V'.bn,fun H3 s3=>?_⟩
 have s13:=s1.trans (s2.trans s3)
 refine ⟨_,rfl,_,rfl,a,b,ps,rows,bars,rfl,s13 _ _ ha,xl s13 hp,V'.ok,Nat.le_trans V'.l24 (by decide),s3 _ _ (s2 _ _ hb1),Nat.le_trans V'.l60 (by decide),V'.nd,fun H4 s4=>?_⟩
 have s14:=s13.trans s4
 refine ⟨_,rfl,f,dx,_,rfl,s14 _ _ hf,rfl,_,rfl,_,rfl,f,a,b,dx,[],ps,rows,bars,rfl,s14 _ _ hf,⟨by decide,fun _ _=>rfl⟩,s14 _ _ ha,xl s14 hp,V'.ok,Nat.le_trans V'.l24 (by decide),s4 _ _ (s3 _ _ (s2 _ _ hb1)),fun H5 x5 F5 L5=>?_⟩
 exact q _ (fun b' u e n=>x5 b' u (s14 _ _ e) n) (F5.of s14) L5
theorem zfP:zt ["self"] ["self"] (zh zbw):=⟨rfl,rfl,rfl,by decide +kernel,rfl,by decide +kernel,by decide +kernel⟩
theorem zeR (F:Fun K "parameters" "Form.parameters" zbw f fd) (T:za8 w K mg G sg) (FK:FC K CF):zA P w K mg base CX0 1 f fd ["self"] (vR c CF):=by
 refine F.ok zfP (fun vs H Q E h=>?_) (fun cdv A outer s H vs Q E hr h=>?_)
 ·obtain ⟨f,rows,bars,rfl,_⟩:=h
  rfl
 obtain ⟨f,rows,bars,rfl,⟨dx,fs,lr,lb,ld,ps,h1,h2,h3,h4,h5,h6⟩,q⟩:=h
 refine ⟨_,zd (zp (cTy yX T.lst PyProof.Rows.boot_list (ac (yE (pv 0) rfl) zb))),?_⟩
 refine ⟨_,rfl,f,CF,dx,_,_,rfl,h1,FK.cl,FK.n1,h2.row,lr,_,rfl,.inl (SqL.of h3),fun l hl=>?_⟩
 have s1:=zc hl (.lst (ps.map V.ref))
 exact q l ps _ s1 hl za (xl s1 h4)
theorem zfQ:zt ["self"] ["self"] (zh zby):=⟨rfl,rfl,rfl,by decide +kernel,rfl,by decide +kernel,by decide +kernel⟩
theorem zeT (F:Fun K "bars" "Form.bars" zby f fd) (T:za8 w K mg G sg) (FK:FC K CF):zA P w K mg base CX0 1 f fd ["self"] (zbe c CF):=by
 refine F.ok zfQ (fun vs H Q E h=>?_) (fun cdv A outer s H vs Q E hr h=>?_)
 ·obtain ⟨f,rows,bars,rfl,_⟩:=h
  rfl
 obtain ⟨f,rows,bars,rfl,⟨dx,fs,lr,lb,ld,ps,h1,h2,h3,h4,h5,h6⟩,q⟩:=h
 refine ⟨_,zd (zp (cTy yX T.lst PyProof.Rows.boot_list (ac (yE (pv 0) rfl) zb))),?_⟩
 refine ⟨_,rfl,f,CF,dx,_,_,rfl,h1,FK.cl,FK.n2,h2.bn,lb,_,rfl,.inl (SqL.of h5),fun l hl=>?_⟩
 exact q l _ (zc hl _) hl za
theorem zc5:zt ["self"] ["self"] (zh uU):=⟨rfl,rfl,rfl,by decide +kernel,rfl,by decide +kernel,by decide +kernel⟩
theorem zbH (F:Fun K "places" "Form.places" uU f fd) (FK:FC K CF):zA P w K mg base CX0 1 f fd ["self"] (wg c CF):=by
 refine F.ok zc5 (fun vs H Q E h=>?_) (fun cdv A outer s H vs Q E hr h=>?_)
 ·obtain ⟨f,rows,bars,rfl,_⟩:=h
  rfl
 obtain ⟨f,rows,bars,rfl,⟨dx,fs,lr,lb,ld,ps,h1,h2,h3,h4,h5,h6⟩,q⟩:=h
 exact ⟨_,zd (zp (yE (pv 0) rfl)),_,rfl,f,CF,dx,_,_,rfl,h1,FK.cl,FK.n3,h2.pc,q⟩
theorem zfO:zt ["self"] ["self"] (zh zbv):=⟨rfl,rfl,rfl,by decide +kernel,rfl,by decide +kernel,by decide +kernel⟩
theorem zeQ (F:Fun K "tail" "Form.tail" zbv f fd) (FK:FC K CF):zA P w K mg base CX0 1 f fd ["self"] (vj c CF 2):=by
 refine F.ok zfO (fun vs H Q E h=>?_) (fun cdv A outer s H vs Q E hr h=>?_)
 ·obtain ⟨f,rows,bars,rfl,_⟩:=h
  rfl
 obtain ⟨f,rows,bars,rfl,⟨dx,fs,lr,lb,ld,ps,h1,h2,h3,h4,h5,h6⟩,q⟩:=h
 exact ⟨_,zd (zp (yE (pv 0) rfl)),_,rfl,f,CF,dx,_,_,rfl,h1,FK.cl,FK.n4,h2.tn,q⟩
theorem zhB:zt ["self"] ["self"] (zh zep):=⟨rfl,rfl,rfl,by decide +kernel,rfl,by decide +kernel,by decide +kernel⟩
theorem zgn (F:Fun K "bag" "Form.bag" zep f fd) (FK:FC K CF):zA P w K mg base CX0 1 f fd ["self"] (vj c CF 4):=by
 refine F.ok zhB (fun vs H Q E h=>?_) (fun cdv A outer s H vs Q E hr h=>?_)
 ·obtain ⟨f,rows,bars,rfl,_⟩:=h
  rfl
 obtain ⟨f,rows,bars,rfl,⟨dx,fs,lr,lb,ld,ps,h1,h2,h3,h4,h5,h6⟩,q⟩:=h
 exact ⟨_,zd (zp (yE (pv 0) rfl)),_,rfl,f,CF,dx,_,_,rfl,h1,FK.cl,FK.n5,h2.bg,q⟩
theorem zhA:zt ["self","name"] ["self","name"] (zh zeo):=⟨rfl,rfl,rfl,by decide +kernel,rfl,by decide +kernel,by decide +kernel⟩
theorem zgm (F:Fun K "number_of" "Form.number_of" zeo f fd) (FK:FC K CF):zA P w K mg base CX0 1 f fd ["self","name"] (zdY c CF):=by
 refine F.ok zhA (fun vs H Q E h=>?_) (fun cdv A outer s H vs Q E hr h=>?_)
 ·obtain ⟨f,z,rows,bars,rfl,_⟩:=h
  rfl
 obtain ⟨f,z,rows,bars,rfl,⟨dx,fs,lr,lb,ld,ps,h1,h2,h3,h4,h5,h6⟩,q⟩:=h
 refine ⟨_,zd (zp (zew (jU hr) (yE (pv 0) rfl) (pv 1) ⟨rfl,rfl,rfl,rfl⟩)),?_⟩
 refine ⟨_,rfl,f,CF,dx,_,_,rfl,h1,FK.cl,FK.n6,h2.dr,ld,rfl,?_,_,rfl,_,.inl ⟨_,.inr z,.inl h6,rfl,rfl⟩,q⟩
 exact .inl ⟨_,.inl h6⟩
end
end K33
namespace L2
open PySem PySem.Spec PyProof.Rows
section
variable {X:Cx} {pins:List (Addr × Obj)} {σ : St} {H:Hp} {s:Shared}
theorem Inv.freeze (I:Inv X pins σ H s) {l:Addr} {kvs:List (Key × V)} (hl:H l = some (.dK kvs)):∃ o,s.heap.get? l = some o/\Inv X pins σ (upd H l (.frz o (.dK kvs))) s:=by
 obtain ⟨hz,hy,vs,r,o,es,ep,ho,c⟩:=id (I.hok l _ hl)
 refine ⟨o,ho,⟨I.ok,I.os,I.bare,⟨I.base.keep,I.base.slot,fun b u e n x=>?_,I.base.there,fun b xs e=>?_,fun b u v e=>?_,fun b ps e=>?_⟩,I.loc,I.cell,?_,fun x c e=>?_,fun p hp'=>?_,fun b u e=>?_,I.len⟩⟩
 ·have e1:=I.base.free b u e n x
  rw [zg (zf hl e1).symm]; exact e1
 ·have e1:=I.base.tups b xs e
  rw [zg (xA e1 hl (by intro z; cases z))]; exact e1
 ·have e1:=I.base.frzs b u v e
  rw [zg (xA e1 hl (by intro z; cases z))]; exact e1
 ·obtain ⟨more,e1⟩:=I.base.tbls b ps e
  exact ⟨more,by rw [zg (xA e1 hl (by intro z; cases z))]; exact e1⟩
 ·rw [zg (zf hl I.free).symm]; exact I.free
 ·rw [zg (zf hl (I.freeC x c e)).symm]; exact I.freeC x c e
 ·obtain ⟨q1,q2,q3⟩:=I.pin p hp'
  exact ⟨q1,by rw [zg (zf hl q2).symm]; exact q2,q3⟩
 ·have ho':∀ c,∀ b,H b = some (.own c)->upd H l (.frz o (.dK kvs)) b = some (.own c):=fun c b q=>by rw [zg (xA q hl (by intro z; cases z))]; exact q
  have ht':∀ b xs,H b = some (.tup xs)->upd H l (.frz o (.dK kvs)) b = some (.tup xs):=fun b xs q=>by rw [zg (xA q hl (by intro z; cases z))]; exact q
  by_cases hb:b = l
  ·subst hb; rw [za] at e; cases e
   exact ⟨ho,(I.hok b _ hl).stay (fun _ _ _ q=>q) (ho' b) ht'⟩
  ·rw [zg hb] at e
   exact (I.hok b u e).stay (fun _ _ _ q=>q) (ho' b) ht'
def zjl (te:TE):TE:=fun σ H Q=>te σ H fun x H1=>∃ l kvs,x = .ref l/\H1 l = some (.dK kvs)/\∀ o,Q x (upd H1 l (.frz o (.dK kvs)))
theorem zhV {e:Expr} {te:TE} (h:PE X e te):PE X e (zjl te):=by
 refine ⟨?_⟩
 intro pins s σ H Q I hw
 refine thn (h pins s σ H _ I hw) fun v s1 ⟨x,H1,I1,r1,l,kvs,ex,hl,q⟩=>?_
 obtain ⟨o,_,I2⟩:=I1.freeze hl
 exact ⟨x,_,I2,r1,q o⟩
end
theorem zfS {k:Key} {u:Value} (h:jm k u = true):zR (kV k) u:=by
 rcases yt h with ⟨i,t,rfl,rfl⟩ | ⟨x,t,rfl,rfl⟩
 ·exact ⟨t,rfl⟩
 ·exact ⟨t,rfl⟩
def Itd (d:Addr) (o:Obj) (kvs:List (Key × V)):It:=
 ⟨fun i H=>H d = some (.frz o (.dK kvs))/\i < kvs.length,fun i H x H'=>∃ (p:Addr) (k:Key) (v:V),x = .ref p/\H p = none/\kvs[i]? = some (k,v)/\H' = upd H p (.tup [kV k,v]),fun i H=>H d = some (.frz o (.dK kvs))/\kvs.length<=i⟩
theorem zfh {X:Cx} {pins:List (Addr × Obj)} {σ : St} {H:Hp} {s:Shared} {d:Addr} {o:Obj} {kvs:List (Key × V)} {es:Array DictEntry} {ep:Nat} (I:Inv X pins σ H s) (hd:H d = some (.frz o (.dK kvs))) (ho:o.data = .dict es ep) :
  (d == sysModules) = false/\∃ vs,KV kvs vs/\s.heap.DictAt (yg X.prog X.w) d vs ep:=by
 obtain ⟨e,hz,hy,vs,r,o',es',ep',ho',c1,c2,c3⟩:=id (I.hok d _ hd)
 rw [e] at ho'
 cases ho'
 rw [ho] at c2
 cases c2
 exact ⟨hy,vs,r,o,es,e,c1,ho,c3⟩
theorem ve:entryFor table "dict_itemiterator.__iter__" = some Builtin.«dict_keyiterator.__iter__»:=entryFor_alias (id':="dict_keyiterator.__iter__") (by kernel_rfl) (by first | rfl | decide +kernel | (unfold String.splitOn; simp +decide [String.splitOnAux])) (by decide +kernel) (by kernel_rfl)
theorem wD {P:Program} {w:World} {A:Around} {E:Value->Shared->Prop} {s:Shared} {it d:Addr} {i n ep:Nat} {ok ov:Value} {Q:Value->Shared->Prop} (he:IsItemIter s.heap it d i n ep ok ov) (h:Q (.ref it) s):wpAny (model P w) A (pyIter (.ref it)) Q E s:=by
 have hT:s.TypeIs (.ref it) "dict_itemiterator":=⟨_,he,rfl⟩
 refine wpAny_pyIter_slot hT F.slot_dict_itemiterator_iter (wpAny_call_entry F.slot_dict_itemiterator_iter hT ve ?_ (F.args_dict_itemiterator_iter_1 _))
 show wpAny _ _ (ret (.ref it)) _ _ s
 exact wpAny_pure ⟨_,rfl,"dict_itemiterator",_,hT,F.slot_dict_itemiterator_next.lookup,h⟩
theorem zbb {P:Program} {w:World} {K:Frag} {elts:List Expr} {x1:Nat} {tpos:Pos} (d it:Addr) (o:Obj) (kvs:List (Key × V)) (es:Array DictEntry) (ep:Nat) (ho:o.data = .dict es ep) :
  zaa P w K (.Tuple elts x1 tpos) (Itd d o kvs) [it] it (fun i h=>∃ ok ov,IsItemIter h it d i kvs.length ep ok ov) where
 mem:=by simp
 obj:=fun i h st b hb=>by
  have e':b = it:=by simpa using hb
  subst e'
  obtain ⟨ok,ov,hi⟩:=st
  exact ⟨_,hi,fun v q=>by cases q⟩
 keep:=fun i h h' st k=>by
  obtain ⟨ok,ov,hi⟩:=st
  exact ⟨ok,ov,k it (by simp) _ hi⟩
 item:=by
  intro X hP hw hK hc i pins s σ H E I hf st hg
  subst hP hw hK
  obtain ⟨f0,f1,f2,f3,f4,f5⟩:=hf it (by simp)
  obtain ⟨ok,ov,hit⟩:=st
  obtain ⟨hd,hlt⟩:=hg
  obtain ⟨hy,vs,r,hm⟩:=zfh I hd ho
  have hl:kvs.length = vs.length:=r.length
  obtain ⟨⟨k2,u⟩,hu,ek,ru⟩:=Paired.get r (List.getElem?_eq_getElem hlt)
  rw [hl] at hit
  obtain ⟨k,v,hkv⟩:∃ k v,kvs[i] = (k,v):=⟨_,_,rfl⟩
  have ek:k = k2:=by rw [hkv] at ek; exact ek
  have ru2:zR v u:=by rw [hkv] at ru; exact ru
  subst ek
  refine wpAny_pyNext_items_item hit hm hu fun key h' hk2 he' htup hsz hkp=>?_
  have rk:zR (kV k) key:=zfS hk2
  have I0:Inv X pins σ H { s with heap:=h' }:=I.turned (t':=s.toks) (it:=it) hkp f0 f1 f3 f4 f5
  have hfr:H s.heap.objs.size = none:=I.hok.fresh (Nat.le_refl _)
  have I1:Inv X pins σ (upd H s.heap.objs.size (.tup [kV k,v])) { s with heap:=h' }:=by
   have hok:HOk X.prog X.w (upd H s.heap.objs.size (.tup [kV k,v])) h':=fun b o q=>by
    by_cases hb:b = s.heap.objs.size
    ·subst hb
     rw [za] at q; cases q
     exact ⟨by show 2<=sizeLine; decide,[key,u],.cons rk (.cons ru2 .nil),⟨_,htup,rfl,_,rfl⟩⟩
    ·rw [zg hb] at q
     exact (I0.hok b o q).stay (fun _ _ _ z=>z) (fun c z=>by rw [zg (zf z hfr)]; exact z) fun c xs' z=>by rw [zg (zf z hfr)]; exact z
   refine I0.step (s:={ s with heap:=h' }) (g':=s.gens) (d':=s.drawn) (h':=h') (t':=s.toks) (ch:=[s.heap.objs.size]) (fun b hb=>?_) (fun b o _ _ _ e1 _=>e1) (fun b o _ _ _ e1 _=>⟨o.slots,e1⟩) (fun b o hb e1 n=>by rw [zg (fun z=>hb (by simp [z]))]; exact n)
    (fun b o _ e1=>⟨o,e1⟩) (fun b xs' e1=>by rw [zg (zf e1 hfr)]; exact e1) (fun b o' u' e1=>by rw [zg (zf e1 hfr)]; exact e1) (fun b ps e1=>⟨#[],by rw [zg (zf e1 hfr),e1]; simp⟩) (fun m hm=>hm) hok I0.bare
   have e':b = s.heap.objs.size:=by simpa using hb
   subst e'
   refine ⟨.inr I.sz,fun z=>?_,fun y c h z=>?_,fun p hp' z=>?_⟩
   ·have:=I.lt; rw [<- z] at this; exact absurd this (Nat.lt_irrefl _)
   ·obtain ⟨v',hv⟩:=I.cell y c h
    have:=hv.lt; rw [z] at this; exact absurd this (Nat.lt_irrefl _)
   ·have:=I.pin_lt hp'; rw [z] at this; exact absurd this (Nat.lt_irrefl _)
  refine ⟨_,rfl,wpAny_letOwnedTupleGo_items he' fun h2 he2 hs2=>?_⟩
  have nis:s.heap.objs.size ≠ it:=fun z=>by
   have:=Heap.lt_size (show s.heap.get? it = some _ from hit)
   rw [<- z] at this; exact absurd this (Nat.lt_irrefl _)
  have I2:Inv X pins σ (upd H s.heap.objs.size (.tup [kV k,v])) { s with heap:=h2 }:=
   I1.turned (s:={ s with heap:=h' }) (t':=s.toks) (it:=it) (fun b o hb q=>(hs2.2 b hb).trans q) (by rw [zg nis.symm]; exact f0) f1 f3 f4 f5
  refine ⟨.ref s.heap.objs.size,_,I2,rfl,⟨_,k,v,rfl,hfr,by rw [List.getElem?_eq_getElem hlt,hkv],rfl⟩,⟨_,_,by rw [hl]; exact he2⟩,fun b hb=>?_⟩
  have e':b = it:=by simpa using hb
  subst e'
  rw [zg nis.symm]; exact f0
 done:=by
  intro X hP hw hK hc i pins s σ H E I hf st hg
  subst hP hw hK
  obtain ⟨ok,ov,hit⟩:=st
  obtain ⟨f0,f1,f2,f3,f4,f5⟩:=hf it (by simp)
  obtain ⟨hd,hle⟩:=hg
  obtain ⟨hy,vs,r,hm⟩:=zfh I hd ho
  have hl:kvs.length = vs.length:=r.length
  rw [hl] at hit
  exact wpAny_pyNext_items_end (I.ok.hd hc) hit hm (List.getElem?_eq_none (by omega)) fun h' eb=>⟨rfl,I.turned (t':=s.toks) (fun b o hb e1=>eb b o hb e1) f0 f1 f3 f4 f5⟩
 self:=fun A i s Q E st h=>by
  obtain ⟨ok,ov,hit⟩:=st
  exact wD hit h
section
variable {X:Cx} {elts:List Expr} {x1:Nat} {tpos:Pos}
def zig (te:TE):TI:=fun σ H R=>te σ H fun x H1=>∃ d o kvs,x = .ref d/\H1 d = some (.frz o (.dK kvs))/\R (Itd d o kvs) H1
theorem zev {l:Expr} {te:TE} {apos cpos:Pos} (hl:PE X l te) (hbase:attributeBase l "items" X.env (eval l X.env) = eval l X.env:=by rfl) (hline:(apos.endLine == cpos.line) = true:=by rfl) :
  PI X (.Tuple elts x1 tpos) (.Call (.Attribute l "items" apos) [] [] cpos) (zig te):=by
 refine ⟨?_⟩
 intro pins s σ H R I h
 refine wpAny_Call_method0_late hbase hline (thn (hl pins s σ H _ I h) fun v s1 ⟨x,H1,I1,r1,d,o,kvs,ex,hd,q⟩=>?_)
 subst ex
 cases r1
 obtain ⟨e,hz,hy,vs,r,o',es,ep,ho',c1,c2,c3⟩:=id (I1.hok d _ hd)
 rw [e] at ho'
 cases ho'
 have hm:s1.heap.DictAt (yg X.prog X.w) d vs ep:=⟨o,es,e,c1,c2,c3⟩
 refine ⟨"dict","dict.items",F.plainAttrs_dict,F.slot_dict_items,F.type_dict_items,⟨o,e,c1.1⟩,fun a ea=>by cases ea; exact ⟨o,e,c1.2.1⟩,Calls.callWith_builtin rfl (PySem.evalArgs_none ?_)⟩
 refine call_meetsIn F.slot_dict_items ⟨o,e,c1.1⟩ F.entry_dict_items (F.args_dict_items_1 _) (meets_dict_items (yg X.prog X.w) d hy) ⟨⟨vs,hm.dictOf⟩,?_⟩
 show wpAny _ _ (pyIter (.ref s1.heap.objs.size)) _ _ _
 have hl:kvs.length = vs.length:=r.length
 refine wpAny_pyIter_items (knd:=yg X.prog X.w) (d:=d) (kvs:=vs) (ep:=ep) ⟨_,Heap.get?_push_size _ rfl,rfl,rfl⟩ (hm.push _) ?_
 have hk:∀ b ob,s1.heap.get? b = some ob->((s1.heap.push { cls:=.type "dict_items",data:=.fields #[.ref d] }).push { cls:=.type "dict_itemiterator",data:=.fields #[.none,.bool false,.ref d,.int 0 0,.int vs.length 0,.int ep 0,.none,.none] }).get? b = some ob:=fun b ob q=>Heap.get?_push_of_some _ (Heap.get?_push_of_some _ q)
 have I2:=I1.kept (t':=s1.toks) hk
 have hsz:(s1.heap.push { cls:=.type "dict_items",data:=.fields #[.ref d] }).objs.size = s1.heap.objs.size + 1:=Heap.size_push ..
 refine ⟨(s1.heap.push { cls:=.type "dict_items",data:=.fields #[.ref d] }).objs.size,[(s1.heap.push { cls:=.type "dict_items",data:=.fields #[.ref d] }).objs.size],_,Itd d o kvs,H1,rfl,I2,zbb d _ o kvs es ep c2,⟨.none,.none,?_⟩,fun b hb=>?_,q⟩
 ·rw [hl]
  exact Heap.get?_push_size (s1.heap.push { cls:=.type "dict_items",data:=.fields #[.ref d] }) (o:={ cls:=.type "dict_itemiterator",data:=.fields #[.none,.bool false,.ref d,.int 0 0,.int vs.length 0,.int ep 0,.none,.none] }) rfl
 ·have e':b = (s1.heap.push { cls:=.type "dict_items",data:=.fields #[.ref d] }).objs.size:=by simpa using hb
  subst e'
  rw [hsz]
  exact I1.fpOk (Nat.le_succ _) (I1.hok.fresh (Nat.le_succ _))
theorem zdt {d:Addr} {o:Obj} {kvs:List (Key × V)} {g:TG} {tb:TS} {D:uj} {σ : St} {H:Hp} (Pv:Nat->St->Hp->Prop) (h0:Pv 0 σ H) (hl:∀ i σ H,i<=kvs.length->Pv i σ H->H d = some (.frz o (.dK kvs)))
  (hs:∀ i k v p σ H,kvs[i]? = some (k,v)->Pv i σ H->H p = none->g (.ref p) σ (upd H p (.tup [kV k,v])) fun σ2 H2=>tb { D with nx:=Pv (i + 1),ct:=Pv (i + 1),bk:=D.nx } σ2 H2) (hd:∀ σ H,Pv kvs.length σ H->D.nx σ H) :
  ∃ W:Nat->Nat->St->Hp->Prop,(∃ m,W 0 m σ H)/\∀ i m σ H,W i m σ H->
   ((Itd d o kvs).stop i H/\D.nx σ H)\/((Itd d o kvs).go i H/\∃ N:St->Hp->Prop,(∀ σ' H',N σ' H'->∃ m',m' < m/\W (i + 1) m' σ' H')/\∀ x H',(Itd d o kvs).yld i H x H'->g x σ H' fun σ2 H2=>tb { D with nx:=N,ct:=N,bk:=D.nx } σ2 H2):=by
 refine ⟨fun i m σ H=>m = kvs.length - i/\i<=kvs.length/\Pv i σ H,⟨kvs.length,by simp,Nat.zero_le _,h0⟩,?_⟩
 rintro i m σ H ⟨rfl,hi,p⟩
 have q:=hl i σ H hi p
 by_cases hlt:i < kvs.length
 ·refine .inr ⟨⟨q,hlt⟩,Pv (i + 1),fun σ' H' p'=>⟨kvs.length - (i + 1),by omega,rfl,hlt,p'⟩,fun x H' y=>?_⟩
  obtain ⟨pp,k,v,rfl,hp,y2,rfl⟩:=y
  exact hs i k v pp σ H y2 p hp
 ·have e:i = kvs.length:=by omega
  subst e
  exact .inl ⟨⟨q,Nat.le_refl _⟩,hd σ H p⟩
end
theorem zjr {X:Cx} {pins:List (Addr × Obj)} {σ : St} {H:Hp} {s:Shared} {A:Around} {a b:Addr} {xs ys:List V} (I:Inv X pins σ H s) (ha:SqT X.K H a xs) (hb:SqT X.K H b ys) (fx:xs.all yZ = true) (fy:ys.all yZ = true) (hu:A.units + 8 < cLine) :
  SeqAt.RcAt A s (.ref a) (.ref b) (eqT xs ys):=by
 obtain ⟨ia,va,pa,_⟩:=I.tuple ha
 obtain ⟨ib,vb,pb,_⟩:=I.tuple hb
 have la:ia.toArray.size = xs.length:=by rw [List.size_toArray]; exact va.length.symm
 have lb:ib.toArray.size = ys.length:=by rw [List.size_toArray]; exact vb.length.symm
 have:=SeqAt.RcAt.tuples (A:=A) (s:=s) (e:=fun j=>eqV (xs[j]?.getD .non) (ys[j]?.getD .non)) (show s.heap.IsTuple a ia.toArray from pa) (show s.heap.IsTuple b ib.toArray from pb) (by omega) (fun j h1 h2=>by
  have j1:j < ia.length:=by simpa using h1
  have j2:j < ib.length:=by simpa using h2
  have hxl:j < xs.length:=by rw [va.length]; exact j1
  have hyl:j < ys.length:=by rw [vb.length]; exact j2
  obtain ⟨u',e1,e2⟩:=va.get (i:=j) (List.getElem?_eq_getElem hxl)
  obtain ⟨v',e3,e4⟩:=vb.get (i:=j) (List.getElem?_eq_getElem hyl)
  rw [List.getElem?_eq_getElem j1] at e1
  rw [List.getElem?_eq_getElem j2] at e3
  cases e1; cases e3
  have q:=zfj (A:=A.in1) (s:=s) e2 e4 (List.all_eq_true.mp fx _ (List.getElem_mem hxl)) (List.all_eq_true.mp fy _ (List.getElem_mem hyl))
  simpa [hxl,hyl] using q)
 rw [la,lb] at this
 exact this
def zhR (K:Frag):R2:=fun x y H Q=>∃ (a c:Addr) (xs ys:List V),x = .ref a/\y = .ref c/\SqT K H a xs/\SqT K H c ys/\xs.all yZ = true/\ys.all yZ = true/\Q (.bl (eqT xs ys)) H
theorem zaC {X:Cx} (hu:X.A.units + 64 < cLine):OpR X (compareOp .Eq) (zhR X.K):=by
 intro pins s σ H x y v u Q I rx ry h
 obtain ⟨a,c,xs,ys,rfl,rfl,ha,hc,fx,fy,q⟩:=h
 cases rx; cases ry
 exact zjr (A:=X.A) I ha hc fx fy (by omega) X.prog X.w X.xe _ ⟨.bl _,H,I,rfl,q⟩
end L2
namespace K33
open PySem L2 PyProof.Rows
inductive xo where
 | one (t:Int) | row (ts:List Int) | named (n:Str) (t:Int) | book (ps:List (Str × Int))
def y4 (p:Str × Int):Dt:=.tup [.str p.1,.int p.2]
def xO:xo->Dt
 | .one t=>.tup [.str "one",.int t]
 | .row ts=>.tup [.str "row",.lst (ts.map .int)]
 | .named n t=>.tup [.str "named",.str n,.int t]
 | .book ps=>.tup [.str "book",.lst (ps.map y4)]
def itT:xo->List Int
 | .one t=>[t]
 | .row ts=>ts
 | _=>[]
def itP:xo->List (Str × Int)
 | .named n t=>[(n,t)]
 | .book ps=>ps
 | _=>[]
def z8 (c:List xo):List Int:=(c.map itT).flatten
def yf (c:List xo):List (Str × Int):=(c.map itP).flatten
abbrev T':Addr->Prop:=fun _=>True
def Two (K:Frag) (H H':Hp) (p:Addr) (ts:List Int) (ps:List (Str × Int)):Prop:=
 ∃ l1 l2 xs,H l1 = none/\H l2 = none/\l1 ≠ l2/\H p = none/\H' p = some (.tup [.ref l1,.ref l2])/\H' l1 = some (.lst (ts.map V.int))/\H' l2 = some (.lst xs)/\Paired (zO K T' H' 1) xs (ps.map y4)
def qk (K:Frag):Sp:=fun vs H Q _=>∃ (a:Addr) (c:List xo) (xs:List V),vs = [.ref a]/\SqL K H a xs/\Paired (zO K T' H 3) xs (c.map xO)/\(z8 c).length<=900/\(yf c).length<=900/\
 ∀ (p:Addr) (H':Hp),zm H H'->Two K H H' p (z8 c) (yf c)->Q (.ref p) H'
section
variable {P:Program} {w:World} {K:Frag} {mg:Str->Option Value} {base:Heap} {f:Addr} {fd:FuncData}
end
section
variable {K:Frag} {ok:Addr->Prop} {H H':Hp} {n:Nat} {x:V}
theorem vA {i:Int} (h:zO K ok H n x (.int i)):x = .int i:=by
 have fl:uy x (.int i)->x = .int i:=fun h=>by
  cases x <;> first | exact h.elim | (have e:=(show _ = _ from h); rw [e])
 cases n with
 | zero=>exact fl h
 | succ n=>
  rcases h with h | ⟨_,_,_,_,e,_⟩ | ⟨_,_,_,_,e,_⟩
  ·exact fl h
  ·cases e
  ·cases e
theorem wl {z:Str} (h:zO K ok H n x (.str z)):x = .str z:=by
 have fl:uy x (.str z)->x = .str z:=fun h=>by
  cases x <;> first | exact h.elim | (have e:=(show _ = _ from h); rw [e])
 cases n with
 | zero=>exact fl h
 | succ n=>
  rcases h with h | ⟨_,_,_,_,e,_⟩ | ⟨_,_,_,_,e,_⟩
  ·exact fl h
  ·cases e
  ·cases e
theorem xu {ds:List Dt} (h:zO K ok H (n + 1) x (.tup ds)):∃ a xs,x = .ref a/\SqT K H a xs/\Paired (zO K ok H n) xs ds:=by
 rcases h with h | ⟨a,xs,ds',e1,e2,e3,r⟩ | ⟨_,_,_,_,e,_⟩
 ·cases x <;> exact h.elim
 ·cases e2; exact ⟨a,xs,e1,e3,r⟩
 ·cases e
theorem zar {ds:List Dt} (h:zO K ok H (n + 1) x (.lst ds)):∃ a xs,x = .ref a/\ok a/\H a = some (.lst xs)/\Paired (zO K ok H n) xs ds:=by
 rcases h with h | ⟨_,_,_,_,e,_⟩ | ⟨a,xs,ds',e1,e2,o,e3,r⟩
 ·cases x <;> exact h.elim
 ·cases e
 ·cases e2; exact ⟨a,xs,e1,o,e3,r⟩
theorem jH:∀ {ts:List Int} {xs:List V},Paired (zO K ok H n) xs (ts.map .int)->xs = ts.map V.int
 | [],_,r=>by cases r; rfl
 | t :: ts,_,r=>by
  cases r with
  | cons h r=>rw [vA h,jH r]; rfl
theorem yI {α β : Type} {F : α->β->Prop}:∀ {a c:List α} {b d:List β},Paired F a b->Paired F c d->Paired F (a ++ c) (b ++ d)
 | _,_,_,_,.nil,s=>s
 | _,_,_,_,.cons r t,s=>.cons r (yI t s)
theorem zaT {t:Int} (h:zO K ok H 3 x (xO (.one t))):∃ a,x = .ref a/\SqT K H a [.str "one",.int t]:=by
 obtain ⟨a,xs,rfl,hS,r⟩:=xu h
 cases r with
 | cons h1 r=>cases r with
  | cons h2 r=>cases r; rw [wl h1,vA h2] at hS; exact ⟨a,rfl,hS⟩
theorem zaS {ts:List Int} (h:zO K ok H 3 x (xO (.row ts))):∃ a b,x = .ref a/\SqT K H a [.str "row",.ref b]/\ok b/\H b = some (.lst (ts.map V.int)):=by
 obtain ⟨a,xs,rfl,hS,r⟩:=xu h
 cases r with
 | cons h1 r=>cases r with
  | cons h2 r=>
   cases r
   obtain ⟨b,ys,rfl,o,hb,q⟩:=zar h2
   rw [wl h1] at hS
   rw [jH q] at hb
   exact ⟨a,b,rfl,hS,o,hb⟩
theorem jo {z:Str} {t:Int} (h:zO K ok H 3 x (xO (.named z t))):∃ a,x = .ref a/\SqT K H a [.str "named",.str z,.int t]:=by
 obtain ⟨a,xs,rfl,hS,r⟩:=xu h
 cases r with
 | cons h1 r=>cases r with
  | cons h2 r=>cases r with
   | cons h3 r=>cases r; rw [wl h1,wl h2,vA h3] at hS; exact ⟨a,rfl,hS⟩
theorem jS {ps:List (Str × Int)} (h:zO K ok H 3 x (xO (.book ps))):∃ a b ys,x = .ref a/\SqT K H a [.str "book",.ref b]/\ok b/\H b = some (.lst ys)/\Paired (zO K ok H 1) ys (ps.map y4):=by
 obtain ⟨a,xs,rfl,hS,r⟩:=xu h
 cases r with
 | cons h1 r=>cases r with
  | cons h2 r=>
   cases r
   obtain ⟨b,ys,rfl,o,hb,q⟩:=zar h2
   rw [wl h1] at hS
   exact ⟨a,b,ys,rfl,hS,o,hb,q⟩
end
theorem jh (c:List xo) (i:Nat) (it:xo) (h:c[i]? = some it):z8 (c.take (i + 1)) = z8 (c.take i) ++ itT it:=by
 unfold z8
 rw [List.take_add_one,h,List.map_append,List.flatten_append]
 simp
theorem jj (c:List xo) (i:Nat) (it:xo) (h:c[i]? = some it):yf (c.take (i + 1)) = yf (c.take i) ++ itP it:=by
 unfold yf
 rw [List.take_add_one,h,List.map_append,List.flatten_append]
 simp
theorem ji (c:List xo) (i:Nat):(z8 (c.take i)).length<=(z8 c).length:=by
 unfold z8
 conv=>rhs; rw [<- List.take_append_drop i c]
 rw [List.map_append,List.flatten_append,List.length_append]
 omega
theorem jk (c:List xo) (i:Nat):(yf (c.take i)).length<=(yf c).length:=by
 unfold yf
 conv=>rhs; rw [<- List.take_append_drop i c]
 rw [List.map_append,List.flatten_append,List.length_append]
 omega
theorem ne1:¬ (V.str "row" = V.str "one"):=by decide +kernel
theorem ne2:¬ (V.str "named" = V.str "one"):=by decide +kernel
theorem ne3:¬ (V.str "book" = V.str "one"):=by decide +kernel
theorem ne4:¬ (V.str "named" = V.str "row"):=by decide +kernel
theorem ne5:¬ (V.str "book" = V.str "row"):=by decide +kernel
theorem ne6:¬ (V.str "book" = V.str "named"):=by decide +kernel
section
variable {P:Program} {w:World} {K:Frag} {mg:Str->Option Value} {base:Heap} {f:Addr} {fd:FuncData}
theorem uR:zt ["call","things","pairs","item","word"] ["call"] (zh zej):=⟨rfl,rfl,rfl,by decide +kernel,rfl,by decide +kernel,by decide +kernel⟩
theorem z9 {H H2:Hp} {l:Addr} (s:zm H H2) (h:H l = none) (o:HO):zm H (upd H2 l o):=fun b u q=>by rw [zg (zf q h)]; exact s b u q
theorem zgh (F:Fun K "laid" "laid" zej f fd):zA P w K mg base CX0 1 f fd ["call"] (qk K):=by
 refine F.ok uR (fun vs H Q E h=>?_) (fun cdv A outer s H vs Q E hr h=>?_)
 ·obtain ⟨a,c,xs,rfl,_⟩:=h
  rfl
 obtain ⟨a,c,xs,rfl,hS,hc,hT,hP,q⟩:=h
 refine ⟨_,zj (zw (i:=1) uR.nd rfl (Or.inl rfl) (zT zb)) (zj (zw (i:=2) uR.nd rfl (Or.inl rfl) (zT zb))
  (zj (yn PassesOwn.never rfl (zU (pv 0)) (zk (i:=3) uR.nd rfl (Or.inl rfl))
   (zj (zw (i:=4) uR.nd rfl (Or.inl rfl) (zo zF (pv 3) ze (fun _ _=>rfl)))
   (zd (zD (zi z5 (pv 4) zn (zr _)) (zd (zI (yD PySem.F.plainAttrs_list PySem.F.slot_list_append PySem.F.type_list_append zL (pv 1) (ac (zo zF (pv 3) ze (fun _ _=>rfl)) zb))))
    (zd (zD (zi z5 (pv 4) zn (zr _)) (zd (zI (yD PySem.F.plainAttrs_list PySem.F.slot_list_extend PySem.F.type_list_extend jO (pv 1) (ac (zo zF (pv 3) ze (fun _ _=>rfl)) zb))))
     (zd (zD (zi z5 (pv 4) zn (zr _)) (zd (zI (yD PySem.F.plainAttrs_list PySem.F.slot_list_append PySem.F.type_list_append zL (pv 2) (ac (zE (ac (zo zF (pv 3) ze (fun _ _=>rfl)) (ac (zo zF (pv 3) ze (fun _ _=>rfl)) zb))) zb))))
      (zd (zI (yD PySem.F.plainAttrs_list PySem.F.slot_list_extend PySem.F.type_list_extend jO (pv 2) (ac (zo zF (pv 3) ze (fun _ _=>rfl)) zb))))))))))))
  (zd (zp (zE (ac (pv 1) (ac (pv 2) zb))))))),?_⟩
 refine ⟨zz0,fun l1 h1=>?_⟩
 refine ⟨zz0,fun l2 h2=>?_⟩
 have n12:l1 ≠ l2:=zf za h2
 have f2:H l2 = none:=(zc h1 _).free h2
 have s0:zm H (upd (upd H l1 (.lst [])) l2 (.lst [])):=(zc h1 _).trans (zc h2 _)
 refine ⟨_,rfl,a,rfl,⟨_,s0.seq hS⟩,yJ (K:=K) (a:=a) (xs:=xs) (fun i σ H2=>∃ v3 v4 ys,σ = [some (.ref a),some (.ref l1),some (.ref l2),v3,v4]/\zm H H2/\H2 l1 = some (.lst ((z8 (c.take i)).map V.int))/\H2 l2 = some (.lst ys)/\Paired (zO K T' H2 1) ys ((yf (c.take i)).map y4))
  ⟨_,_,[],rfl,s0,by rw [zg n12,za]; rfl,za,.nil⟩ (fun i σ H2 _ ⟨_,_,_,_,s2,_⟩=>s2.seq hS) ?_ ?_⟩
 ·rintro i y σ H2 hi ⟨v3,v4,ys,rfl,s2,g1,g2,gp⟩
  obtain ⟨d,hd,hy⟩:=Paired.get hc hi
  obtain ⟨it,hit,rfl⟩:∃ it,c[i]? = some it/\xO it = d:=by
   rw [List.getElem?_map] at hd
   cases e:c[i]? with
   | none=>rw [e] at hd; cases hd
   | some it=>rw [e] at hd; exact ⟨it,rfl,Option.some.inj hd⟩
  have hy2:=hy.same s2
  have eT:=jh c i it hit
  have eP:=jj c i it hit
  have lT:=ji c i
  have lP:=jk c i
  have lT1:=ji c (i + 1)
  have lP1:=jk c (i + 1)
  have lys:ys.length = (yf (c.take i)).length:=by rw [gp.length,List.length_map]
  have sT:∀ {H3:Hp} {o:HO} {l:Addr},H3 l = none\/(∃ zs,H3 l = some (.lst zs))->∀ {b zs},SqT K H3 b zs->SqT K (upd H3 l o) b zs:=fun {H3 o l} hl {b zs} hz=>by
   rcases hz with (z | ⟨u,z⟩) | z
   ·refine .inl (.inl ?_)
    have:b ≠ l:=fun e=>by
     subst e
     rcases hl with e | ⟨_,e⟩
     ·rw [e] at z; cases z
     ·rw [e] at z; cases z
    rw [zg this]; exact z
   ·refine .inl (.inr ⟨u,?_⟩)
    have:b ≠ l:=fun e=>by
     subst e
     rcases hl with e | ⟨_,e⟩
     ·rw [e] at z; cases z
     ·rw [e] at z; cases z
    rw [zg this]; exact z
   ·exact .inr z
  have keepP:∀ {H3:Hp} {o:HO} {l:Addr} {zs:List V} {ps:List (Str × Int)},H3 l = none\/(∃ zs,H3 l = some (.lst zs))->Paired (zO K T' H3 1) zs (ps.map y4)->Paired (zO K T' (upd H3 l o) 1) zs (ps.map y4):=by
   intro H3 o l zs ps hl r
   induction ps generalizing zs with
   | nil=>cases r; exact .nil
   | cons p ps ih=>
    cases r with
    | cons h r=>
     refine .cons ?_ (ih r)
     obtain ⟨b,ws,rfl,hS',r'⟩:=xu h
     exact .tup (sT hl hS') (Paired.imp' (fun _ _ z=>z) r')
  cases it with
  | one t=>
   obtain ⟨b,rfl,hb⟩:=zaT hy2
   refine ⟨_,rfl,b,_,_,.str "one",rfl,rfl,hb,rfl,?_⟩
   refine ⟨_,rfl,rfl,_,rfl,?_⟩
   refine dT rfl ?_
   refine ⟨_,rfl,.inl ⟨rfl,_,SqL.of g1⟩,_,rfl,b,_,_,.int t,rfl,rfl,hb,rfl,l1,_,_,rfl,rfl,g1,?_,?_⟩
   ·rw [List.length_map]; exact zG (by omega)
   ·refine ⟨_,_,ys,rfl,z9 s2 h1 _,?_,?_,?_⟩
    ·rw [za,eT,List.map_append]; rfl
    ·rw [zg n12.symm]; exact g2
    ·rw [eP]; show Paired _ _ ((yf (c.take i) ++ []).map y4); rw [List.append_nil]; exact keepP (.inr ⟨_,g1⟩) gp
  | row ts=>
   obtain ⟨b,bl,rfl,hb,_,hbl⟩:=zaS hy2
   refine ⟨_,rfl,b,_,_,.str "row",rfl,rfl,hb,rfl,?_⟩
   refine ⟨_,rfl,rfl,_,rfl,?_⟩
   refine dF ne1 ?_
   refine ⟨_,rfl,rfl,_,rfl,?_⟩
   refine dT rfl ?_
   refine ⟨_,rfl,.inl ⟨rfl,_,SqL.of g1⟩,_,rfl,b,_,_,.ref bl,rfl,rfl,hb,rfl,l1,bl,_,_,rfl,rfl,g1,hbl,?_,?_⟩
   ·have e1:(z8 (c.take (i + 1))).length = (z8 (c.take i)).length + ts.length:=by rw [eT,List.length_append]; rfl
    rw [List.length_map,List.length_map]; exact zY (by omega)
   ·refine ⟨_,_,ys,rfl,z9 s2 h1 _,?_,?_,?_⟩
    ·rw [za,eT,List.map_append]; rfl
    ·rw [zg n12.symm]; exact g2
    ·rw [eP]; show Paired _ _ ((yf (c.take i) ++ []).map y4); rw [List.append_nil]; exact keepP (.inr ⟨_,g1⟩) gp
  | named z t=>
   obtain ⟨b,rfl,hb⟩:=jo hy2
   refine ⟨_,rfl,b,_,_,.str "named",rfl,rfl,hb,rfl,?_⟩
   refine ⟨_,rfl,rfl,_,rfl,?_⟩
   refine dF ne2 ?_
   refine ⟨_,rfl,rfl,_,rfl,?_⟩
   refine dF ne4 ?_
   refine ⟨_,rfl,rfl,_,rfl,?_⟩
   refine dT rfl ?_
   refine ⟨_,rfl,.inl ⟨rfl,_,SqL.of g2⟩,_,rfl,b,_,_,.str z,rfl,rfl,hb,rfl,_,rfl,b,_,_,.int t,rfl,rfl,hb,rfl,zz2,fun p hp=>?_⟩
   have np2:l2 ≠ p:=zf g2 hp
   have np1:l1 ≠ p:=zf g1 hp
   have fp:H p = none:=s2.free hp
   refine ⟨l2,_,_,rfl,rfl,(by rw [zg np2]; exact g2),?_,?_⟩
   ·rw [lys]; exact zG (by omega)
   ·refine ⟨_,_,ys ++ [.ref p],rfl,z9 (z9 s2 fp _) f2 _,?_,za,?_⟩
    ·rw [zg n12,zg np1,g1,eT]; show _ = some (HO.lst ((z8 (c.take i) ++ []).map V.int)); rw [List.append_nil]
    ·rw [eP,List.map_append]
     refine yI (keepP (.inr ⟨_,by rw [zg np2]; exact g2⟩) (keepP (.inl hp) gp)) (.cons (.tup (xs:=[.str z,.int t]) (SqT.of ?_) (.cons .str (.cons .int .nil))) .nil)
     rw [zg np2.symm,za]
  | book ps=>
   obtain ⟨b,bl,zs,rfl,hb,_,hbl,hz⟩:=jS hy2
   refine ⟨_,rfl,b,_,_,.str "book",rfl,rfl,hb,rfl,?_⟩
   refine ⟨_,rfl,rfl,_,rfl,?_⟩
   refine dF ne3 ?_
   refine ⟨_,rfl,rfl,_,rfl,?_⟩
   refine dF ne5 ?_
   refine ⟨_,rfl,rfl,_,rfl,?_⟩
   refine dF ne6 ?_
   have lz:zs.length = ps.length:=by rw [hz.length,List.length_map]
   refine ⟨_,rfl,.inl ⟨rfl,_,SqL.of g2⟩,_,rfl,b,_,_,.ref bl,rfl,rfl,hb,rfl,l2,bl,_,_,rfl,rfl,g2,hbl,?_,?_⟩
   ·have e1:(yf (c.take (i + 1))).length = (yf (c.take i)).length + ps.length:=by rw [eP,List.length_append]; rfl
    rw [lys,lz]; exact zY (by omega)
   ·refine ⟨_,_,ys ++ zs,rfl,z9 s2 f2 _,?_,za,?_⟩
    ·rw [zg n12,g1,eT]; show _ = some (HO.lst ((z8 (c.take i) ++ []).map V.int)); rw [List.append_nil]
    ·rw [eP,List.map_append]
     exact yI (keepP (.inr ⟨_,g2⟩) gp) (keepP (.inr ⟨_,g2⟩) hz)
 ·rintro σ H2 ⟨v3,v4,ys,rfl,s2,g1,g2,gp⟩
  refine ⟨_,rfl,_,rfl,zz2,fun p hp=>?_⟩
  have hl:xs.length = c.length:=by rw [hc.length,List.length_map]
  rw [hl,List.take_length] at g1 gp
  refine q p _ (s2.trans (zc hp _)) ⟨l1,l2,ys,h1,f2,n12,s2.free hp,za,?_,?_,Paired.imp' (fun _ _ z=>z.same (zc hp _)) gp⟩
  ·rw [zg (zf g1 hp)]; exact g1
  ·rw [zg (zf g2 hp)]; exact g2
end
theorem zay {ps:List (Str × Int)} {i:Nat} {d:Dt} (h:(ps.map y4)[i]? = some d):∃ p,ps[i]? = some p/\y4 p = d:=by
 rw [List.getElem?_map] at h
 cases e:ps[i]? with
 | none=>rw [e] at h; cases h
 | some it=>rw [e] at h; exact ⟨it,rfl,Option.some.inj h⟩
theorem jM {K:Frag} {ok:Addr->Prop} {H:Hp} {n:Nat} {x:V} {p:Str × Int} (h:zO K ok H (n + 1) x (y4 p)):∃ b,x = .ref b/\SqT K H b [.str p.1,.int p.2]:=by
 obtain ⟨a,xs,rfl,hS,r⟩:=xu h
 cases r with
 | cons h1 r=>cases r with
  | cons h2 r=>cases r; rw [wl h1,vA h2] at hS; exact ⟨a,rfl,hS⟩
section
variable {P:Program} {w:World} {K:Frag} {mg:Str->Option Value} {base:Heap} {f:Addr} {fd:FuncData}
end
theorem yU {A B:Prop} {b:Bool} (h:b = true) (a:A):if b = true then A else B:=by rw [h]; exact yT a
theorem yp {A B:Prop} {b:Bool} (h:b = false) (a:B):if b = true then A else B:=by rw [h]; exact ym a
section
variable {P:Program} {w:World} {K:Frag} {mg:Str->Option Value} {base:Heap} {f:Addr} {fd:FuncData}
section
variable {H H':Hp} {p l1 l2 l:Addr} {ys:List V} {ts:List Int} {ps:List (Str × Int)} {o:HO}
end
end
def zQ (c:List xo):List Str:=(yf c).map (·.1)
def zcf (K:Frag):Sp:=fun vs H Q _=>∃ (a:Addr) (c:List xo) (xs:List V),vs = [.ref a]/\SqL K H a xs/\Paired (zO K T' H 3) xs (c.map xO)/\(z8 c).length<=900/\(yf c).length<=900/\
 ∀ (p l:Addr) (H':Hp),zm H H'->H l = none->H' p = some (.tup [.int ((z8 c).length:Nat),.ref l])->H' l = some (.lst ((zQ c).map V.str))->Q (.ref p) H'
def vc:Nat->List (Key × V)->List Str->List (Key × V)
 | _,acc,[]=>acc
 | i,acc,z :: zs=>vc (i + 1) (if (zJ acc (.inr z)).isSome = true then acc else yP acc (.inr z) (.int i)) zs
theorem jV {z:Str}:∀ (zs:List Str) (j i:Nat) (acc:List (Key × V)),zs[i]? = some z->vc j acc (zs.take (i + 1)) = (if (zJ (vc j acc (zs.take i)) (.inr z)).isSome = true then vc j acc (zs.take i) else yP (vc j acc (zs.take i)) (.inr z) (.int (j + i:Nat)))
 | [],_,_,_,h=>by simp at h
 | y :: ys,j,0,acc,h=>by
  have e:y = z:=by simpa using h
  subst e
  rfl
 | y :: ys,j,i + 1,acc,h=>by
  have:=jV ys (j + 1) i (if (zJ acc (.inr y)).isSome = true then acc else yP acc (.inr y) (.int j)) (by simpa using h)
  show vc (j + 1) _ (ys.take (i + 1)) = _
  rw [this,show j + 1 + i = j + (i + 1) by omega]
  rfl
theorem zaU:∀ (zs:List Str) (i:Nat) (acc:List (Key × V)),(vc i acc zs).length<=acc.length + zs.length
 | [],_,_=>Nat.le_refl _
 | z :: zs,i,acc=>by
  have h:=zaU zs (i + 1) (if (zJ acc (.inr z)).isSome = true then acc else yP acc (.inr z) (.int i))
  have h2:(if (zJ acc (.inr z)).isSome = true then acc else yP acc (.inr z) (.int i)).length<=acc.length + 1:=by
   split
   ·omega
   ·exact xx acc _ _
  show (vc (i + 1) _ zs).length<=acc.length + (zs.length + 1)
  omega
def zal:Sp:=fun vs H Q _=>∃ (a:Addr) (zs:List Str),vs = [.ref a]/\H a = some (.lst (zs.map V.str))/\zs.length<=900/\∀ (l:Addr) (o:Obj) (H':Hp),zm H H'->H l = none->H' l = some (.frz o (.dK (vc 0 [] zs)))->Q (.ref l) H'
section
variable {P:Program} {w:World} {K:Frag} {mg:Str->Option Value} {base:Heap} {f CF:Addr} {fd:FuncData} {c:C5} {m:MA}
theorem ziX:([Str.ofString "name",Str.ofString "thing"]:List Str).Nodup:=by decide +kernel
theorem qp:zt ["call","things","pairs"] ["call"] (zh zbl):=⟨rfl,rfl,rfl,by decide +kernel,rfl,by decide +kernel,by decide +kernel⟩
theorem zeE {g:Addr} {gd:FuncData} (F:Fun K "shape" "shape" zbl f fd) (hlen:mg "len" = none) (cL:zC P w K mg base 1 "laid" g gd ["call"] (qk K)):zA P w K mg base CX0 2 f fd ["call"] (zcf K):=by
 refine F.ok qp (fun vs H Q E h=>?_) (fun cdv A outer s H vs Q E hr h=>?_)
 ·obtain ⟨a,c,xs,rfl,_⟩:=h
  rfl
 obtain ⟨a,c,xs,rfl,hS,hc,lT,lP,q⟩:=h
 refine ⟨_,zj (wv (cF cL hr (ac (pv 0) zb)) (yH rfl (zz (zk (i:=1) qp.nd rfl (Or.inl rfl)) (zz (zk (i:=2) qp.nd rfl (Or.inl rfl)) yo))))
  (zd (zp (zE (ac (cB zH hlen PySem.boot_len (ac (pv 1) zb)) (ac (xz [] ["name","thing"] [none,none] rfl ⟨rfl,rfl,rfl,rfl⟩ (zU (pv 2)) (w4 (K:=K) (n:=2) 0 1) rfl rfl rfl
   (fun pins fp s H C=>⟨yH rfl (zz (zk (i:=0) ziX rfl (Or.inl rfl) (.inr rfl)) (zz (zk (i:=1) ziX rfl (Or.inl rfl) (.inr rfl)) yo)),yB,pv 0⟩)) zb))))),?_⟩
 refine ⟨_,rfl,a,c,xs,rfl,hS,hc,lT,lP,fun p H1 s1 two=>?_⟩
 obtain ⟨l1,l2,ys,n1,n2,n12,np,ep,e1,e2,gp⟩:=two
 refine ⟨p,_,rfl,SqT.of ep,rfl,_,_,rfl,_,_,rfl,rfl,?_⟩
 refine ⟨_,rfl,l1,_,rfl,.inl (SqL.of e1),_,rfl,l2,rfl,⟨_,SqL.of e2⟩,fun D hD=>?_⟩
 have lys:ys.length = (yf c).length:=by rw [gp.length,List.length_map]
 refine xF (K:=K) (xs:=ys) (fun i zs H'=>zm H1 H'/\H' D = some (.lst zs)/\zs = ((zQ c).take i).map V.str) ⟨zc hD _,za,rfl⟩ (fun i zs H' h=>SqL.of (h.1 _ _ e2)) ?_ ?_
 ·rintro i x zs H' hlt hx ⟨sH,hDy,ez⟩
  obtain ⟨d,hd,hy⟩:=Paired.get gp hx
  obtain ⟨pr',hpr,rfl⟩:=zay hd
  obtain ⟨b,rfl,hb⟩:=jM (hy.same sH)
  refine ⟨b,_,rfl,hb,rfl,_,_,rfl,_,_,rfl,rfl,fun _=>⟨_,rfl,?_⟩,fun e=>Bool.noConfusion e⟩
  have hi:i < (zQ c).length:=by unfold zQ; rw [List.length_map]; omega
  have en:(zQ c)[i] = pr'.1:=by
   have:(zQ c)[i]? = some pr'.1:=by unfold zQ; rw [List.getElem?_map,hpr]; rfl
   rw [List.getElem?_eq_getElem hi] at this
   exact Option.some.inj this
  refine lcN.mk hlt (zY (by omega)) hDy (by rw [ez,List.length_map,List.length_take]; omega) ⟨fun b' u e=>?_,za,?_⟩
  ·rw [zg (zf e hD)]
   exact sH b' u e
  ·rw [ez,List.take_succ_eq_append_getElem hi,en,List.map_append]
   rfl
 rintro zs H2 ⟨s2,hDy,ez⟩
 have hz:zs = (zQ c).map V.str:=by
  rw [ez,List.take_of_length_le (by unfold zQ; rw [List.length_map]; omega)]
 subst hz
 refine ⟨zz2,fun t ht=>?_⟩
 have s3:=zc ht (.tup [.int ((z8 c).map V.int).length,.ref D])
 refine q t D _ (s1.trans (s2.trans s3)) (s1.free hD) (by rw [za,List.length_map]) (s3 _ _ hDy)
theorem vz:zt ["names","firsts","number","name"] ["names"] (zh qA):=⟨rfl,rfl,rfl,by decide +kernel,rfl,by decide +kernel,by decide +kernel⟩
theorem zdg (F:Fun K "first_numbers" "first_numbers" qA f fd) (hen:mg "enumerate" = none):zA P w K mg base CX0 1 f fd ["names"] zal:=by
 refine F.ok vz (fun vs H Q E h=>?_) (fun cdv A outer s H vs Q E hr h=>?_)
 ·obtain ⟨a,zs,rfl,_⟩:=h
  rfl
 obtain ⟨a,zs,rfl,ha,lz,q⟩:=h
 have hu1:=jU hr
 refine ⟨_,zj (zw (i:=1) vz.nd rfl (Or.inl rfl) zav)
  (zj (yn PassesOwn.never rfl (wV rfl hen (ac (pv 0) zb)) (yH rfl (zz (zk (i:=2) vz.nd rfl (Or.inl rfl)) (zz (zk (i:=3) vz.nd rfl (Or.inl rfl)) yo)))
   (zd (zD (x8 (jL hu1 (pv 3) (pv 1))) (zd (zcw hu1 (pv 1) (pv 3) (pv 2) rfl)) zu)))
  (zd (zp (zhV (pv 1))))),?_⟩
 intro sd hsd
 have s1:=zc hsd (.dK [])
 have e1:upd H sd (.dK []) sd = some (.dK []):=za
 show vQ _ _ _ _ (upd H sd (.dK []))
 generalize upd H sd (.dK []) = H1 at s1 e1 |-
 refine ⟨_,rfl,a,rfl,⟨_,SqL.of (s1 _ _ ha)⟩,vK (K:=K) (a:=a) (xs:=zs.map V.str) (fun i σ H'=>∃ (v2 v3:Option V),σ = [some (.ref a),some (.ref sd),v2,v3]/\zm H H'/\H' sd = some (.dK (vc 0 [] (zs.take i))))
  ⟨_,_,rfl,s1,e1⟩ (fun i σ H' _ ⟨_,_,_,sH,_⟩=>SqL.of (sH _ _ ha)) ?_ ?_⟩
 ·rintro i x p σ H' hx ⟨v2,v3,rfl,sH,hd⟩ hpn
  obtain ⟨z,hz,rfl⟩:=strs_at hx
  have sp:=zc hpn (.tup [.int (i:Nat),.str z])
  have hd2:=sp _ _ hd
  have tk:=jV zs 0 i [] hz
  rw [Nat.zero_add] at tk
  have hi:i < zs.length:=(List.getElem?_eq_some_iff.mp hz).1
  refine ⟨p,_,rfl,SqT.of za,rfl,_,_,rfl,_,_,rfl,rfl,?_⟩
  refine ⟨_,rfl,_,rfl,sd,_,rfl,.inl ⟨_,.inr z,.inl hd2,rfl,rfl⟩,_,rfl,?_⟩
  refine vI (fun ne=>?_) (fun ne=>?_)
  ·have ns:¬ (zJ (vc 0 [] (zs.take i)) (.inr z)).isSome = true:=by
    intro e
    rw [e] at ne
    cases ne
   rw [if_neg ns] at tk
   have ln:=zaU (zs.take i) 0 []
   refine ⟨_,rfl,_,rfl,_,rfl,sd,_,rfl,.inl ⟨_,.inr z,hd2,rfl,zG (by rw [List.length_take] at ln; simp at ln; omega),rfl⟩,?_⟩
   refine ⟨_,_,rfl,fun b' u e=>?_,by rw [za,tk]⟩
   rw [zg (zf e hsd)]
   exact sp _ _ (sH _ _ e)
  ·have ns:(zJ (vc 0 [] (zs.take i)) (.inr z)).isSome = true:=by
    cases e:(zJ (vc 0 [] (zs.take i)) (.inr z)).isSome with
    | true=>rfl
    | false=>exact absurd (by rw [e]; rfl) ne
   rw [if_pos ns] at tk
   exact ⟨_,_,rfl,sH.trans sp,by rw [tk]; exact hd2⟩
 ·rintro σ H' ⟨v2,v3,rfl,sH,hd⟩
  rw [List.length_map,List.take_length] at hd
  refine ⟨_,rfl,sd,_,rfl,hd,fun o=>?_⟩
  refine q sd o _ (fun b' u e=>?_) hsd za
  rw [zg (zf e hsd)]
  exact sH _ _ e
end
def MA1 (H:Hp) (u:Addr) (m:Str × Nat):Prop:=H u = some (.tup [.str m.1,.int (m.2:Nat)])
def xV (H:Hp) (us:List Addr) (ms:List (Str × Nat)):Prop:=Paired (MA1 H) us ms
theorem xV.same {H H':Hp} {us:List Addr} {ms:List (Str × Nat)} (h:xV H us ms) (s:zm H H'):xV H' us ms:=Paired.imp' (fun _ _ z=>s _ _ z) h
theorem xV.upd {H:Hp} {us:List Addr} {ms:List (Str × Nat)} {D:Addr} {ys:List V} {o:HO} (h:xV H us ms) (hD:H D = some (.lst ys)):xV (upd H D o) us ms:=Paired.imp' (fun u m z=>by
 show L2.upd H D o u = _
 rw [zg (fun e=>by rw [e] at z; rw [MA1,hD] at z; cases z)]
 exact z) h
theorem xV.snoc {H:Hp} {us:List Addr} {ms:List (Str × Nat)} {u:Addr} {m:Str × Nat} (h:xV H us ms) (hu:MA1 H u m):xV H (us ++ [u]) (ms ++ [m]):=Paired.snoc h hu
def zcV (H H':Hp) (l:Addr) (ms:List (Str × Nat)):Prop:=∃ us:List Addr,H l = none/\H' l = some (.lst (us.map V.ref))/\xV H' us ms
def wK (rows:List Rw) (many:Nat):List (Str × Nat):=if (zy 2 0 rows).isSome = true then [] else (List.range (many - plN rows)).map fun i=>((("over" : Str),plN rows + i):Str × Nat)
def zcg (c:C5) (CF:Addr):Sp:=fun vs H Q _=>∃ (f:Addr) (many:Nat) (rows:List Rw) (bars:List Str),vs = [.ref f,.int (many:Nat)]/\many<=900/\rows.length<=500/\xp c CF H f rows bars/\∀ (l:Addr) (H':Hp),zm H H'->zcV H H' l (wK rows many)->Q (.ref l) H'
def qJ (r:Rw) (i many:Nat) (fk:List (Key × V)):List V:=
 if y0 r.k = true/\i < many then [.str "place",.int (i:Nat)] else if yl r.k = true/\(zJ fk (.inr r.z)).isSome = true then [.str "name",(zJ fk (.inr r.z)).getD .non] else [.str "free"]
def zb5 (fk:List (Key × V)):Prop:=∀ k v,zJ fk k = some v->yZ v = true
def zdX (c:C5):Sp:=fun vs H Q _=>∃ (p d:Addr) (i many:Nat) (r:Rw) (fk:List (Key × V)),vs = [.ref p,.int (i:Nat),.int (many:Nat),.ref d]/\PAt c H p r/\r.ok/\Rd H d (.dK fk)/\∀ (u:Addr) (H':Hp),zm H H'->H' u = some (.tup (qJ r i many fk))->Q (.ref u) H'
def yV (r:Rw) (i many:Nat) (fk:List (Key × V)):Bool:=!fr r.k r.b && L2.eqT (qJ r i many fk) [.str "free"]
def xh (many:Nat) (fk:List (Key × V)):Nat->List Rw->List (Str × Nat)
 | _,[]=>[]
 | i,r :: rs=>(if yV r i many fk = true then [(("lacking" : Str),i)] else []) ++ xh many fk (i + 1) rs
theorem vn {many:Nat} {fk:List (Key × V)} {r:Rw}:∀ (rows:List Rw) (j i:Nat),rows[i]? = some r->xh many fk j (rows.take (i + 1)) = xh many fk j (rows.take i) ++ (if yV r (j + i) many fk = true then [(("lacking" : Str),j + i)] else [])
 | [],_,_,h=>by simp at h
 | y :: ys,j,0,h=>by
  have e:y = r:=by simpa using h
  subst e
  show (_ ++ []) = [] ++ _
  rw [List.append_nil,List.nil_append]
  rfl
 | y :: ys,j,i + 1,h=>by
  have:=vn (many:=many) (fk:=fk) ys (j + 1) i (by simpa using h)
  show _ ++ xh many fk (j + 1) (ys.take (i + 1)) = _
  rw [this,show j + 1 + i = j + (i + 1) by omega,<- List.append_assoc]
  rfl
theorem v0 (many:Nat) (fk:List (Key × V)):∀ (rows:List Rw) (i:Nat),(xh many fk i rows).length<=rows.length
 | [],_=>Nat.le_refl _
 | r :: rs,i=>by
  have:=v0 many fk rs (i + 1)
  show (_ ++ xh many fk (i + 1) rs).length<=rs.length + 1
  rw [List.length_append]
  split
  ·rw [List.length_singleton]; omega
  ·rw [List.length_nil]; omega
theorem zde {r:Rw} {i many:Nat} {fk:List (Key × V)} (h:zb5 fk):(qJ r i many fk).all yZ = true:=by
 unfold qJ
 split
 ·rfl
 ·split
  next h2=>
   obtain ⟨v,hv⟩:=Option.isSome_iff_exists.mp h2.2
   rw [hv]
   show (true && (yZ v && true)) = true
   rw [h _ _ hv]
   rfl
  ·rfl
def zcj (c:C5) (CF:Addr):Sp:=fun vs H Q _=>∃ (f d:Addr) (many:Nat) (rows:List Rw) (bars:List Str) (fk:List (Key × V)),vs = [.ref f,.int (many:Nat),.ref d]/\rows.length<=500/\(∀ r ∈ rows,r.ok)/\xp c CF H f rows bars/\Rd H d (.dK fk)/\zb5 fk/\∀ (l:Addr) (H':Hp),zm H H'->zcV H H' l (xh many fk 0 rows)->Q (.ref l) H'
theorem zm.rd {H H':Hp} {a:Addr} {u:HO} (s:zm H H') (h:Rd H a u):Rd H' a u:=h.elim (fun e=>.inl (s _ _ e)) fun ⟨o,e⟩=>.inr ⟨o,s _ _ e⟩
section
variable {P:Program} {w:World} {K:Frag} {mg:Str->Option Value} {base:Heap} {f CF:Addr} {fd:FuncData} {c:C5} {m:MA}
theorem ziW:([Str.ofString "number"]:List Str).Nodup:=by decide +kernel
theorem zfN:zt ["form","many"] ["form","many"] (zh zbp):=⟨rfl,rfl,rfl,by decide +kernel,rfl,by decide +kernel,by decide +kernel⟩
theorem zeH {gT gP:Addr} {eT eP:FuncData} (F:Fun K "overs" "overs" zbp f fd) (hran:mg "range" = none) (FK:FC K CF) (mT:y1 K CF "tail" gT) (GT:zA P w K mg base CX0 1 gT eT ["self"] (vj c CF 2)) (bT:zV K eT ["self"] []) (mP:y1 K CF "places" gP) (GP:zA P w K mg base CX0 1 gP eP ["self"] (wg c CF)) (bP:zV K eP ["self"] []) :
  zA P w K mg base CX0 2 f fd ["form","many"] (zcg c CF):=by
 refine F.ok zfN (fun vs H Q E h=>?_) (fun cdv A outer s H vs Q E hr h=>?_)
 ·obtain ⟨f,many,rows,bars,rfl,_⟩:=h
  rfl
 obtain ⟨f,many,rows,bars,rfl,lm,l5,hF,q⟩:=h
 refine ⟨_,zj (zD (x8 (zcB (yC (pv 0) FK.cl mT GT hr bT .nil yh))) (zd (zp (zT zb))) zu)
  (zd (zp (xz [] ["number"] [none] rfl ⟨rfl,rfl,rfl,rfl⟩ (zda rfl hran (ac (yC (pv 0) FK.cl mP GP hr bP .nil yh) (ac (pv 1) zb))) (zM 0) rfl rfl rfl
   (fun pins fp s H C=>⟨zk (i:=0) ziW rfl (Or.inl rfl) (.inr rfl),yB,zE (ac zn (ac (pv 0) zb))⟩)))),?_⟩
 obtain ⟨dx,fs,lr,lb,ld,ps,h1,h2,h3,h4,h5,h6⟩:=id hF
 have nmT:fs.lookup ("tail" : Str) = none:=h2.no _ (by decide +kernel)
 have nmP:fs.lookup ("places" : Str) = none:=h2.no _ (by decide +kernel)
 refine ⟨_,rfl,f,dx,fs,rfl,h1,nmT,f,rows,bars,rfl,hF,?_⟩
 refine ⟨_,rfl,?_⟩
 cases e:zy 2 0 rows with
 | some i=>
  have ef:wK rows many = []:=by unfold wK; rw [e]; rfl
  have ne:(!decide (xD (some i) = V.non)) = true:=rfl
  rw [if_pos ne]
  refine ⟨zz0,fun l hl=>?_⟩
  exact q l _ (zc hl _) ⟨[],hl,za,by rw [ef]; exact .nil⟩
 | none=>
  have ef:wK rows many = (List.range (many - plN rows)).map fun i=>((("over" : Str),plN rows + i):Str × Nat):=by unfold wK; rw [e]; rfl
  refine ym ?_
  have lp:plN rows<=500:=Nat.le_trans (List.length_filter_le _ _) l5
  refine ⟨_,rfl,f,dx,fs,rfl,h1,nmP,f,rows,bars,rfl,hF,_,rfl,(plN rows:Nat),(many:Nat),rfl,⟨by omega,by omega,by omega,by omega⟩,fun D hD=>?_⟩
  have en:((many:Int) - (plN rows:Int)).toNat = many - plN rows:=by omega
  refine wn (n:=((many:Int) - (plN rows:Int)).toNat) (fun i ys H'=>∃ us,ys = us.map V.ref/\zm H H'/\H' D = some (.lst ys)/\xV H' us ((List.range i).map fun i=>((("over" : Str),plN rows + i):Str × Nat))) ⟨[],rfl,zc hD _,za,.nil⟩ ?_ ?_
  ·rintro i ys H' hi ⟨us,rfl,sH,hDy,hm⟩
   have lu:us.length = i:=by rw [hm.length,List.length_map,List.length_range]
   refine ⟨fun _=>?_,fun e=>Bool.noConfusion e⟩
   refine ⟨_,rfl,zz2,fun t ht=>?_⟩
   have s2:=zc ht (.tup [.str "over",.int ((plN rows:Int) + (i:Int))])
   have hDy2:=s2 _ _ hDy
   refine lcN.mk hi (zY (by omega)) hDy2 (by rw [List.length_map,lu]; exact Nat.le_refl _) ⟨us ++ [t],by rw [List.map_append]; rfl,fun b' u' e'=>?_,za,?_⟩
   ·rw [zg (zf e' hD)]
    exact s2 _ _ (sH _ _ e')
   ·rw [List.range_succ,List.map_append]
    have hu:MA1 (upd H' t (.tup [.str "over",.int ((plN rows:Int) + (i:Int))])) t ("over",plN rows + i):=by
     show upd H' t _ t = _
     rw [za]
     rfl
    exact ((hm.same s2).snoc hu).upd hDy2
  ·rintro ys H' ⟨us,rfl,sH,hDy,hm⟩
   rw [en,<- ef] at hm
   exact q D H' sH ⟨us,hD,hDy,hm⟩
theorem zhv:zt ["parameter","number","many","firsts"] ["parameter","number","many","firsts"] (zh zeg):=⟨rfl,rfl,rfl,by decide +kernel,rfl,by decide +kernel,by decide +kernel⟩
theorem zgb {gp gb:FuncData} (F:Fun K "one_entry" "one_entry" zeg f fd) (PP:Pcs K m c) (GP:zA P w K mg base CX0 1 m.fP gp ["self"] (uM K m bpL)) (bP:zV K gp ["self"] []) (GB:zA P w K mg base CX0 1 m.fB gb ["self"] (uM K m bnL)) (bB:zV K gb ["self"] []) :
  zA P w K mg base CX0 2 f fd ["parameter","number","many","firsts"] (zdX c):=by
 refine F.ok zhv (fun vs H Q E h=>?_) (fun cdv A outer s H vs Q E hr h=>?_)
 ·obtain ⟨p,d,i,many,r,fk,rfl,_⟩:=h
  rfl
 obtain ⟨p,d,i,many,r,fk,rfl,⟨dx,hp⟩,rok,hd,q⟩:=h
 have hu1:=jU hr
 have C:=PP r.k rok.1
 refine ⟨_,zj (zD (PW.pt (yb (yz (yC (pv 0) C.cl C.mP GP hr bP .nil yh)) (z4 (zi xZ (pv 1) (pv 2) (zr _))))) (zd (zp (zE (ac zn (ac (pv 1) zb))))) zu)
  (zj (zD (PW.pt (yb (yz (yC (pv 0) C.cl C.mB GB hr bB .nil yh)) (z4 (x8 (zbG hu1 (yE (pv 0) rfl) (pv 3)))))) (zd (zp (zE (ac zn (ac (wW hu1 (pv 3) (yE (pv 0) rfl) (fun _ _=>rfl)) zb))))) zu)
  (zd (zp (zE (ac zn zb))))),?_⟩
 have nP:(pr r).lookup ("by_place" : Str) = none:=vC (by decide +kernel) (by decide +kernel) (by decide +kernel)
 have nB:(pr r).lookup ("by_name" : Str) = none:=vC (by decide +kernel) (by decide +kernel) (by decide +kernel)
 try dsimp only
 refine y6 (fun σ' H'=>σ' = [some (.ref p),some (.int (i:Nat)),some (.int (many:Nat)),some (.ref d)]/\H' = H/\¬ (y0 r.k = true/\i < many)) ?_ (fun key=>?_)
 rotate_left
 ·refine ⟨_,rfl,p,dx,_,rfl,hp,nP,p,dx,_,_,_,_,rfl,C,hp,_,rfl,?_⟩
  rw [zg9 r.k rok.1]
  cases eb:y0 r.k with
  | false=>
   refine ym ?_
   refine ym ?_
   exact key _ _ ⟨rfl,rfl,by rw [eb]; exact fun z=>Bool.noConfusion z.1⟩
  | true=>
   refine yT ?_
   refine ⟨_,rfl,_,rfl,_,_,rfl,rfl,_,rfl,?_⟩
   refine vI (fun c1=>?_) (fun c1=>?_)
   ·have hlt:i < many:=by
     have:=of_decide_eq_true c1
     omega
    refine ⟨_,rfl,zz2,fun t ht=>?_⟩
    exact q t _ (zc ht _) (by rw [za]; unfold qJ; rw [if_pos ⟨eb,hlt⟩])
   ·have hlt:¬ i < many:=fun h=>c1 (decide_eq_true (by show (i:Int) < (many:Int); omega))
    exact key _ _ ⟨rfl,rfl,fun z=>hlt z.2⟩
 rintro σ1 H1 ⟨rfl,rfl,nn⟩
 have e1:qJ r i many fk = (if yl r.k = true/\(zJ fk (.inr r.z)).isSome = true then [.str "name",(zJ fk (.inr r.z)).getD .non] else [.str "free"]):=by unfold qJ; rw [if_neg nn]
 try dsimp only
 refine y6 (fun σ' H'=>σ' = [some (.ref p),some (.int (i:Nat)),some (.int (many:Nat)),some (.ref d)]/\H' = H1/\¬ (yl r.k = true/\(zJ fk (.inr r.z)).isSome = true)) ?_ (fun key=>?_)
 rotate_left
 ·refine ⟨_,rfl,p,dx,_,rfl,hp,nB,p,dx,_,_,_,_,rfl,C,hp,_,rfl,?_⟩
  rw [jT r.k rok.1]
  cases eb:yl r.k with
  | false=>
   refine ym ?_
   refine ym ?_
   exact key _ _ ⟨rfl,rfl,by rw [eb]; exact fun z=>Bool.noConfusion z.1⟩
  | true=>
   refine yT ?_
   refine ⟨_,rfl,p,_,dx,_,_,rfl,hp,C.cl,C.nN,wx,_,rfl,d,_,rfl,.inl ⟨fk,.inr r.z,hd,rfl,rfl⟩,_,rfl,?_⟩
   refine vI (fun c1=>?_) (fun c1=>?_)
   ·obtain ⟨v,hv⟩:=Option.isSome_iff_exists.mp c1
    refine ⟨_,rfl,_,rfl,p,_,dx,_,_,rfl,hp,C.cl,C.nN,wx,d,v,rfl,.inl ⟨fk,.inr r.z,hd,rfl,hv.symm⟩,zz2,fun t ht=>?_⟩
    exact q t _ (zc ht _) (by rw [za,e1,if_pos ⟨eb,c1⟩,hv]; rfl)
   ·exact key _ _ ⟨rfl,rfl,fun z=>c1 z.2⟩
 rintro σ2 H2 ⟨rfl,rfl,nn2⟩
 refine ⟨zz1,fun t ht=>?_⟩
 exact q t _ (zc ht _) (by rw [za,e1,if_neg nn2])
theorem uC:zt ["form","many","firsts","found","number","parameter"] ["form","many","firsts"] (zh zek):=⟨rfl,rfl,rfl,by decide +kernel,rfl,by decide +kernel,by decide +kernel⟩
theorem zeO {g gP:Addr} {gd gf eP:FuncData} (F:Fun K "lackings" "lackings" zek f fd) (hen:mg "enumerate" = none) (PP:Pcs K m c) (FK:FC K CF) (mP:y1 K CF "parameters" gP) (GP:zA P w K mg base CX0 1 gP eP ["self"] (vR c CF)) (bP:zV K eP ["self"] [])
  (GF:zA P w K mg base CX0 1 m.fF gf ["self"] (ql K m)) (bF:zV K gf ["self"] []) (cE1:zC P w K mg base 2 "one_entry" g gd ["parameter","number","many","firsts"] (zdX c)):zA P w K mg base CX0 3 f fd ["form","many","firsts"] (zcj c CF):=by
 refine F.ok uC (fun vs H Q E h=>?_) (fun cdv A outer s H vs Q E hr h=>?_)
 ·obtain ⟨f,d,many,rows,bars,fk,rfl,_⟩:=h
  rfl
 obtain ⟨f,d,many,rows,bars,fk,rfl,l5,hok,hF,hd,hfl,q⟩:=h
 have hr1:yq 1 _:=hr.mono (by decide)
 have hU:=hr.units
 have hO:∀ C,Cs5 c C->Cls K C/\y1 K C "free" m.fF:=fun C ⟨k,hk,e⟩=>by rw [e]; exact ⟨(PP k hk).cl,(PP k hk).mF⟩
 refine ⟨_,zj (zw (i:=3) uC.nd rfl (Or.inl rfl) (zT zb))
  (zj (yn PassesOwn.never rfl (wV rfl hen (ac (yC (pv 0) FK.cl mP GP hr1 bP .nil yh) zb)) (yH rfl (zz (zk (i:=4) uC.nd rfl (Or.inl rfl)) (zz (zk (i:=5) uC.nd rfl (Or.inl rfl)) yo)))
   (zd (zD (PW.pt (yb (xy (yz (xK (pv 5) hO GF hr1 bF yh))) (z4 (zi (zaC hU) (cF cE1 hr (ac (pv 5) (ac (pv 4) (ac (pv 1) (ac (pv 2) zb))))) (zE (ac zn zb)) (zr _)))))
    (zd (zI (yD PySem.F.plainAttrs_list PySem.F.slot_list_append PySem.F.type_list_append zL (pv 3) (ac (zE (ac zn (ac (pv 4) zb))) zb)))) zu)))
  (zd (zp (pv 3)))),?_⟩
 refine ⟨zz0,fun l hl=>?_⟩
 have s1:=zc hl (.lst [])
 have e1:upd H l (.lst []) l = some (.lst []):=za
 show vQ _ _ _ _ (upd H l (.lst []))
 generalize upd H l (.lst []) = H1 at s1 e1 |-
 obtain ⟨dx,fs,lr,lb,ld,ps0,h1,h2,h3,h4,h5,h6⟩:=id hF
 have nmP:fs.lookup ("parameters" : Str) = none:=h2.no _ (by decide +kernel)
 refine ⟨_,rfl,f,dx,fs,rfl,s1 _ _ h1,nmP,f,rows,bars,rfl,hF.same s1,fun lp ps H2 s2 np ep hps=>?_⟩
 have e2:=s2 _ _ e1
 have nlp:lp ≠ l:=Ne.symm (zf e1 np)
 have nd:∀ {b:Addr} {u:HO},H b = some u->b ≠ l:=fun e=>zf e hl
 have s12:=s1.trans s2
 have sHl:∀ {H':Hp},(∀ b u,H2 b = some u->b ≠ l->H' b = some u)->zm H H':=fun k b u e=>k b u (s12 _ _ e) (nd e)
 refine ⟨lp,rfl,⟨_,SqL.of ep⟩,vK (K:=K) (a:=lp) (xs:=ps.map V.ref) (fun i σ H'=>∃ (us:List Addr) (v4 v5:Option V),σ = [some (.ref f),some (.int (many:Nat)),some (.ref d),some (.ref l),v4,v5]/\(∀ b u,H2 b = some u->b ≠ l->H' b = some u)/\H' l = some (.lst (us.map V.ref))/\xV H' us (xh many fk 0 (rows.take i)))
  ⟨[],_,_,rfl,fun _ _ e _=>e,e2,.nil⟩ (fun i σ H' _ ⟨_,_,_,_,sH,_⟩=>SqL.of (sH _ _ ep nlp)) ?_ ?_⟩
 ·rintro i x p σ H' hx ⟨us,v4,v5,rfl,sH,hl',hm⟩ hpn
  obtain ⟨pa,hpa,rfl⟩:=xC hx
  obtain ⟨r,hr',dx',hdx⟩:=yw hps hpa
  have rok:=hok r (List.mem_of_getElem? hr')
  have C:=PP r.k rok.1
  have hi:i < rows.length:=(List.getElem?_eq_some_iff.mp hr').1
  have npa:pa ≠ l:=xA hdx e2 (by intro z; cases z)
  have tk:=vn (many:=many) (fk:=fk) rows 0 i hr'
  rw [Nat.zero_add] at tk
  have sp:=zc hpn (.tup [.int (i:Nat),.ref pa])
  have lu:us.length<=i:=by
   rw [hm.length]
   refine Nat.le_trans (v0 _ _ _ _) ?_
   rw [List.length_take]
   omega
  have sH1:∀ b u,H2 b = some u->b ≠ l->upd H' p (.tup [.int (i:Nat),.ref pa]) b = some u:=fun b u e n=>sp _ _ (sH b u e n)
  have hl1:=sp _ _ hl'
  have hm1:=hm.same sp
  refine ⟨p,_,rfl,SqT.of za,rfl,_,_,rfl,_,_,rfl,rfl,?_⟩
  generalize upd H' p (.tup [.int (i:Nat),.ref pa]) = H3 at sH1 hl1 hm1 |-
  have hd3:=sH1 _ _ hdx npa
  refine ⟨_,rfl,pa,_,dx',_,rfl,⟨r.k,rok.1,rfl⟩,hd3,vC (by decide +kernel) (by decide +kernel) (by decide +kernel),pa,dx',_,_,_,_,rfl,C,hd3,_,rfl,?_⟩
  cases ef:fr r.k r.b with
  | true=>
   have il:yV r i many fk = false:=by unfold yV; rw [ef]; rfl
   rw [il,if_neg Bool.false_ne_true,List.append_nil] at tk
   refine ym ?_
   refine ym ?_
   exact ⟨us,_,_,rfl,sH1,hl1,by rw [tk]; exact hm1⟩
  | false=>
   refine yT ?_
   refine ⟨_,rfl,_,rfl,_,rfl,_,rfl,pa,d,i,many,r,fk,rfl,⟨dx',hd3⟩,rok,zm.rd (sHl sH1) hd,fun u H4 s4 e4=>?_⟩
   refine ⟨zz1,fun t ht=>?_⟩
   have s5:=zc ht (.tup [.str "free"])
   refine ⟨u,t,_,_,rfl,rfl,SqT.of (s5 _ _ e4),SqT.of za,zde hfl,rfl,_,rfl,?_⟩
   have s45:=s4.trans s5
   have il:yV r i many fk = L2.eqT (qJ r i many fk) [.str "free"]:=by unfold yV; rw [ef]; rfl
   rw [<- il]
   generalize upd H4 t (.tup [.str "free"]) = H5 at s5 s45 |-
   have hl5:=s45 _ _ hl1
   have sH5:∀ b u,H2 b = some u->b ≠ l->H5 b = some u:=fun b u e n=>s45 _ _ (sH1 b u e n)
   refine vI (fun c1=>?_) (fun c1=>?_)
   ·rw [c1,if_pos rfl] at tk
    refine ⟨_,rfl,.inl ⟨rfl,_,SqL.of hl5⟩,_,rfl,zz2,fun t2 ht2=>?_⟩
    have s6:=zc ht2 (.tup [.str "lacking",.int (i:Nat)])
    have hl6:=s6 _ _ hl5
    have hu2:MA1 (upd H5 t2 (.tup [.str "lacking",.int (i:Nat)])) t2 ("lacking",i):=by
     show upd H5 t2 _ t2 = _
     rw [za]
    refine ⟨l,_,.ref t2,rfl,rfl,hl6,zG (by rw [List.length_map]; omega),?_⟩
    refine ⟨us ++ [t2],_,_,rfl,fun b u e n=>?_,by rw [za,List.map_append]; rfl,?_⟩
    ·rw [zg n]
     exact s6 _ _ (sH5 b u e n)
    ·rw [tk]
     exact (((hm1.same s45).same s6).snoc hu2).upd hl6
   ·have c2:yV r i many fk = false:=by
     cases e:yV r i many fk with
     | false=>rfl
     | true=>exact absurd e c1
    rw [c2,if_neg Bool.false_ne_true,List.append_nil] at tk
    exact ⟨us,_,_,rfl,sH5,hl5,by rw [tk]; exact hm1.same s45⟩
 ·rintro σ H' ⟨us,v4,v5,rfl,sH,hl',hm⟩
  rw [List.length_map,hps.length,List.take_length] at hm
  exact ⟨_,rfl,q l H' (sHl sH) ⟨us,hl,hl',hm⟩⟩
end
def fpF:Nat->List (Str × Nat)->List Str->List (Str × Nat)
 | _,acc,[]=>acc
 | i,acc,z :: zs=>fpF (i + 1) (if (acc.any fun p=>decide (p.1 = z)) = true then acc else acc ++ [(z,i)]) zs
def kvP (fp:List (Str × Nat)):List (Key × V):=fp.map fun p=>(.inr p.1,.int (p.2:Nat))
theorem xG (fp:List (Str × Nat)) (z:Str):(zJ (kvP fp) (.inr z)).isSome = fp.any fun p=>decide (p.1 = z):=by
 rw [<- wc]
 unfold kvP
 rw [List.any_map]
 congr 1
 funext p
 show decide ((Sum.inr p.1:Key) = Sum.inr z) = decide (p.1 = z)
 exact ze9 _ _
theorem zbU:∀ (zs:List Str) (i:Nat) (acc:List (Str × Nat)),vc i (kvP acc) zs = kvP (fpF i acc zs)
 | [],_,_=>rfl
 | z :: zs,i,acc=>by
  show vc (i + 1) (if (zJ (kvP acc) (.inr z)).isSome = true then kvP acc else yP (kvP acc) (.inr z) (.int i)) zs = kvP (fpF (i + 1) (if (acc.any fun p=>decide (p.1 = z)) = true then acc else acc ++ [(z,i)]) zs)
  rw [xG]
  cases e:acc.any fun p=>decide (p.1 = z) with
  | true=>exact zbU zs (i + 1) acc
  | false=>
   have e2:yP (kvP acc) (.inr z) (.int (i:Nat)) = kvP (acc ++ [(z,i)]):=by
    unfold yP
    rw [wc,xG,e,if_neg Bool.false_ne_true]
    unfold kvP
    rw [List.map_append]
    rfl
   rw [if_neg Bool.false_ne_true,if_neg Bool.false_ne_true,e2]
   exact zbU zs (i + 1) _
theorem uD {fp:List (Str × Nat)} {k:Key} {v:V} (h:zJ (kvP fp) k = some v):∃ (z:Str) (j:Nat),k = .inr z/\v = .int (j:Nat)/\(z,j) ∈ fp:=by
 unfold zJ at h
 cases e:(kvP fp).find? fun kv=>decide (kv.1 = k) with
 | none=>rw [e] at h; cases h
 | some kv=>
  rw [e] at h
  have hm:=List.mem_of_find?_eq_some e
  have hk:=List.find?_some e
  unfold kvP at hm
  obtain ⟨p,hp,rfl⟩:=List.mem_map.mp hm
  exact ⟨p.1,p.2,(of_decide_eq_true hk).symm,(Option.some.inj h).symm,hp⟩
theorem zgE (fp:List (Str × Nat)):zb5 (kvP fp):=fun k v h=>by
 obtain ⟨z,j,_,rfl,_⟩:=uD h
 rfl
theorem zcL {z:Str}:∀ (zs:List Str) (i:Nat) (acc:List (Str × Nat)),(acc.any fun p=>decide (p.1 = z)) = true->((fpF i acc zs).any fun p=>decide (p.1 = z)) = true
 | [],_,_,h=>h
 | y :: ys,i,acc,h=>by
  show ((fpF (i + 1) _ ys).any _) = true
  refine zcL ys (i + 1) _ ?_
  split
  ·exact h
  ·rw [List.any_append,h]; rfl
theorem zbV {z:Str}:∀ (zs:List Str) (i:Nat) (acc:List (Str × Nat)),z ∈ zs->((fpF i acc zs).any fun p=>decide (p.1 = z)) = true
 | [],_,_,h=>by cases h
 | y :: ys,i,acc,h=>by
  show ((fpF (i + 1) _ ys).any _) = true
  rcases List.mem_cons.mp h with rfl | h
  ·refine zcL ys (i + 1) _ ?_
   split
   next e=>exact e
   ·rw [List.any_append]
    simp
  ·exact zbV ys (i + 1) _ h
def fpZ (zs:List Str):List (Str × Nat):=fpF 0 [] zs
theorem zi8 (zs:List Str):vc 0 [] zs = kvP (fpZ zs):=zbU zs 0 []
def xS (fk:List (Key × V)):Nat->List Str->List (Str × Nat)
 | _,[]=>[]
 | i,z :: zs=>(if zJ fk (.inr z) = some (.int (i:Nat)) then [] else [(("doubled" : Str),i)]) ++ xS fk (i + 1) zs
theorem j0 {fk:List (Key × V)} {z:Str}:∀ (zs:List Str) (j i:Nat),zs[i]? = some z->xS fk j (zs.take (i + 1)) = xS fk j (zs.take i) ++ (if zJ fk (.inr z) = some (.int (j + i:Nat)) then [] else [(("doubled" : Str),j + i)])
 | [],_,_,h=>by simp at h
 | y :: ys,j,0,h=>by
  have e:y = z:=by simpa using h
  subst e
  show (_ ++ []) = [] ++ _
  rw [List.append_nil,List.nil_append]
  rfl
 | y :: ys,j,i + 1,h=>by
  have:=j0 (fk:=fk) ys (j + 1) i (by simpa using h)
  show _ ++ xS fk (j + 1) (ys.take (i + 1)) = _
  rw [this,show j + 1 + i = j + (i + 1) by omega,<- List.append_assoc]
  rfl
theorem ju (fk:List (Key × V)):∀ (zs:List Str) (i:Nat),(xS fk i zs).length<=zs.length
 | [],_=>Nat.le_refl _
 | r :: rs,i=>by
  have:=ju fk rs (i + 1)
  show (_ ++ xS fk (i + 1) rs).length<=rs.length + 1
  rw [List.length_append]
  split
  ·rw [List.length_nil]; omega
  ·rw [List.length_singleton]; omega
def z3 (rows:List Rw) (bars:List Str) (many:Nat) (z:Str):Option Str:=
 if z ∈ bars then some "barred" else match lastD' z rows with
  | none=>if (zy 4 0 rows).isSome = true then none else some "strange"
  | some l=>if l < plN rows/\l < many then some "again" else none
where lastD' (z:Str) (rows:List Rw):Option Nat:=match zJ (yk 0 [] rows) (.inr z) with
 | some (.int i)=>some i.toNat
 | _=>none
def w9 (rows:List Rw) (bars:List Str) (many:Nat) (fp:List (Str × Nat)):List (Str × Nat):=fp.filterMap fun p=>(z3 rows bars many p.1).map fun wd=>(wd,p.2)
def z7 (rows:List Rw) (bars:List Str) (many:Nat) (zs:List Str):List (Str × Nat):=xS (kvP (fpZ zs)) 0 zs ++ wK rows many ++ w9 rows bars many (fpZ zs) ++ xh many (kvP (fpZ zs)) 0 rows
def zgW (c:C5) (CF:Addr):Sp:=fun vs H Q _=>∃ (f d:Addr) (o:Obj) (many:Nat) (rows:List Rw) (bars:List Str) (fp:List (Str × Nat)),vs = [.ref f,.int (many:Nat),.ref d]/\rows.length<=500/\bars.length<=500/\fp.length<=900/\xp c CF H f rows bars/\H d = some (.frz o (.dK (kvP fp)))/\∀ (l:Addr) (H':Hp),zm H H'->zcV H H' l (w9 rows bars many fp)->Q (.ref l) H'
def zg1 (c:C5) (CF:Addr):Sp:=fun vs H Q _=>∃ (f a:Addr) (many:Nat) (rows:List Rw) (bars zs:List Str),vs = [.ref f,.int (many:Nat),.ref a]/\rows.length<=500/\bars.length<=500/\many<=900/\zs.length<=900/\(∀ r ∈ rows,r.ok)/\xp c CF H f rows bars/\H a = some (.lst (zs.map V.str))/\∀ (l:Addr) (H':Hp),zm H H'->zcV H H' l (z7 rows bars many zs)->Q (.ref l) H'
theorem qQ:∀ (zs:List Str) (i:Nat) (acc:List (Str × Nat)),(fpF i acc zs).length<=acc.length + zs.length
 | [],_,_=>Nat.le_refl _
 | z :: zs,i,acc=>by
  have h:=qQ zs (i + 1) (if (acc.any fun p=>decide (p.1 = z)) = true then acc else acc ++ [(z,i)])
  have h2:(if (acc.any fun p=>decide (p.1 = z)) = true then acc else acc ++ [(z,i)]).length<=acc.length + 1:=by
   split
   ·omega
   ·rw [List.length_append]; exact Nat.le_refl _
  show (fpF (i + 1) _ zs).length<=acc.length + (zs.length + 1)
  omega
theorem xV.app {H:Hp} {us vs:List Addr} {ms ns:List (Str × Nat)} (h:xV H us ms) (h':xV H vs ns):xV H (us ++ vs) (ms ++ ns):=yI h h'
section
variable {P:Program} {w:World} {K:Frag} {mg:Str->Option Value} {base:Heap} {f CF:Addr} {fd:FuncData} {c:C5} {m:MA}
theorem ziZ:([Str.ofString "number",Str.ofString "name",Str.ofString "firsts"]:List Str).Nodup:=by decide +kernel
theorem zea:zt ["form","many","names","firsts","doubled"] ["form","many","names"] (zh zhL):=⟨rfl,rfl,rfl,by decide +kernel,rfl,by decide +kernel,by decide +kernel⟩
theorem zh3 {g1 g2 g3 g4:Addr} {d1 d2 d3 d4:FuncData} (F:Fun K "misfits_of" "misfits_of" zhL f fd) (hen:mg "enumerate" = none) (c1:zC P w K mg base 1 "first_numbers" g1 d1 ["names"] zal) (c2:zC P w K mg base 2 "overs" g2 d2 ["form","many"] (zcg c CF)) (c3:zC P w K mg base 2 "unwelcomes" g3 d3 ["form","many","firsts"] (zgW c CF)) (c4:zC P w K mg base 3 "lackings" g4 d4 ["form","many","firsts"] (zcj c CF)) :
  zA P w K mg base CX0 4 f fd ["form","many","names"] (zg1 c CF):=by
 refine F.ok zea (fun vs H Q E h=>?_) (fun cdv A outer s H vs Q E hr h=>?_)
 ·obtain ⟨f,a,many,rows,bars,zs,rfl,_⟩:=h
  rfl
 obtain ⟨f,a,many,rows,bars,zs,rfl,l5,lb5,lm,lz,hok,hF,ha,q⟩:=h
 have hr1:yq 1 _:=hr.mono (by decide)
 have hr2:yq 2 _:=hr.mono (by decide)
 have hu1:=jU hr
 refine ⟨_,zj (zw (i:=3) zea.nd rfl (Or.inr rfl) (cF c1 hr1 (ac (pv 2) zb)))
  (zj (vg (i:=4) ["firsts"] ["number","name","firsts"] [none,none,some 3] zea.nd rfl (Or.inl rfl) rfl ⟨rfl,rfl,rfl,rfl⟩ (wV rfl hen (ac (pv 2) zb)) (w4 (K:=K) (n:=2) 0 1) rfl rfl rfl
   (fun pins fp s H C=>⟨yH rfl (zz (zk (i:=0) ziZ rfl (Or.inl rfl) (.inr rfl)) (zz (zk (i:=1) ziZ rfl (Or.inl rfl) (.inr rfl)) yo)),xr (zi zey (wW hu1 (pv 2) (pv 1) (fun _ _=>rfl)) (pv 0) (zr _)),zE (ac zn (ac (pv 0) zb))⟩))
  (zd (zp (zq yG (zq yG (zq yG (pv 4) (cF c2 hr2 (ac (pv 0) (ac (pv 1) zb)))) (cF c3 hr2 (ac (pv 0) (ac (pv 1) (ac (pv 3) zb))))) (cF c4 hr (ac (pv 0) (ac (pv 1) (ac (pv 3) zb)))))))),?_⟩
 refine ⟨_,rfl,a,zs,rfl,ha,lz,fun d o H1 s1 hd0 hd1=>?_⟩
 rw [zi8] at hd1
 have lfp:(fpZ zs).length<=900:=by
  have:=qQ zs 0 []
  show (fpF 0 [] zs).length<=900
  simp at this
  omega
 generalize hfp:fpZ zs = fp at hd1 lfp
 refine ⟨_,rfl,a,rfl,⟨_,SqL.of (s1 _ _ ha)⟩,fun D hD=>?_⟩
 refine zgv (K:=K) (xs:=zs.map V.str) (fun i ys H'=>∃ us,ys = us.map V.ref/\zm H1 H'/\H' D = some (.lst ys)/\xV H' us (xS (kvP fp) 0 (zs.take i))) ⟨[],rfl,zc hD _,za,.nil⟩ (fun i ys H' ⟨_,_,h,_⟩=>SqL.of (h _ _ (s1 _ _ ha))) ?_ ?_
 ·rintro i x p ys H' hlt hx ⟨us,rfl,sH,hDy,hm⟩ hpn
  obtain ⟨z,hz,rfl⟩:=strs_at hx
  have hi:i < zs.length:=(List.getElem?_eq_some_iff.mp hz).1
  have tk:=j0 (fk:=kvP fp) zs 0 i hz
  rw [Nat.zero_add] at tk
  have sp:=zc hpn (.tup [.int (i:Nat),.str z])
  have lu:us.length<=i:=by
   rw [hm.length]
   refine Nat.le_trans (ju _ _ _) ?_
   rw [List.length_take]
   omega
  have hsome:(zJ (kvP fp) (.inr z)).isSome = true:=by
   rw [xG,<- hfp]
   exact zbV zs 0 [] (List.mem_of_getElem? hz)
  obtain ⟨v,hv⟩:=Option.isSome_iff_exists.mp hsome
  obtain ⟨_,j,_,rfl,_⟩:=uD hv
  have hd2:=sp _ _ (sH _ _ hd1)
  have hDy2:=sp _ _ hDy
  have hm2:=hm.same sp
  refine ⟨p,_,rfl,SqT.of za,rfl,_,_,rfl,_,_,rfl,rfl,?_⟩
  have sA:=sH.trans sp
  generalize upd H' p (.tup [.int (i:Nat),.str z]) = H3 at sp hd2 hDy2 hm2 sA |-
  refine ⟨_,rfl,_,rfl,d,_,rfl,.inl ⟨_,.inr z,.inr ⟨o,hd2⟩,rfl,hv.symm⟩,_,rfl,rfl,_,rfl,?_⟩
  by_cases ej:j = i
  ·subst ej
   rw [if_pos hv,List.append_nil] at tk
   have ed:(!decide (V.int (j:Nat) = V.int (j:Nat))) = false:=by rw [decide_eq_true rfl]; rfl
   rw [ed]
   exact ⟨fun e=>Bool.noConfusion e,fun _=>lcS.mk hlt ⟨us,rfl,sA,hDy2,by rw [tk]; exact hm2⟩⟩
  ·have nv:¬ zJ (kvP fp) (.inr z) = some (.int (i:Nat)):=fun e=>by
    rw [hv] at e
    have:=V.int.inj (Option.some.inj e)
    omega
   rw [if_neg nv] at tk
   have ed:(!decide (V.int (j:Nat) = V.int (i:Nat))) = true:=by
    rw [decide_eq_false (fun e=>by have:=V.int.inj e; omega)]
    rfl
   rw [ed]
   refine ⟨fun _=>?_,fun e=>Bool.noConfusion e⟩
   refine ⟨_,rfl,zz2,fun t ht=>?_⟩
   have s4:=zc ht (.tup [.str "doubled",.int (i:Nat)])
   have hDy4:=s4 _ _ hDy2
   have hu:MA1 (upd H3 t (.tup [.str "doubled",.int (i:Nat)])) t ("doubled",i):=by
    show upd H3 t _ t = _
    rw [za]
   refine lcN.mk hlt (zY (by rw [List.length_map]; omega)) hDy4 (by rw [List.length_map]; exact lu) ⟨us ++ [t],by rw [List.map_append]; rfl,fun b' u' e'=>?_,za,?_⟩
   ·rw [zg (zf e' hD)]
    exact s4 _ _ (sA _ _ e')
   ·rw [tk]
    exact ((hm2.same s4).snoc hu).upd hDy4
 rintro ys H2 ⟨us,rfl,s2,hDy,hm⟩
 rw [List.length_map,List.take_length] at hm
 have s12:=s1.trans s2
 have lov:(wK rows many).length<=900:=by
  unfold wK
  split
  ·exact Nat.zero_le _
  ·rw [List.length_map,List.length_range]; omega
 have lun:(w9 rows bars many fp).length<=900:=by
  unfold w9
  exact Nat.le_trans (List.length_filterMap_le _ _) lfp
 have lla:=v0 many (kvP fp) rows 0
 have ldb:=ju (kvP fp) zs 0
 have big : 4000<=sizeLine:=by decide
 refine ⟨_,rfl,_,rfl,_,rfl,f,many,rows,bars,rfl,lm,l5,hF.same s12,fun l3 H3 s3 ⟨us3,n3,e3,m3⟩=>?_⟩
 have lu0:=hm.length
 have lu3:=m3.length
 refine ⟨D,l3,_,_,rfl,rfl,s3 _ _ hDy,e3,(by simp only [List.length_map]; omega),fun p4 hp4=>?_⟩
 rw [<- List.map_append]
 have u4:=zc hp4 (.lst ((us ++ us3).map V.ref))
 have e4:upd H3 p4 (.lst ((us ++ us3).map V.ref)) p4 = some (.lst ((us ++ us3).map V.ref)):=za
 have m4:xV (upd H3 p4 (.lst ((us ++ us3).map V.ref))) (us ++ us3) _:=((hm.same s3).app m3).same u4
 generalize upd H3 p4 (.lst ((us ++ us3).map V.ref)) = H4 at u4 e4 m4 |-
 have s24:=s2.trans (s3.trans u4)
 have s14:=s1.trans s24
 refine ⟨_,rfl,_,rfl,_,rfl,f,d,o,many,rows,bars,fp,rfl,l5,lb5,lfp,hF.same s14,s24 _ _ hd1,fun l5' H5 s5 ⟨us5,n5,e5,m5⟩=>?_⟩
 have lu5:=m5.length
 refine ⟨p4,l5',_,_,rfl,rfl,s5 _ _ e4,e5,(by simp only [List.length_map,List.length_append]; omega),fun p6 hp6=>?_⟩
 rw [<- List.map_append]
 have u6:=zc hp6 (.lst ((us ++ us3 ++ us5).map V.ref))
 have e6:upd H5 p6 (.lst ((us ++ us3 ++ us5).map V.ref)) p6 = some (.lst ((us ++ us3 ++ us5).map V.ref)):=za
 have m6:xV (upd H5 p6 (.lst ((us ++ us3 ++ us5).map V.ref))) (us ++ us3 ++ us5) _:=((m4.same s5).app m5).same u6
 generalize upd H5 p6 (.lst ((us ++ us3 ++ us5).map V.ref)) = H6 at u6 e6 m6 |-
 have s26:=s24.trans (s5.trans u6)
 have s16:=s1.trans s26
 refine ⟨_,rfl,_,rfl,_,rfl,f,d,many,rows,bars,kvP fp,rfl,l5,hok,hF.same s16,.inr ⟨o,s26 _ _ hd1⟩,zgE fp,fun l7 H7 s7 ⟨us7,n7,e7,m7⟩=>?_⟩
 have lu7:=m7.length
 refine ⟨p6,l7,_,_,rfl,rfl,s7 _ _ e6,e7,(by simp only [List.length_map,List.length_append]; omega),fun p8 hp8=>?_⟩
 rw [<- List.map_append]
 have u8:=zc hp8 (.lst ((us ++ us3 ++ us5 ++ us7).map V.ref))
 refine q p8 _ (s16.trans (s7.trans u8)) ⟨us ++ us3 ++ us5 ++ us7,(s16.trans s7).free hp8,za,?_⟩
 unfold z7
 rw [hfp]
 exact ((m6.same s7).app m7).same u8
end
end K33
namespace L2
open PySem PySem.Spec PyProof.Rows
def seen (val:Nat->Str) (T:Str->Bool):Nat->Nat->Str->Bool
 | _,0,z=>T z
 | i,k + 1,z=>seen val (fun y=>T y || decide (y = val i)) (i + 1) k z
section
variable {P:Program} {w:World} {A:Around} {R:Result->Shared->Prop} {I:Addr} {fp wr:List Addr} {G:Array GenState->Array GenState->Prop} {n:Nat} {Pr:Nat->Value->Prop} {Sg:Nat->Shared->Prop}
theorem uJ (W:WalksS P w A.in1 I fp wr G n Pr Sg) (a:Addr) (ha:a ∉ fp) (val:Nat->Str) (hv:∀ i v,Pr i v->∃ t,v = .str (val i) t) (hb:n + 1 < scanBound) :
  ∀ (k i:Nat) (s:Shared) (T:Str->Bool) (c:Nat),n - i = k->i<=n->Sg i s->c<=i->s.heap.SetOf (strKind P w) a T c->
   (∀ s' c',Moved (a :: wr) G s s'->c'<=n->s'.heap.SetOf (strKind P w) a (seen val T i k) c'->R (.ok (.ret .none)) s')->
   codeAny (model P w) A (.builtin "set.update.loop" ⟨[.ref a,.ref I],[]⟩) R s
 | 0,i,s,T,c,hk,hi,hg,hc,hT,hR=>by
  have hw:a ∉ wr:=fun z=>ha (W.sub _ z)
  have ei:i = n:=by omega
  subst ei
  refine codeAny_builtin PyProof.Rows.F.entry_set_update_loop ?_; rw [Around.under_plainId PyProof.Rows.F.plain_set_update_loop _]
  show wpAny _ A.in1 (pyNext (.ref I) >>= _) _ _ _; refine wpAny_bind (W.done s _ _ hg fun s' hm=>?_)
  show wpAny _ A.in1 (ret Value.none) _ _ _; refine wpAny_pure (hR s' c (hm.mono fun b z=>List.mem_cons_of_mem _ z) hc ?_)
  obtain ⟨ob,es,ep,t,h1,h2⟩:=hT
  exact ⟨ob,es,ep,t,hm.heap a _ hw h1,h2⟩
 | k + 1,i,s,T,c,hk,hi,hg,hc,hT,hR=>by
  have hw:a ∉ wr:=fun z=>ha (W.sub _ z)
  have hlt:i < n:=by omega
  refine codeAny_builtin PyProof.Rows.F.entry_set_update_loop ?_; rw [Around.under_plainId PyProof.Rows.F.plain_set_update_loop _]
  show wpAny _ A.in1 (pyNext (.ref I) >>= _) _ _ _; refine wpAny_bind (W.item i s _ _ hlt hg fun v s' hP hg' hm=>?_)
  obtain ⟨t,rfl⟩:=hv i v hP
  have hT':s'.heap.SetOf (strKind P w) a T c:=by
   obtain ⟨ob,es,ep,tb,h1,h2⟩:=hT
   exact ⟨ob,es,ep,tb,hm.heap a _ hw h1,h2⟩
  show wpAny _ A.in1 (holding [Value.str (val i) t] (setAdd a (.str (val i) t)) >>= _) _ _ s'
  refine wpAny_bind (wpAny_holding ?_); unfold setAdd; refine wpAny_holding ?_
  refine wpAny_bind ((strKind P w).pyHash (k:=val i) (strKind_is _ _ _ _) ?_)
  refine wpAny_setAddHashed_of (knd:=strKind P w) (s:={ s' with toks:=s'.toks + 1 }) (strKind_is _ _ _ _) rfl hT' (by omega) fun h' hsb h3=>?_
  refine wpAny_pure ⟨plainId_quiet PyProof.Rows.F.plain_set_update_loop _,uJ W a ha val hv hb k (i + 1) _ _ _ (by omega) hlt (W.frame _ s' _ _ hg' (Nat.le_succ _) fun b hb' o e=>?_) (by split <;> omega) h3 fun s2 c2 hm2 hc2 h4=>?_⟩
  ·have:b ≠ a:=fun z=>ha (z ▸ hb')
   rw [hsb.2 b this]; exact e
  ·refine hR s2 c2 (Moved.trans W.gtrans ((hm.mono fun b z=>List.mem_cons_of_mem _ z).then_heap (Nat.le_succ _) fun b o hb' e=>?_) hm2) hc2 h4
   have:b ≠ a:=fun z=>hb' (z ▸ List.mem_cons_self)
   rw [hsb.2 b this]; exact e
end
abbrev xI (led:Bool):Obj:={ cls:=.type "set",dict:=none,data:=.set #[] 0 (.fresh 0 0 led) }
set_option maxHeartbeats 8000000 in
theorem zb2 {P:Program} {w:World} {A:Around} {E:Value->Shared->Prop} {s:Shared} {l:Addr} {items:Array Value} {zs:List Str} {Q:Value->Shared->Prop}
  (hh:A.handled = none) (hl:s.heap.IsList l items) (hv:∀ (i:Nat) (v:Value),items[i]? = some v->∃ t,v = .str (zs.getD i "") t) (hb:items.size + 1 < scanBound)
  (h:∀ (h':Heap) (tk c:Nat),h'.SetOf (strKind P w) s.heap.objs.size (seen (fun i=>zs.getD i "") (fun _=>false) 0 items.size) c->(∀ b o,b < s.heap.objs.size->s.heap.get? b = some o->h'.get? b = some o)->Q (.ref s.heap.objs.size) { s with heap:=h',toks:=tk }) :
  wpAny (model P w) A (call (.type "set") [.ref l]) Q E s:=by
 obtain ⟨mc,mt,mro⟩:=PySem.F.called_set.mro
 have q1:=PySem.F.called_set.made; have q2:=PySem.F.called_set.sub; have q3:=PySem.F.called_set.notType; have q4:=PySem.F.called_set.canCreate; have q5:=PySem.F.typeCall_set_1 (.ref l)
 refine wpAny_call (codeAny_of_tree ?_); show wpAny _ _ (callAny (.type "set") _) _ _ _
 refine wpAny_pure ⟨Code.quiet_builtin _ (by decide +kernel),codeAny_builtin PySem.F.entry_type_call ?_⟩; rw [Around.under_plain (weight_type_call_type "set" [.ref l] []) rfl]
 repeat (any_goals first | assumption | wp_step)
 refine codeAny_mono (code_set_new_1 (.ref l) (E:=E) (Q₁:=fun obj s₁=>∃ led:Bool,obj = .ref s.heap.objs.size/\s₁ = { s with heap:=s.heap.push (xI led) }) fun led=>⟨led,rfl,rfl⟩) fun r s₁ hr=>?_
 rcases r with e | (_ | _ | _ | obj)
 ·exact hr
 ·exact hr.elim
 ·exact hr.elim
 ·exact hr.elim
 ·obtain ⟨led,rfl,rfl⟩:=hr
  have hS:(s.heap.push (xI led)).get? s.heap.objs.size = some (xI led):=Heap.get?_push_size _ rfl
  have hT:Shared.TypeIs { s with heap:=s.heap.push (xI led) } (.ref s.heap.objs.size) "set":=⟨_,hS,rfl⟩
  have q6:=PySem.F.called_set.init.lookup; have q7:=PySem.F.called_set.init.bind (.ref s.heap.objs.size)
  repeat (any_goals first | assumption | wp_step)
  refine codeAny_mono (codeAny_call_builtin (R:=wants (fun r s₂=>r = .none/\∃ h' tk c,s₂ = { s with heap:=h',toks:=tk }/\h'.SetOf (strKind P w) s.heap.objs.size (seen (fun i=>zs.getD i "") (fun _=>false) 0 items.size) c/\∀ b o,b < s.heap.objs.size->s.heap.get? b = some o->h'.get? b = some o) E) PySem.F.called_set.init.plain PySem.F.entry_set_init (check_set_init_1 hT ?_)) fun r₂ s₂ hr₂=>?_
  ·obtain ⟨ol,hol,hcl,nl,hdl⟩:=id hl
   obtain ⟨ocls,odict,odata,oslots⟩:=ol
   simp only at hcl hdl
   subst hcl hdl
   have hol':(s.heap.push (xI led)).get? l = _:=Heap.get?_push_of_some (xI led) hol
   have t1:=PySem.F.sub_list_set; have t2:=PySem.F.sub_list_frozenset
   have t3:(Value.type "list" == Value.type "dict") = false:=by decide
   have hl1:(s.heap.push (xI led)).IsList l items:=⟨_,hol',rfl,nl,rfl⟩
   have hlS:l < s.heap.objs.size:=Heap.lt_size hol
   unfold Builtin.«set.__init__» noKeywords Builtin.Frozenset.updateFrom
   generalize hq:pyIter = pit
   wp_walk
   subst hq
   refine wpAny_pyIter_list hl1 (wpAny_bind (wpAny_runValue ?_))
   have hz:(s.heap.push (xI led)).objs.size = s.heap.objs.size + 1:=Heap.size_push ..
   have n1:l ≠ (s.heap.push (xI led)).objs.size:=by rw [hz]; exact Nat.ne_of_lt (Nat.lt_succ_of_lt hlS)
   have n2:∀ b:Addr,b < s.heap.objs.size->b ∉ [s.heap.objs.size,(s.heap.push (xI led)).objs.size]:=fun b hb' z=>by
    rw [hz] at z
    rcases List.mem_cons.mp z with e | e
    ·exact Nat.ne_of_lt hb' e
    ·exact Nat.ne_of_lt (Nat.lt_succ_of_lt hb') (List.mem_singleton.mp e)
   have n3:s.heap.objs.size ∉ [(s.heap.push (xI led)).objs.size,l]:=fun z=>by
    rw [hz] at z
    rcases List.mem_cons.mp z with e | e
    ·exact Nat.ne_of_lt (Nat.lt_succ_self _) e
    ·exact Nat.ne_of_gt hlS (List.mem_singleton.mp e)
   refine uJ ((Walks.list (by simp [hh]) _ l n1 items).toS) s.heap.objs.size n3 (fun i=>zs.getD i "") hv hb items.size 0 _ (fun _=>false) 0 (by omega) (Nat.zero_le _) ⟨⟨_,Heap.get?_push_size _ rfl,rfl,rfl⟩,hl1.push _⟩ (Nat.le_refl _) ?_ ?_
   ·exact (PyProof.Rows.setObjOf_fresh (knd:=strKind P w) led).setOf (Heap.get?_push_of_some _ hS) (by unfold scanBound; omega)
   ·rintro ⟨h',g',d',tk',os'⟩ c' hm hc' hS'
    have e1:g' = s.gens:=hm.gens
    have e2:d' = s.drawn:=hm.drawn
    have e3:os' = s.os:=hm.os
    subst e1 e2 e3
    show wpAny _ _ _ _ _ _
    refine wpAny_pure ?_; show wpAny _ _ (ret Value.none) _ _ _
    refine wpAny_pure ⟨rfl,h',tk',c',rfl,hS',fun b o hb' e=>hm.heap b o (n2 b hb') (Heap.get?_push_of_some _ (Heap.get?_push_of_some _ e))⟩
  ·rcases r₂ with e | (_ | _ | _ | ob2)
   ·exact hr₂
   ·exact hr₂.elim
   ·exact hr₂.elim
   ·exact hr₂.elim
   ·obtain ⟨rfl,h',tk,c',rfl,hS',hk'⟩:=hr₂
    repeat (any_goals first | assumption | wp_step)
    exact h _ _ _ hS' hk'
theorem zap (val:Nat->Str) (z:Str):∀ (k i:Nat) (T:Str->Bool),seen val T i k z = true ↔ (T z = true\/∃ j,j < k/\z = val (i + j))
 | 0,i,T=>⟨fun h=>.inl h,fun h=>h.elim id fun ⟨j,hj,_⟩=>absurd hj (Nat.not_lt_zero _)⟩
 | k + 1,i,T=>by
  show seen val (fun y=>T y || decide (y = val i)) (i + 1) k z = true ↔ _
  rw [zap val z k (i + 1)]
  simp only [Bool.or_eq_true,decide_eq_true_eq]
  constructor
  ·rintro ((h | h) | ⟨j,hj,e⟩)
   ·exact .inl h
   ·exact .inr ⟨0,by omega,h⟩
   ·exact .inr ⟨j + 1,by omega,by rw [show i + (j + 1) = i + 1 + j by omega]; exact e⟩
  ·rintro (h | ⟨j,hj,e⟩)
   ·exact .inl (.inl h)
   ·cases j with
    | zero=>exact .inl (.inr e)
    | succ j=>exact .inr ⟨j,by omega,by rw [show i + 1 + j = i + (j + 1) by omega]; exact e⟩
theorem zao (zs:List Str) (z:Str):seen (fun i=>zs.getD i "") (fun _=>false) 0 zs.length z = decide (z ∈ zs):=by
 rw [Bool.eq_iff_iff,zap,decide_eq_true_eq]
 constructor
 ·rintro (h | ⟨j,hj,e⟩)
  ·cases h
  ·rw [e,Nat.zero_add]
   show zs.getD j "" ∈ zs
   rw [List.getD_eq_getElem?_getD,List.getElem?_eq_getElem hj]
   exact List.getElem_mem hj
 ·intro h
  obtain ⟨j,hj,e⟩:=List.mem_iff_getElem.mp h
  refine .inr ⟨j,hj,?_⟩
  rw [Nat.zero_add]
  show z = zs.getD j ""
  rw [List.getD_eq_getElem?_getD,List.getElem?_eq_getElem hj]
  exact e.symm
theorem zS.strs_at:∀ {zs:List Str} {us:List Value},zS (zs.map V.str) us->∀ (i:Nat) (v:Value),us[i]? = some v->∃ t,v = .str (zs.getD i "") t
 | [],_,.nil,i,v,h=>by simp at h
 | z :: zs,_,.cons r t,0,v,h=>by
  obtain ⟨tk,e⟩:=r
  have:v = .str z tk:=by rw [<- e]; simpa using h.symm
  exact ⟨tk,this⟩
 | z :: zs,_,.cons r t,i + 1,v,h=>zS.strs_at t i v (by simpa using h)
theorem zdz {X:Cx} (hc:X.calm = true):yN X (.type "set") (fun xs H Q=>∃ (p:Addr) (zs:List Str),xs = [.ref p]/\SqL X.K H p (zs.map V.str)/\zs.length<=900/\∀ (l:Addr) (n:Nat),H l = none->Q (.ref l) (upd H l (wE X.prog X.w l (fun z=>decide (z ∈ zs)) n))):=by
 intro pins s σ H xs us Q I r h
 obtain ⟨p,zs,rfl,hS,lz,q⟩:=h
 obtain ⟨u,rfl,ru⟩:=xt r
 cases ru
 obtain ⟨its,rv,hp,hz⟩:=I.list hS
 have hl:its.length = zs.length:=by rw [<- rv.length,List.length_map]
 have hb:its.toArray.size + 1 < scanBound:=by
  rw [List.size_toArray,hl]
  have : 1000 < scanBound:=by unfold scanBound; decide
  omega
 refine zb2 (I.ok.hd hc) hp.isList (fun i v e=>rv.strs_at i v (by simpa using e)) hb fun h' tk c hS' hk=>?_
 have hsz:its.toArray.size = zs.length:=by rw [List.size_toArray,hl]
 rw [hsz] at hS'
 have eS:seen (fun i=>zs.getD i "") (fun _=>false) 0 zs.length = fun z=>decide (z ∈ zs):=funext (zao zs)
 rw [eS] at hS'
 refine ⟨.ref s.heap.objs.size,_,I.laid (t':=tk) (fun b ob e=>hk b ob (Heap.lt_size e) e) (Nat.le_refl _) (qo hS'),rfl,q _ c (I.hok.fresh (Nat.le_refl _))⟩
end L2
namespace K33
open PySem L2 PyProof.Rows
theorem zfl:∀ (rows:List Rw) (i:Nat) (acc:List (Key × V)) (k:Key) (v:V),(∀ k v,zJ acc k = some v->∃ j:Nat,v = .int (j:Nat))->zJ (yk i acc rows) k = some v->∃ j:Nat,v = .int (j:Nat)
 | [],_,acc,k,v,h,e=>h k v e
 | r :: rs,i,acc,k,v,h,e=>by
  refine zfl rs (i + 1) _ k v (fun k v e=>?_) e
  split at e
  ·rw [zae] at e
   split at e
   ·exact ⟨i,(Option.some.inj e).symm⟩
   ·exact h k v e
  ·exact h k v e
theorem zcX {rows:List Rw} {bars:List Str} {many:Nat} {fp:List (Str × Nat)} {i:Nat} {p:Str × Nat} (h:fp[i]? = some p):w9 rows bars many (fp.take (i + 1)) = w9 rows bars many (fp.take i) ++ (match z3 rows bars many p.1 with | some wd=>[(wd,p.2)] | none=>[]):=by
 unfold w9
 rw [List.take_add_one,h,List.filterMap_append]
 congr 1
 show List.filterMap _ [p] = _
 rw [List.filterMap_cons,List.filterMap_nil]
 cases z3 rows bars many p.1 <;> rfl
theorem zdP (rows:List Rw) (bars:List Str) (many:Nat) (fp:List (Str × Nat)):(w9 rows bars many fp).length<=fp.length:=List.length_filterMap_le _ _
section
variable {P:Program} {w:World} {K:Frag} {mg:Str->Option Value} {base:Heap} {f CF:Addr} {fd:FuncData} {c:C5} {m:MA}
theorem jG:zt ["form","many","firsts","barred","found","name","number","leads_to"] ["form","many","firsts"] (zh zhD):=⟨rfl,rfl,rfl,by decide +kernel,rfl,by decide +kernel,by decide +kernel⟩
theorem zhY {gB gN gG gP:Addr} {eB eN eG eP:FuncData} (F:Fun K "unwelcomes" "unwelcomes" zhD f fd) (hset:mg "set" = none) (FK:FC K CF) (mB:y1 K CF "bars" gB) (GB:zA P w K mg base CX0 1 gB eB ["self"] (zbe c CF)) (bB:zV K eB ["self"] []) (mN:y1 K CF "number_of" gN) (GN:zA P w K mg base CX0 1 gN eN ["self","name"] (zdY c CF)) (bN:zV K eN ["self","name"] [])
  (mG:y1 K CF "bag" gG) (GG:zA P w K mg base CX0 1 gG eG ["self"] (vj c CF 4)) (bG:zV K eG ["self"] []) (mP:y1 K CF "places" gP) (GP:zA P w K mg base CX0 1 gP eP ["self"] (wg c CF)) (bP:zV K eP ["self"] []) :
  zA P w K mg base CX0 2 f fd ["form","many","firsts"] (zgW c CF):=by
 refine F.ok jG (fun vs H Q E h=>?_) (fun cdv A outer s H vs Q E hr h=>?_)
 ·obtain ⟨f,d,o,many,rows,bars,fp,rfl,_⟩:=h
  rfl
 obtain ⟨f,d,o,many,rows,bars,fp,rfl,l5,lb5,lfp,hF,hd,q⟩:=h
 refine ⟨_,zj (zw (i:=3) jG.nd rfl (Or.inl rfl) (cTy (zdz rfl) hset PyProof.Rows.boot_set (ac (yC (pv 0) FK.cl mB GB hr bB .nil yh) zb)))
  (zj (zw (i:=4) jG.nd rfl (Or.inl rfl) (zT zb))
  (zj (yn PassesOwn.never rfl (zev (pv 2)) (yH rfl (zz (zk (i:=5) jG.nd rfl (Or.inl rfl)) (zz (zk (i:=6) jG.nd rfl (Or.inl rfl)) yo)))
   (zj (zw (i:=7) jG.nd rfl (Or.inl rfl) (zcy (pv 0) FK.cl mN GN hr bN .nil yh (ac (pv 5) zb)))
   (zd (zD (zi jb (pv 5) (pv 3) (by with_unfolding_all rfl)) (zd (zI (yD PySem.F.plainAttrs_list PySem.F.slot_list_append PySem.F.type_list_append zL (pv 4) (ac (zE (ac zn (ac (pv 6) zb))) zb))))
    (zd (zD (x8 (zbF (pv 7))) (zd (zD (x8 (zbF (yC (pv 0) FK.cl mG GG hr bG .nil yh))) (zd (zI (yD PySem.F.plainAttrs_list PySem.F.slot_list_append PySem.F.type_list_append zL (pv 4) (ac (zE (ac zn (ac (pv 6) zb))) zb)))) zu))
     (zd (zD (PW.pt (yb (zi xZ (pv 7) (yC (pv 0) FK.cl mP GP hr bP .nil yh) (zr _)) (z4 (zi xZ (pv 7) (pv 1) (zr _))))) (zd (zI (yD PySem.F.plainAttrs_list PySem.F.slot_list_append PySem.F.type_list_append zL (pv 4) (ac (zE (ac zn (ac (pv 6) zb))) zb)))) zu))))))))
  (zd (zp (pv 4))))),?_⟩
 obtain ⟨dx,fs,lr,lb,ld,ps0,h1,h2,h3,h4,h5,h6⟩:=id hF
 have nmB:fs.lookup ("bars" : Str) = none:=h2.no _ (by decide +kernel)
 have nmN:fs.lookup ("number_of" : Str) = none:=h2.no _ (by decide +kernel)
 have nmG:fs.lookup ("bag" : Str) = none:=h2.no _ (by decide +kernel)
 have nmP:fs.lookup ("places" : Str) = none:=h2.no _ (by decide +kernel)
 refine ⟨_,rfl,f,dx,fs,rfl,h1,nmB,f,rows,bars,rfl,hF,fun lb1 H1 s1 nb eb=>?_⟩
 refine ⟨lb1,bars,rfl,SqL.of eb,by omega,fun sS nS hS=>?_⟩
 have u2:=zc hS (wE P w sS (fun z=>decide (z ∈ bars)) nS)
 have e2:upd H1 sS (wE P w sS (fun z=>decide (z ∈ bars)) nS) sS = some (wE P w sS (fun z=>decide (z ∈ bars)) nS):=za
 show vQ _ _ _ _ (upd H1 sS (wE P w sS (fun z=>decide (z ∈ bars)) nS))
 generalize upd H1 sS (wE P w sS (fun z=>decide (z ∈ bars)) nS) = H2 at u2 e2 |-
 refine ⟨zz0,fun l hl=>?_⟩
 have u3:=zc hl (.lst [])
 have e3:upd H2 l (.lst []) l = some (.lst []):=za
 show vQ _ _ _ _ (upd H2 l (.lst []))
 generalize upd H2 l (.lst []) = H3 at u3 e3 |-
 have s2:=s1.trans u2
 have s3:=s2.trans u3
 have hlH:H l = none:=s2.free hl
 have nl:∀ {b:Addr} {u:HO},H2 b = some u->b ≠ l:=fun e=>zf e hl
 have sHl:∀ {H':Hp},(∀ b u,H2 b = some u->H' b = some u)->zm H H':=fun k b u e=>k b u (s2 _ _ e)
 refine ⟨_,rfl,d,o,kvP fp,rfl,s3 _ _ hd,zdt (d:=d) (o:=o) (kvs:=kvP fp) (fun i σ H'=>∃ (us:List Addr) (v5 v6 v7:Option V),σ = [some (.ref f),some (.int (many:Nat)),some (.ref d),some (.ref sS),some (.ref l),v5,v6,v7]/\(∀ b u,H2 b = some u->H' b = some u)/\H' l = some (.lst (us.map V.ref))/\xV H' us (w9 rows bars many (fp.take i)))
  ⟨[],_,_,_,rfl,fun _ _ e=>u3 _ _ e,e3,.nil⟩ (fun i σ H' _ ⟨_,_,_,_,_,sH,_⟩=>sH _ _ (s2 _ _ hd)) ?_ ?_⟩
 ·rintro i k v p σ H' hk ⟨us,v5,v6,v7,rfl,sH,hl',hm⟩ hpn
  obtain ⟨z,n,hz,rfl,rfl⟩:∃ (z:Str) (n:Nat),fp[i]? = some (z,n)/\k = .inr z/\v = .int (n:Nat):=by
   unfold kvP at hk
   rw [List.getElem?_map] at hk
   cases e:fp[i]? with
   | none=>rw [e] at hk; cases hk
   | some q=>rw [e] at hk; cases hk; exact ⟨q.1,q.2,rfl,rfl,rfl⟩
  have tk:=zcX (rows:=rows) (bars:=bars) (many:=many) hz
  dsimp only at tk
  have sp:=zc hpn (.tup [kV (.inr z),.int (n:Nat)])
  have lu:us.length<=i:=by
   rw [hm.length]
   refine Nat.le_trans (zdP _ _ _ _) ?_
   rw [List.length_take]
   omega
  have hi:i < fp.length:=(List.getElem?_eq_some_iff.mp hz).1
  have sH1:∀ b u,H2 b = some u->upd H' p (.tup [kV (.inr z),.int (n:Nat)]) b = some u:=fun b u e=>sp _ _ (sH b u e)
  have hl1:=sp _ _ hl'
  have hm1:=hm.same sp
  refine ⟨p,_,rfl,SqT.of za,rfl,_,_,rfl,_,_,rfl,rfl,?_⟩
  generalize upd H' p (.tup [kV (.inr z),.int (n:Nat)]) = H4 at sH1 hl1 hm1 |-
  have s4:=sHl sH1
  refine ⟨_,rfl,f,dx,fs,rfl,s4 _ _ h1,nmN,_,rfl,f,z,rows,bars,rfl,hF.same s4,?_⟩
  refine ⟨_,rfl,_,rfl,sS,_,_,z,rfl,rfl,sH1 _ _ e2,_,rfl,?_⟩
  by_cases hz1:z ∈ bars
  ·refine dT hz1 ?_
   rw [show z3 rows bars many z = some "barred" from if_pos hz1] at tk
   refine ⟨_,rfl,.inl ⟨rfl,_,SqL.of hl1⟩,_,rfl,zz2,fun t ht=>?_⟩
   have s6:=zc ht (.tup [.str "barred",.int (n:Nat)])
   have hl6:=s6 _ _ hl1
   have hu2:MA1 (upd H4 t (.tup [.str "barred",.int (n:Nat)])) t ("barred",n):=by
    show upd H4 t _ t = _
    rw [za]
   refine ⟨l,_,.ref t,rfl,rfl,hl6,zG (by rw [List.length_map]; omega),?_⟩
   refine ⟨us ++ [t],_,_,_,rfl,fun b u e=>?_,by rw [za,List.map_append]; rfl,?_⟩
   ·rw [zg (nl e)]
    exact s6 _ _ (sH1 b u e)
   ·rw [tk]
    exact ((hm1.same s6).snoc hu2).upd hl6
  ·refine dF hz1 ?_
   have e0:z3 rows bars many z = (match z3.lastD' z rows with | none=>if (zy 4 0 rows).isSome = true then none else some "strange" | some l=>if l < plN rows/\l < many then some "again" else none):=if_neg hz1
   cases ev:zJ (yk 0 [] rows) (.inr z) with
   | none=>
    have e1:z3.lastD' z rows = none:=by unfold z3.lastD'; rw [ev]
    rw [e1] at e0
    refine ⟨_,rfl,_,rfl,?_⟩
    refine dT rfl ?_
    refine ⟨_,rfl,f,dx,fs,rfl,s4 _ _ h1,nmG,f,rows,bars,rfl,hF.same s4,_,rfl,?_⟩
    cases eg:zy 4 0 rows with
    | none=>
     have e2':z3 rows bars many z = some "strange":=by rw [e0,eg]; rfl
     refine dT rfl ?_
     rw [show z3 rows bars many z = some "strange" from e2'] at tk
     refine ⟨_,rfl,.inl ⟨rfl,_,SqL.of hl1⟩,_,rfl,zz2,fun t ht=>?_⟩
     have s6:=zc ht (.tup [.str "strange",.int (n:Nat)])
     have hl6:=s6 _ _ hl1
     have hu2:MA1 (upd H4 t (.tup [.str "strange",.int (n:Nat)])) t ("strange",n):=by
      show upd H4 t _ t = _
      rw [za]
     refine ⟨l,_,.ref t,rfl,rfl,hl6,zG (by rw [List.length_map]; omega),?_⟩
     refine ⟨us ++ [t],_,_,_,rfl,fun b u e=>?_,by rw [za,List.map_append]; rfl,?_⟩
     ·rw [zg (nl e)]
      exact s6 _ _ (sH1 b u e)
     ·rw [tk]
      exact ((hm1.same s6).snoc hu2).upd hl6
    | some j=>
     have e2':z3 rows bars many z = none:=by rw [e0,eg]; rfl
     refine dF (by intro z; cases z) ?_
     rw [show z3 rows bars many z = none from e2',List.append_nil] at tk
     exact ⟨us,_,_,_,rfl,sH1,hl1,by rw [tk]; exact hm1⟩
   | some v=>
    obtain ⟨j,rfl⟩:=zfl rows 0 [] (.inr z) v (fun k v e=>by cases e) ev
    have e1:z3.lastD' z rows = some j:=by unfold z3.lastD'; rw [ev]; rfl
    rw [e1] at e0
    refine ⟨_,rfl,_,rfl,?_⟩
    refine dF (by intro z; cases z) ?_
    refine ⟨_,rfl,_,rfl,f,dx,fs,rfl,s4 _ _ h1,nmP,f,rows,bars,rfl,hF.same s4,_,_,rfl,rfl,_,rfl,?_⟩
    by_cases hj1:j < plN rows
    ·refine yU (decide_eq_true (by show (j:Int) < (plN rows:Int); omega)) ?_
     refine ⟨_,rfl,_,rfl,_,_,rfl,rfl,_,rfl,?_⟩
     by_cases hj2:j < many
     ·have e2':z3 rows bars many z = some "again":=by rw [e0]; exact if_pos ⟨hj1,hj2⟩
      refine yU (decide_eq_true (by show (j:Int) < (many:Int); omega)) ?_
      rw [show z3 rows bars many z = some "again" from e2'] at tk
      refine ⟨_,rfl,.inl ⟨rfl,_,SqL.of hl1⟩,_,rfl,zz2,fun t ht=>?_⟩
      have s6:=zc ht (.tup [.str "again",.int (n:Nat)])
      have hl6:=s6 _ _ hl1
      have hu2:MA1 (upd H4 t (.tup [.str "again",.int (n:Nat)])) t ("again",n):=by
       show upd H4 t _ t = _
       rw [za]
      refine ⟨l,_,.ref t,rfl,rfl,hl6,zG (by rw [List.length_map]; omega),?_⟩
      refine ⟨us ++ [t],_,_,_,rfl,fun b u e=>?_,by rw [za,List.map_append]; rfl,?_⟩
      ·rw [zg (nl e)]
       exact s6 _ _ (sH1 b u e)
      ·rw [tk]
       exact ((hm1.same s6).snoc hu2).upd hl6
     ·have e2':z3 rows bars many z = none:=by rw [e0]; exact if_neg fun h=>hj2 h.2
      refine yp (decide_eq_false (by show ¬ (j:Int) < (many:Int); omega)) ?_
      rw [show z3 rows bars many z = none from e2',List.append_nil] at tk
      exact ⟨us,_,_,_,rfl,sH1,hl1,by rw [tk]; exact hm1⟩
    ·have e2':z3 rows bars many z = none:=by rw [e0]; exact if_neg fun h=>hj1 h.1
     refine yp (decide_eq_false (by show ¬ (j:Int) < (plN rows:Int); omega)) ?_
     refine ym ?_
     rw [show z3 rows bars many z = none from e2',List.append_nil] at tk
     exact ⟨us,_,_,_,rfl,sH1,hl1,by rw [tk]; exact hm1⟩
 ·rintro σ H' ⟨us,v5,v6,v7,rfl,sH,hl',hm⟩
  have lk:(kvP fp).length = fp.length:=by unfold kvP; rw [List.length_map]
  rw [lk,List.take_length] at hm
  exact ⟨_,rfl,q l H' (sHl sH) ⟨us,hlH,hl',hm⟩⟩
end
structure wC (c:C5) (CF:Addr) (H:Hp) (f:Addr) (rows:List Rw) (bars:List Str):Prop where
 at_:xp c CF H f rows bars
 lr:rows.length<=500
 lb:bars.length<=500
 ok:∀ r ∈ rows,r.ok
theorem wC.same {c:C5} {CF:Addr} {H H':Hp} {f:Addr} {rows:List Rw} {bars:List Str} (h:wC c CF H f rows bars) (s:zm H H'):wC c CF H' f rows bars:=⟨h.at_.same s,h.lr,h.lb,h.ok⟩
section
variable {P:Program} {w:World} {K:Frag} {mg:Str->Option Value} {base:Heap} {f CF:Addr} {fd:FuncData} {c:C5} {m:MA}
end
end K33
namespace L2
open PySem PySem.Spec PyProof.Rows
section
variable {X:Cx}
end
theorem zS.of_at {ts:List Int}:∀ {us:List Value},us.length = ts.length->(∀ (i:Nat) (v:Value),us[i]? = some v->∃ t,v = Value.int (ts.getD i 0) t)->zS (ts.map V.int) us:=by
 induction ts with
 | nil=>
  intro us hl _
  have:us = []:=List.length_eq_zero_iff.mp hl
  subst this
  exact .nil
 | cons t ts ih=>
  intro us hl h
  cases us with
  | nil=>cases hl
  | cons u us=>
   obtain ⟨k,e⟩:=h 0 u rfl
   exact .cons ⟨k,e⟩ (ih (by simpa using hl) fun i v e=>h (i + 1) v e)
section
variable {X:Cx}
end
end L2
namespace L2
open PySem PySem.W PySem.Builtin PySem.Builtin.ObjectAttr PySem.Spec PyProof.Rows
section
variable {prog:Program} {w:World} {A:Around} {E:Value->Shared->Prop} {s:Shared} {K:Frag} {C f:Addr} {us:List Value}
end
section
variable {prog:Program} {w:World} {A:Around} {E:Value->Shared->Prop} {s:Shared} {K:Frag} {C x:Addr} {us:List Value}
end
end L2
namespace L2
open PySem PySem.W PySem.Builtin PySem.Builtin.ObjectAttr PySem.Builtin.Getset_descriptor PySem.Spec PyProof.Rows
section
variable {prog:Program} {w:World} {A:Around} {E:Value->Shared->Prop} {s:Shared} {K:Frag} {C D x dx:Addr} {us:List Value}
end
end L2
namespace L2
open PySem PySem.Spec PyProof.Rows
section
variable {X:Cx} {pins:List (Addr × Obj)} {σ : St} {H:Hp} {s:Shared} {x C t:Addr} {f:Str} {y:V} {u:Value} {A:Around} {E:Value->Shared->Prop}
end
section
variable {X:Cx} {o e value:Expr} {f:Str} {pos pos' tpos:Pos} {ta tv:TE}
end
section
variable {X:Cx} {CX:CXT} {k:Nat} {f C:Addr} {fd:FuncData} {ps:List Str} {sp:Sp} {E:XK} {x:Str} {p pos:Pos} {e:Expr} {es:List Expr} {t:TA}
end
section
variable {X:Cx} {pins:List (Addr × Obj)} {σ : St} {H:Hp} {s:Shared} {ea C t:Addr} {od:Option Addr} {M:Model} {E:Value->Shared->Prop}
end
section
variable {X:Cx} {E:XK} {pos:Pos} {e:Expr} {te:TE}
end
section
variable {P:Program} {w:World} {K:Frag} {mg:Str->Option Value} {base:Heap} {N:List Str} {qual:Str} {scope:Scope} {f:Addr} {cd:Value} {A:Around} {outer:List Env} {s:Shared} {H:Hp} {E E':XK}
end
section
variable {X:Cx} {x:Str} {C:Addr} {B Bn newId nid initId inN:String} {bm bmN:List Value} {np pos:Pos} {e:Expr} {es:List Expr} {t:TA}
end
section
variable {X:Cx} {pins:List (Addr × Obj)} {σ : St} {H:Hp} {s:Shared} {M:Model} {A:Around} {E:Value->Shared->Prop} {i:Nat} {n:Str} {pos:Pos}
end
section
variable {X:Cx} {pins:List (Addr × Obj)} {σ : St} {H:Hp} {s:Shared} {ea:Addr}
variable {st b₀:Stmt} {suite:List Stmt} {c n:Str} {np hpos pos:Pos} {C:Addr} {i:Nat} {tb:XK->TS} {ts:TS} {ok:Value->Prop}
end
section
variable {X:Cx} {pins:List (Addr × Obj)} {σ : St} {e:Expr} {es:List Expr} {t:TA} {E:XK} {x:Str} {p pos:Pos} {k:Nat} {f C:Addr} {fd:FuncData} {ps:List Str} {sp:Sp} {dvs:List V} {ds:List Value}
end
section
variable {M:Model} {A:Around} {E:Value->Shared->Prop} {s:Shared} {base:Heap} {env:Env} {outer:List Env} {L e C t:Addr} {od:Option Addr} {tb0 head:Value} {hn:Bool} {Q:Unit->Shared->Prop}
end
section
variable {X:Cx} {pins:List (Addr × Obj)} {σ : St} {H H':Hp} {s s':Shared} {ea C t:Addr} {od:Option Addr} {M:Model} {E:Value->Shared->Prop}
end
section
variable {X:Cx} {pins:List (Addr × Obj)} {σ : St} {H H':Hp} {s s':Shared} {ea C t:Addr} {od:Option Addr} {M:Model} {A:Around} {E:Value->Shared->Prop} {h5:Heap}
end
section
variable {X:Cx} {E:XK} {pos:Pos} {e:Expr} {te:TE}
end
section
variable {P:Program} {w:World} {K:Frag} {mg:Str->Option Value} {base:Heap} {N:List Str} {qual:Str} {scope:Scope} {f:Addr} {cd:Value} {A:Around} {outer:List Env} {s:Shared} {H:Hp} {E E':XK}
end
section
variable {X:Cx} {k:Nat} {f:Addr} {fd:FuncData} {ps:List Str} {sp:Sp} {E:XK} {x:Str} {p pos:Pos} {e:Expr} {es:List Expr} {t:TA}
end
section
variable {X:Cx} {hs:List ExceptHandler} {th:HK} {c n:Str} {C':Addr} {i:Nat} {ts:TS} {b₀:Stmt} {suite:List Stmt} {np hpos:Pos}
end
section
variable {X:Cx} {st:Stmt} {h₀:ExceptHandler} {hs:List ExceptHandler} {pos:Pos} {tb:XK->TS} {th:HK}
end
section
variable {X:Cx} {pins:List (Addr × Obj)} {σ : St} {e:Expr} {es:List Expr} {te:TE} {t:TA} {E:XK} {x m:Str} {p pos apos:Pos} {k:Nat} {f C:Addr} {fd:FuncData} {ps:List Str} {sp:Sp} {dvs:List V} {ds:List Value}
end
section
variable {X:Cx} {pins:List (Addr × Obj)} {σ : St} {H:Hp} {s:Shared} {x C t:Addr} {f:Str} {A:Around} {E:Value->Shared->Prop}
end
section
variable {X:Cx} {e:Expr} {f:Str} {pos:Pos} {ta:TE}
end
end L2
namespace L2
open PySem PySem.Spec PyProof.Rows PySem.Builtin
section
variable {prog:Program} {w:World} {A:Around} {E:Value->Shared->Prop} {s:Shared} {it ea C t:Addr} {od:Option Addr} {tb:Value} {x left step:Int} {Q:Option Value->Shared->Prop}
end
end L2
namespace L2
open PySem PySem.Spec PyProof.Rows
structure zjb (ea:Addr) (P:Program) (w:World) (K:Frag) (tg:Expr) (J:It) (fp:List Addr) (it:Addr) (tn:Nat->Heap->Prop):Prop where
 mem:it ∈ fp
 obj:∀ i h,tn i h->∀ b ∈ fp,∃ o,h.get? b = some o/\∀ v,o.data ≠ .cell v
 keep:∀ i h h',tn i h->(∀ b ∈ fp,∀ o,h.get? b = some o->h'.get? b = some o)->tn i h'
 item:∀ (X:Cx),X.prog = P->X.w = w->X.K = K->X.A.handled = some (.ref ea)->∀ (i:Nat) (pins:List (Addr × Obj)) (s:Shared) (σ : St) (H:Hp) (E:Value->Shared->Prop),Inv X pins σ H s->(∀ b ∈ fp,wQ X pins H b)->tn i s.heap->J.go i H->
  wpAny (model P w) X.A (pyNext (.ref it)) (fun r s1=>∃ u,r = some u/\
   wpAny (model P w) X.A (letOwnedTupleGo tg (.ref it) u) (fun _ s2=>∃ x H',Inv X pins σ H' s2/\zR x u/\J.yld i H x H'/\tn (i + 1) s2.heap/\∀ b ∈ fp,H' b = none) E s1) E s
 done:∀ (X:Cx),X.prog = P->X.w = w->X.K = K->X.A.handled = some (.ref ea)->∀ (i:Nat) (pins:List (Addr × Obj)) (s:Shared) (σ : St) (H:Hp) (E:Value->Shared->Prop),Inv X pins σ H s->(∀ b ∈ fp,wQ X pins H b)->tn i s.heap->J.stop i H->
  wpAny (model P w) X.A (pyNext (.ref it)) (fun r s1=>r = none/\Inv X pins σ H s1) E s
 self:∀ (A:Around) (i:Nat) (s:Shared) (Q:Value->Shared->Prop) (E:Value->Shared->Prop),tn i s.heap->Q (.ref it) s->wpAny (model P w) A (pyIter (.ref it)) Q E s
def zka (X:Cx) (ea:Addr) (pins:List (Addr × Obj)) (σ : St) (tg:Expr) (R:It->Hp->Prop) (itv:Value) (s2:Shared):Prop:=
 ∃ (it:Addr) (fp:List Addr) (tn:Nat->Heap->Prop) (J:It) (H':Hp),itv = .ref it/\Inv X pins σ H' s2/\zjb ea X.prog X.w X.K tg J fp it tn/\tn 0 s2.heap/\(∀ b ∈ fp,wQ X pins H' b)/\R J H'
section
variable {X:Cx} {tg:Expr}
end
section
variable {X:Cx} {pins:List (Addr × Obj)} {σ : St} {s:Shared} {sc:Scope} {fr Nc:List Str} {caps:List (Option Nat)} {elt tg iter:Expr} {ifs:List Expr} {g:TG} {tt:TT} {te:TE} {ow:List Nat} {pos pos2:Pos} {E:Value->Shared->Prop}
end
section
variable {X:Cx} {hs:List ExceptHandler} {th:HK} {c n:Str} {C':Addr} {i:Nat} {ts:TS} {b₀:Stmt} {suite:List Stmt} {np hpos:Pos}
end
section
variable {X:Cx}
end
end L2
namespace L2
open PySem PySem.Spec PyProof.Rows PySem.Builtin
section
variable {prog:Program} {w:World} {A:Around} {E:Value->Shared->Prop} {s:Shared} {it l ea C t:Addr} {od:Option Addr} {tb:Value} {i:Nat} {items:Array Value} {Q:Option Value->Shared->Prop}
end
section
variable {X:Cx} {tg:Expr}
end
section
variable {X:Cx} {sc:Scope} {elt tg iter:Expr} {ifs:List Expr} {g:TG} {tt:TT} {te:TE} {ow:List Nat} {pos:Pos}
end
def xj (a n:Nat):List Int:=(List.range n).map fun (i:Nat)=>((a + i:Nat):Int)
section
variable {X:Cx}
theorem zdB:yN X (.type "range") (fun xs H Q=>∃ a b:Nat,xs = [.int (a:Nat),.int (b:Nat)]/\∀ p,H p = none->Q (.ref p) (upd H p (.rng (a:Nat) (b:Nat)))):=by
 intro pins s σ H xs us Q I r h
 obtain ⟨a,b,rfl,q⟩:=h
 obtain ⟨u,v,rfl,ru,rv⟩:=zb8 r
 obtain ⟨t,rfl⟩:=ru
 obtain ⟨t',rfl⟩:=rv
 refine call_range_2 ?_
 refine ⟨.ref s.heap.objs.size,_,I.laid (o:=.rng (a:Nat) (b:Nat)) (fun b u e=>Heap.get?_push_of_some _ e) (Nat.le_refl _) ?_,rfl,q _ (I.hok.fresh (Nat.le_refl _))⟩
 exact ⟨_,_,_,Heap.get?_push_size _ rfl⟩
theorem za4 (hc:X.calm = true):yN X (.type "list") (fun xs H Q=>∃ (p:Addr) (a b:Nat),xs = [.ref p]/\H p = some (.rng (a:Nat) (b:Nat))/\a<=900/\b<=900/\∀ l,H l = none->Q (.ref l) (upd H l (.lst ((xj a (b - a)).map V.int)))):=by
 intro pins s σ H xs us Q I r h
 obtain ⟨p,a,b,rfl,hp,ha,hb,q⟩:=h
 obtain ⟨u,rfl,ru⟩:=xt r
 cases ru
 obtain ⟨t,u',v',e⟩:=I.hok p _ hp
 refine call_list_range (n:=b - a) (I.ok.hd hc) e ?_ ?_ (by omega) fun h' tk acc c' hk he hacc=>?_
 ·exact small_one (by omega) (by omega) (by omega) (by omega)
 ·rw [rangeSize_one]
  split <;> omega
 ·have hl:acc.toList.length = (xj a (b - a)).length:=by
   unfold xj
   rw [List.length_map,List.length_range]
   simpa using hacc.1
  have hv:zS ((xj a (b - a)).map V.int) acc.toList:=zS.of_at hl fun i v e=>by
   obtain ⟨t,rfl⟩:=hacc.2 i v (by simpa using e)
   refine ⟨t,?_⟩
   have hi:i < b - a:=by
    have:=(List.getElem?_eq_some_iff.mp e).1
    rw [hl] at this
    unfold xj at this
    simpa using this
   have eg:(xj a (b - a)).getD i 0 = ((a + i:Nat):Int):=by
    unfold xj
    rw [List.getD_eq_getElem?_getD,List.getElem?_map,List.getElem?_range hi]
    rfl
   rw [eg]
   congr 1
   omega
  refine ⟨.ref s.heap.objs.size,_,I.laid (t':=tk) (o:=.lst ((xj a (b - a)).map V.int)) hk (Nat.le_refl _) ⟨?_,acc.toList,c',hv,by simpa using he⟩,rfl,q _ (I.hok.fresh (Nat.le_refl _))⟩
  unfold xj
  rw [List.length_map,List.length_map,List.length_range]
  have : 1000<=sizeLine:=by decide
  omega
end
end L2
namespace L2
open PySem PySem.Spec PyProof.Rows
section
variable {X:Cx}
end
section
variable {X:Cx} {hs:List ExceptHandler} {th:HK} {c n:Str} {C':Addr} {i:Nat} {ts:TS} {b₀:Stmt} {suite:List Stmt} {np hpos:Pos}
end
section
variable {P:Program} {w:World} {K:Frag} {mg:Str->Option Value} {base:Heap}
end
section
variable {X:Cx} {k:Nat} {f ea:Addr} {fd:FuncData} {ps:List Str} {sp:Addr->Sp} {x:Str} {p pos:Pos} {e:Expr} {es:List Expr} {t:TA}
end
end L2
namespace K33
open PySem L2 PyProof.Rows
section
variable {P:Program} {w:World} {K:Frag} {mg:Str->Option Value} {base:Heap} {f CF:Addr} {fd:FuncData} {c:C5} {m:MA}
end
section
variable {P:Program} {w:World} {K:Frag} {mg:Str->Option Value} {base:Heap} {f:Addr} {fd:FuncData}
end
theorem x0 (a b:List Rw):nms (a ++ b) = nms a ++ nms b:=by unfold nms; rw [List.filter_append,List.map_append]
theorem vE (r:Rw):nms [r] = if yl r.k = true then [r.z] else []:=by
 unfold nms
 cases h:yl r.k <;> simp [h]
section
variable {H H' H'':Hp} {lp lt ll de u:Addr} {S:FS} {r:Rw} {z:Str} {b:Bool}
end
end K33
namespace L2
open PySem PySem.Spec PyProof.Rows
theorem zcI {n:Nat} (h:n<=1000):n<=sizeLine:=Nat.le_of_lt (zG h)
theorem jY {α : Type} {ys:List α} {i:Nat} {y : α} (keep : α->Bool) (hy:ys[i]? = some y):(ys.take (i + 1)).filter keep = (ys.take i).filter keep ++ (if keep y = true then [y] else []):=by
 have hi:i < ys.length:=(List.getElem?_eq_some_iff.mp hy).1
 have e:ys[i] = y:=(List.getElem?_eq_some_iff.mp hy).2
 rw [List.take_succ_eq_append_getElem hi,List.filter_append,e,List.filter_cons]
 rfl
theorem zgG {α : Type} {ys:List α} {i:Nat} (keep : α->Bool):((ys.take i).filter keep).length<=i:=by
 have:=List.length_filter_le keep (ys.take i)
 rw [List.length_take] at this
 omega
theorem qL {α : Type} {K:Frag} {a:Addr} {xs:List V} {caps:List (Option Nat)} {g:TG} {tt:TT} {te:TE} {σ : L2.St} {H1:Hp} {Q:VK} {D:Addr} (ys:List α) (keep : α->Bool) (out : α->V) (hD:H1 D = none) (ha:SqL K H1 a xs) (hl:xs.length = ys.length) (hn:xs.length<=1000)
  (hs:∀ (i:Nat) (x:V) (y : α) (H:Hp) (N:VK) (S:Hp->Prop),xs[i]? = some x->ys[i]? = some y->zm H1 H->(∀ H',zm H H'->keep y = true->N (out y) H')->(∀ H',zm H H'->keep y = false->S H')->g x (xa caps σ) H fun σ2 H2=>tt σ2 H2 fun ok H3=>(ok = true->te σ2 H3 N)/\(ok = false->S H3))
  (hd:∀ H,zm H1 H->H D = some (.lst ((ys.filter keep).map out))->Q (.ref D) H):LCr (Itl K a) caps g tt te σ H1 Q D:=by
 refine xF (K:=K) (xs:=xs) (fun i zs H'=>zm H1 H'/\H' D = some (.lst zs)/\zs = ((ys.take i).filter keep).map out) ⟨zc hD _,za,rfl⟩ (fun i zs H' h=>h.1.seq ha) ?_ ?_
 ·rintro i x zs H' hlt hx ⟨sH,hDy,ez⟩
  obtain ⟨y,hy⟩:∃ y,ys[i]? = some y:=⟨_,List.getElem?_eq_getElem (by omega)⟩
  refine hs i x y H' _ _ hx hy sH (fun H2 s2 hk=>?_) (fun H2 s2 hk=>?_)
  ·refine lcN.mk hlt (zcI hn) (s2 _ _ hDy) (by rw [ez,List.length_map]; exact zgG _) ⟨fun b' u e=>?_,za,?_⟩
   ·rw [zg (zf e hD)]
    exact s2 _ _ (sH b' u e)
   ·rw [ez,jY keep hy,if_pos hk,List.map_append]
    rfl
  ·refine lcS.mk hlt ⟨sH.trans s2,s2 _ _ hDy,?_⟩
   rw [ez,jY keep hy,if_neg (by rw [hk]; exact Bool.false_ne_true),List.append_nil]
 ·rintro zs H2 ⟨s2,hDy,ez⟩
  rw [List.take_of_length_le (by omega)] at ez
  rw [ez] at hDy
  exact hd H2 s2 hDy
theorem qK {n:Nat} {caps:List (Option Nat)} {g:TG} {tt:TT} {te:TE} {σ : L2.St} {H1:Hp} {Q:VK} {D:Addr} (keep:Nat->Bool) (out:Nat->V) (hD:H1 D = none) (hn:n<=1000)
  (hs:∀ (i:Nat) (H:Hp) (N:VK) (S:Hp->Prop),i < n->zm H1 H->(∀ H',zm H H'->keep i = true->N (out i) H')->(∀ H',zm H H'->keep i = false->S H')->g (.int ((0:Int) + (i:Int))) (xa caps σ) H fun σ2 H2=>tt σ2 H2 fun ok H3=>(ok = true->te σ2 H3 N)/\(ok = false->S H3))
  (hd:∀ H,zm H1 H->H D = some (.lst (((List.range n).filter keep).map out))->Q (.ref D) H):LCr (Itr 0 n) caps g tt te σ H1 Q D:=by
 refine wn (n:=n) (fun i zs H'=>zm H1 H'/\H' D = some (.lst zs)/\zs = ((List.range i).filter keep).map out) ⟨zc hD _,za,rfl⟩ ?_ ?_
 ·rintro i zs H' hlt ⟨sH,hDy,ez⟩
  refine hs i H' _ _ hlt sH (fun H2 s2 hk=>?_) (fun H2 s2 hk=>?_)
  ·refine lcN.mk hlt (zcI hn) (s2 _ _ hDy) (by rw [ez,List.length_map]; have:=List.length_filter_le keep (List.range i); rw [List.length_range] at this; exact this) ⟨fun b' u e=>?_,za,?_⟩
   ·rw [zg (zf e hD)]
    exact s2 _ _ (sH b' u e)
   ·rw [ez,List.range_succ,List.filter_append,List.map_append,List.filter_cons,if_pos hk]
    rfl
  ·refine lcS.mk hlt ⟨sH.trans s2,s2 _ _ hDy,?_⟩
   rw [ez,List.range_succ,List.filter_append,List.map_append,List.filter_cons,if_neg (by rw [hk]; exact Bool.false_ne_true)]
   simp
 ·rintro zs H2 ⟨s2,hDy,ez⟩
  rw [ez] at hDy
  exact hd H2 s2 hDy
end L2
namespace K33
open PySem L2 PyProof.Rows
section
variable {P:Program} {w:World} {K:Frag} {mg:Str->Option Value} {base:Heap} {f:Addr} {fd:FuncData}
end
section
variable {K:Frag} {c:C5}
end
section
variable {K:Frag} {ok:Addr->Prop} {H:Hp} {n:Nat}
end
end K33
namespace L2
open PySem PySem.Spec PyProof.Rows
end L2
namespace K33
open PySem L2 PyProof.Rows
section
variable {K:Frag} {H0 H' H'':Hp} {l a b:Addr} {vs ys:List V} {ct:List xo} {ts:List Int} {ps:List (Str × Int)}
end
section
variable {P:Program} {w:World} {K:Frag} {mg:Str->Option Value} {base:Heap} {f:Addr} {fd:FuncData}
end
end K33
namespace L2
open PySem PySem.Spec PyProof.Rows PySem.Builtin
section
variable {prog:Program} {w:World} {A:Around} {E:Value->Shared->Prop} {s:Shared} {it l ea C t:Addr} {od:Option Addr} {tb:Value} {i:Nat} {items:Array Value} {Q:Option Value->Shared->Prop}
end
section
variable {prog:Program} {w:World} {A:Around} {E:Value->Shared->Prop} {s:Shared} {ea C tt:Addr} {od:Option Addr} {tb:Value}
end
end L2
namespace L2
open PySem PySem.Spec PyProof.Rows
section
variable {X:Cx} {tg:Expr}
end
theorem uB {α : Type} {R:Addr->α->Prop} {us:List Addr} {rows:List α} (h:Paired R us rows) (keep : α->Bool) (out : α->V):((us.zip rows).filter fun p=>keep p.2).map (fun p=>out p.2) = (rows.filter keep).map out:=by
 induction h with
 | nil=>rfl
 | cons r t ih=>
  rename_i u y us ys
  rw [List.zip_cons_cons,List.filter_cons,List.filter_cons]
  cases hk:keep y with
  | true=>rw [if_pos rfl,if_pos rfl,List.map_cons,List.map_cons,ih]
  | false=>rw [if_neg Bool.false_ne_true,if_neg Bool.false_ne_true,ih]
theorem jg {α : Type} {K:Frag} {a:Addr} {us:List Addr} {rows:List α} {caps:List (Option Nat)} {g:TG} {tt:TT} {te:TE} {σ : L2.St} {H1:Hp} {Q:VK} {D:Addr} (R:Hp->Addr->α->Prop) (keep : α->Bool) (out:Addr->α->V) (hD:H1 D = none) (ha:H1 a = some (.lst (us.map V.ref))) (hu:Paired (R H1) us rows) (hn:rows.length<=1000)
  (hs:∀ (i:Nat) (u:Addr) (y : α) (H:Hp) (N:VK) (S:Hp->Prop),us[i]? = some u->rows[i]? = some y->R H1 u y->zm H1 H->(∀ H',zm H H'->keep y = true->N (out u y) H')->(∀ H',zm H H'->keep y = false->S H')->g (.ref u) (xa caps σ) H fun σ2 H2=>tt σ2 H2 fun ok H3=>(ok = true->te σ2 H3 N)/\(ok = false->S H3))
  (hd:∀ H,zm H1 H->H D = some (.lst (((us.zip rows).filter fun p=>keep p.2).map fun p=>out p.1 p.2))->Q (.ref D) H):LCr (Itl K a) caps g tt te σ H1 Q D:=by
 have hl:us.length = rows.length:=hu.length
 have lz:(us.zip rows).length = rows.length:=by rw [List.length_zip,hl,Nat.min_self]
 refine qL (K:=K) (xs:=us.map V.ref) (us.zip rows) (fun p=>keep p.2) (fun p=>out p.1 p.2) hD (SqL.of ha) (by rw [List.length_map,lz,hl]) (by rw [List.length_map,hl]; exact hn) (fun i x y H N S hx hy sH n1 s1=>?_) hd
 have hi:i < rows.length:=by rw [<- lz]; exact (List.getElem?_eq_some_iff.mp hy).1
 have e1:(us.zip rows)[i]? = some (us[i],rows[i]):=by
  rw [List.getElem?_eq_getElem (by omega),List.getElem_zip]
 rw [e1] at hy
 cases hy
 have hu1:us[i]? = some us[i]:=List.getElem?_eq_getElem (by omega)
 rw [List.getElem?_map,hu1] at hx
 cases hx
 obtain ⟨d,hd',hr⟩:=Paired.get hu hu1
 have e2:rows[i]? = some rows[i]:=List.getElem?_eq_getElem hi
 rw [e2] at hd'
 cases hd'
 exact hs i us[i] rows[i] H N S hu1 e2 hr sH n1 s1
section
variable {X:Cx} {pins:List (Addr × Obj)} {σ : St} {e o:Expr} {es:List Expr} {ta:TE} {t:TA} {E:XK} {m:Str} {pos apos:Pos} {k:Nat} {f C:Addr} {fd:FuncData} {ps:List Str} {sp:Sp}
end
theorem j4 {x:V}:∀ {xs:List V} {us:List Value},zS xs us->xs.all yZ = true->us.countP (eqU x) = xs.countP fun y=>eqV y x
 | _,_,.nil,_=>rfl
 | y :: xs,u :: us,.cons r t,f=>by
  rw [List.all_cons,Bool.and_eq_true] at f
  rw [List.countP_cons,List.countP_cons,zbX r f.1,j4 t f.2]
def zfV:V->List V->Hp->VK->Prop:=fun x vs H Q=>∃ (l:Addr) (xs:List V) (y:V),x = .ref l/\vs = [y]/\H l = some (.lst xs)/\yZ y = true/\xs.all yZ = true/\Q (.int (xs.countP fun z=>eqV z y:Nat)) H
theorem wY {X:Cx}:MtM X "list.count" zfV:=by
 intro pins s σ H x vs v us' Q I rx rv h
 obtain ⟨l,xs,y,rfl,rfl,hH,fy,fs,q⟩:=h
 cases rx
 obtain ⟨u,rfl,ru⟩:=rv.one
 obtain ⟨z,its,n,r,hl,e⟩:=I.lstM hH
 refine call_meets F.slot_list_count ⟨_,e,rfl⟩ F.entry_list_count (F.args_list_count_2 _ _) (SeqAt.list_countAt l its.toArray n none #[] u (eqU y)) ⟨e,fun w hw=>wm ru fy r fs w (by simpa using hw),?_⟩
 refine ⟨.int _,H,I.kept (t':=s.toks + 1) fun b ob q=>q,⟨_,rfl⟩,?_⟩
 rw [show its.toArray.toList.countP (eqU y) = its.countP (eqU y) by simp,j4 r fs]
 exact q
section
variable {X:Cx} {elts:List Expr} {x1:Nat} {tpos:Pos}
end
section
variable {P:Program} {w:World} {A:Around} {R:Result->Shared->Prop} {I:Addr} {fp wr:List Addr} {G:Array GenState->Array GenState->Prop} {n:Nat} {Pr:Nat->Value->Prop} {Sg:Nat->Shared->Prop}
end
end L2
namespace K33
open PySem L2 PyProof.Rows
section
variable {P:Program} {w:World} {K:Frag} {mg:Str->Option Value} {base:Heap} {f CF N:Addr} {fd:FuncData} {c:C5}
end
section
variable {P:Program} {w:World} {K:Frag} {mg:Str->Option Value} {base:Heap} {f CF:Addr} {fd:FuncData} {c:C5}
end
theorem zb9 {κ : Type} [DecidableEq κ] {kvs:List (κ × V)} {k k' : κ} {v:V}:zJ (yP kvs k v) k' = if k' = k then some v else zJ kvs k':=zae kvs k k' v
theorem jc (r:Rw) (rs:List Rw):nms (r :: rs) = (if yl r.k = true then [r.z] else []) ++ nms rs:=by
 have:=x0 [r] rs
 rw [vE] at this
 exact this
theorem xP {z:Str}:∀ (rows:List Rw) (i:Nat) (acc:List (Key × V)),z ∉ nms rows->zJ (yk i acc rows) (.inr z) = zJ acc (.inr z)
 | [],_,_,_=>rfl
 | r :: rs,i,acc,h=>by
  rw [jc] at h
  have h2:z ∉ nms rs:=fun e=>h (List.mem_append_right _ e)
  show zJ (yk (i + 1) _ rs) (.inr z) = _
  rw [xP rs (i + 1) _ h2]
  split
  next e=>
   rw [zb9,if_neg]
   intro e2
   rw [if_pos e] at h
   exact h (by rw [Sum.inr.inj e2]; exact List.mem_append_left _ (List.mem_singleton.mpr rfl))
  ·rfl
theorem xQ {r:Rw} (hb:yl r.k = true):∀ (rows:List Rw) (i j:Nat) (acc:List (Key × V)),rows[j]? = some r->(nms rows).Nodup->zJ (yk i acc rows) (.inr r.z) = some (.int ((i + j:Nat):Int))
 | [],_,_,_,h,_=>by simp at h
 | y :: ys,i,0,acc,h,nd=>by
  have e:y = r:=by simpa using h
  subst e
  rw [jc,if_pos hb] at nd
  have hz:y.z ∉ nms ys:=(List.nodup_cons.mp nd).1
  show zJ (yk (i + 1) (if yl y.k = true then yP acc (.inr y.z) (.int i) else acc) ys) (.inr y.z) = _
  rw [xP ys (i + 1) _ hz,if_pos hb,zb9,if_pos rfl]
  rfl
 | y :: ys,i,j + 1,acc,h,nd=>by
  rw [jc] at nd
  have nd2:=(List.nodup_append.mp nd).2.1
  show zJ (yk (i + 1) _ ys) (.inr r.z) = _
  rw [xQ hb ys (i + 1) j _ (by simpa using h) nd2,show i + 1 + j = i + (j + 1) by omega]
theorem zfA {a b:List (Str × Nat)} {z:Str} {v:V} (h:zJ (kvP a) (.inr z) = some v):zJ (kvP (a ++ b)) (.inr z) = some v:=by
 unfold zJ at h |-
 unfold kvP at h |-
 rw [List.map_append,List.find?_append]
 cases e:(a.map fun p=>((Sum.inr p.1:Key),V.int (p.2:Nat))).find? fun kv=>decide (kv.1 = .inr z) with
 | none=>rw [e] at h; cases h
 | some kv=>rw [e] at h; exact h
theorem zfz {a:List (Str × Nat)} {z:Str} {i:Nat} (h:(a.any fun p=>decide (p.1 = z)) = false):zJ (kvP (a ++ [(z,i)])) (.inr z) = some (.int (i:Nat)):=by
 have e0:zJ (kvP a) (.inr z) = none:=by
  rw [<- xG] at h
  exact Option.not_isSome_iff_eq_none.mp (by rw [h]; exact Bool.false_ne_true)
 unfold zJ at e0 |-
 unfold kvP at e0 |-
 rw [List.map_append,List.find?_append]
 cases e:(a.map fun p=>((Sum.inr p.1:Key),V.int (p.2:Nat))).find? fun kv=>decide (kv.1 = .inr z) with
 | none=>
  rw [Option.none_or,List.map_cons,List.find?_cons,decide_eq_true rfl]
  rfl
 | some kv=>rw [e] at e0; cases e0
theorem qd {z:Str} {v:V}:∀ (zs:List Str) (i:Nat) (acc:List (Str × Nat)),zJ (kvP acc) (.inr z) = some v->zJ (kvP (fpF i acc zs)) (.inr z) = some v
 | [],_,_,h=>h
 | y :: ys,i,acc,h=>by
  show zJ (kvP (fpF (i + 1) (if (acc.any fun p=>decide (p.1 = y)) = true then acc else acc ++ [(y,i)]) ys)) _ = _
  split
  ·exact qd ys (i + 1) acc h
  ·exact qd ys (i + 1) _ (zfA h)
theorem zgO {acc:List (Str × Nat)} {z:Str}:(acc.any fun p=>decide (p.1 = z)) = decide (z ∈ acc.map (·.1)):=by
 rw [Bool.eq_iff_iff,List.any_eq_true,decide_eq_true_eq,List.mem_map]
 exact ⟨fun ⟨p,h1,h2⟩=>⟨p,h1,of_decide_eq_true h2⟩,fun ⟨p,h1,h2⟩=>⟨p,h1,decide_eq_true h2⟩⟩
theorem zbW:∀ (a b:List Str) (j:Nat) (acc:List (Str × Nat)),fpF j acc (a ++ b) = fpF (j + a.length) (fpF j acc a) b
 | [],_,_,_=>rfl
 | z :: zs,b,j,acc=>by
  show fpF (j + 1) _ (zs ++ b) = fpF (j + (zs.length + 1)) (fpF (j + 1) _ zs) b
  rw [zbW zs b (j + 1),show j + 1 + zs.length = j + (zs.length + 1) by omega]
theorem zfi:∀ (zs:List Str) (j:Nat) (acc:List (Str × Nat)),(∀ p ∈ acc,p.2 < j)->∀ p ∈ fpF j acc zs,p.2 < j + zs.length
 | [],_,_,h,p,hp=>h p hp
 | z :: zs,j,acc,h,p,hp=>by
  have h2:=zfi zs (j + 1) _ (fun q hq=>?_) p hp
  ·rw [List.length_cons]; omega
  ·split at hq
   ·have:=h q hq; omega
   ·rcases List.mem_append.mp hq with hq | hq
    ·have:=h q hq; omega
    ·rw [List.mem_singleton.mp hq]; exact Nat.lt_succ_self _
theorem zbc {zs:List Str} {i:Nat} {z:Str} (h:zs[i]? = some z):zs.take (i + 1) = zs.take i ++ [z]:=by
 have hi:i < zs.length:=(List.getElem?_eq_some_iff.mp h).1
 have e:zs[i] = z:=(List.getElem?_eq_some_iff.mp h).2
 rw [List.take_succ_eq_append_getElem hi,e]
theorem zcK {zs:List Str} {i:Nat} {z:Str} (h:zs[i]? = some z):fpF 0 [] (zs.take (i + 1)) = if ((fpF 0 [] (zs.take i)).any fun p=>decide (p.1 = z)) = true then fpF 0 [] (zs.take i) else fpF 0 [] (zs.take i) ++ [(z,i)]:=by
 have hi:i < zs.length:=(List.getElem?_eq_some_iff.mp h).1
 rw [zbc h,zbW]
 have el : 0 + (zs.take i).length = i:=by rw [List.length_take]; omega
 rw [el]
 rfl
theorem zfq {zs:List Str} {i:Nat} {z:Str} (h:zs[i]? = some z):decide (zJ (kvP (fpZ zs)) (.inr z) = some (.int (i:Nat))) = !((fpF 0 [] (zs.take i)).any fun p=>decide (p.1 = z)):=by
 have hi:i < zs.length:=(List.getElem?_eq_some_iff.mp h).1
 have e:fpZ zs = fpF (i + 1) (fpF 0 [] (zs.take (i + 1))) (zs.drop (i + 1)):=by
  unfold fpZ
  conv=>lhs; rw [<- List.take_append_drop (i + 1) zs,zbW]
  rw [show 0 + (zs.take (i + 1)).length = i + 1 by rw [List.length_take]; omega]
 cases hb:(fpF 0 [] (zs.take i)).any fun p=>decide (p.1 = z) with
 | true=>
  have hs:(zJ (kvP (fpF 0 [] (zs.take i))) (.inr z)).isSome = true:=by rw [xG]; exact hb
  obtain ⟨v,hv⟩:=Option.isSome_iff_exists.mp hs
  obtain ⟨z',j,ez,ev,hm⟩:=uD hv
  have hj:=zfi (zs.take i) 0 [] (fun p hp=>by cases hp) _ hm
  rw [List.length_take] at hj
  have h2:=zcK h
  rw [hb,if_pos rfl] at h2
  have h3:=qd (z:=z) (v:=v) (zs.drop (i + 1)) (i + 1) (fpF 0 [] (zs.take (i + 1))) (by rw [h2]; exact hv)
  rw [e,h3,ev]
  refine decide_eq_false fun e2=>?_
  have:(j:Int) = (i:Int):=V.int.inj (Option.some.inj e2)
  have hj':j < 0 + min i zs.length:=hj
  omega
 | false=>
  have h2:=zcK h
  rw [hb,if_neg (by decide)] at h2
  have h3:=qd (z:=z) (v:=.int (i:Nat)) (zs.drop (i + 1)) (i + 1) (fpF 0 [] (zs.take (i + 1))) (by rw [h2]; exact zfz hb)
  rw [e,h3]
  exact decide_eq_true rfl
def uH (rows:List Rw) (bars:List Str) (many:Nat) (z:Str):Str:=(z3 rows bars many z).getD ""
theorem zdK {rows:List Rw} {bars:List Str} {many:Nat} {z:Str} (nd:(nms rows).Nodup) (h:z ∉ bars) {l:Nat} {r:Rw} (hl:rows[l]? = some r) (hb:yl r.k = true) (he:r.z = z):uH rows bars many z = if l < min many (plN rows) then "again" else "":=by
 have hv:=xQ hb rows 0 l [] hl nd
 rw [he] at hv
 have e1:z3.lastD' z rows = some l:=by unfold z3.lastD'; rw [hv,Nat.zero_add]; rfl
 unfold uH z3
 rw [if_neg h,e1]
 show (if l < plN rows/\l < many then some ("again" : Str) else none).getD "" = _
 by_cases hc:l < plN rows/\l < many
 ·rw [if_pos hc,if_pos (by omega)]; rfl
 ·rw [if_neg hc,if_neg (by omega)]; rfl
theorem zcW {rows:List Rw} {bars:List Str} {many:Nat} {z:Str}:z3 rows bars many z = if uH rows bars many z = "" then none else some (uH rows bars many z):=by
 unfold uH
 cases h:z3 rows bars many z with
 | none=>rfl
 | some x=>
  have hx:x ≠ "":=by
   unfold z3 at h
   split at h
   ·cases h; decide +kernel
   ·split at h
    ·split at h
     ·cases h
     ·cases h; decide +kernel
    ·split at h
     ·cases h; decide +kernel
     ·cases h
  rw [if_neg (show ¬ (some x).getD "" = "" from hx)]
  rfl
theorem zgw {r:Rw} {i many:Nat} {fk:List (Key × V)}:yV r i many fk = (!fr r.k r.b && !(y0 r.k && decide (i < many)) && !(yl r.k && (zJ fk (.inr r.z)).isSome)):=by
 unfold yV qJ
 by_cases h1:y0 r.k = true/\i < many
 ·rw [if_pos h1,h1.1,decide_eq_true h1.2]
  have e:L2.eqT [.str "place",.int (i:Nat)] [.str "free"] = false:=rfl
  rw [e]
  simp
 ·rw [if_neg h1]
  have hn:(y0 r.k && decide (i < many)) = false:=by
   cases hp:y0 r.k with
   | false=>rfl
   | true=>exact decide_eq_false fun h=>h1 ⟨hp,h⟩
  rw [hn]
  by_cases h2:yl r.k = true/\(zJ fk (.inr r.z)).isSome = true
  ·rw [if_pos h2,h2.1,h2.2]
   have e:∀ v,L2.eqT [.str "name",v] [.str "free"] = false:=fun v=>by unfold L2.eqT; simp
   rw [e]
   simp
  ·rw [if_neg h2]
   have hn2:(yl r.k && (zJ fk (.inr r.z)).isSome) = false:=by
    cases hp:yl r.k with
    | false=>rfl
    | true=>
     cases hq:(zJ fk (.inr r.z)).isSome with
     | false=>rfl
     | true=>exact absurd ⟨hp,hq⟩ h2
   rw [hn2]
   have e:L2.eqT [.str "free"] [.str "free"] = true:=by unfold L2.eqT; simp [List.range_succ,eqV]
   rw [e]
   simp
theorem qP {zs:List Str} {z:Str}:(zJ (kvP (fpZ zs)) (.inr z)).isSome = decide (z ∈ zs):=by
 rw [xG,Bool.eq_iff_iff,decide_eq_true_eq]
 constructor
 ·intro h
  have key:∀ (zs:List Str) (i:Nat) (acc:List (Str × Nat)),((fpF i acc zs).any fun p=>decide (p.1 = z)) = true->(acc.any fun p=>decide (p.1 = z)) = true\/z ∈ zs:=by
   intro zs
   induction zs with
   | nil=>exact fun i acc h=>.inl h
   | cons y ys ih=>
    intro i acc h
    rcases ih (i + 1) _ h with h | h
    ·split at h
     ·exact .inl h
     ·rw [List.any_append,Bool.or_eq_true] at h
      rcases h with h | h
      ·exact .inl h
      ·right
       simp at h
       rw [h]
       exact List.mem_cons_self
    ·exact .inr (List.mem_cons_of_mem _ h)
  rcases key zs 0 [] h with h | h
  ·simp at h
  ·exact h
 ·exact fun h=>zbV zs 0 [] h
theorem qR {zs:List Str} {z:Str}:z ∈ (fpZ zs).map (·.1) ↔ z ∈ zs:=by
 have h1:((fpZ zs).any fun p=>decide (p.1 = z)) = decide (z ∈ zs):=by rw [<- xG,qP]
 rw [zgO,Bool.eq_iff_iff,decide_eq_true_eq,decide_eq_true_eq] at h1
 exact h1
theorem zca {rows:List Rw} {bars:List Str} {many:Nat} {zs:List Str}:w9 rows bars many (fpZ zs) = [] ↔ ∀ z ∈ zs,z3 rows bars many z = none:=by
 unfold w9
 rw [List.filterMap_eq_nil_iff]
 constructor
 ·intro h z hz
  obtain ⟨p,hp,rfl⟩:=List.mem_map.mp (qR.mpr hz)
  have:=h p hp
  rwa [Option.map_eq_none_iff] at this
 ·intro h p hp
  rw [Option.map_eq_none_iff]
  exact h _ (qR.mp (List.mem_map.mpr ⟨p,hp,rfl⟩))
theorem zaX {fk:List (Key × V)}:∀ (zs:List Str) (i:Nat),xS fk i zs = [] ↔ ∀ j z,zs[j]? = some z->zJ fk (.inr z) = some (.int ((i + j:Nat):Int))
 | [],i=>by simp [xS]
 | y :: ys,i=>by
  show (if zJ fk (.inr y) = some (.int (i:Nat)) then [] else [(("doubled" : Str),i)]) ++ xS fk (i + 1) ys = [] ↔ _
  rw [List.append_eq_nil_iff,zaX ys (i + 1)]
  constructor
  ·rintro ⟨h1,h2⟩ j z hj
   cases j with
   | zero=>
    have:y = z:=by simpa using hj
    subst this
    split at h1
    next e=>exact e
    ·cases h1
   | succ j=>
    have:=h2 j z (by simpa using hj)
    rw [this]
    congr 3
    omega
  ·intro h
   refine ⟨?_,fun j z hj=>?_⟩
   ·have h0:=h 0 y rfl
    rw [Nat.add_zero] at h0
    rw [if_pos h0]
   ·have:=h (j + 1) z (by simpa using hj)
    rw [this]
    congr 3
    omega
theorem fpT {zs:List Str} {z:Str}:((fpF 0 [] zs).any fun p=>decide (p.1 = z)) = decide (z ∈ zs):=by
 have:=qP (zs:=zs) (z:=z)
 rw [xG] at this
 exact this
theorem zcR {zs:List Str}:xS (kvP (fpZ zs)) 0 zs = [] ↔ zs.Nodup:=by
 rw [zaX,List.nodup_iff_pairwise_ne]
 constructor
 ·intro h
  rw [List.pairwise_iff_getElem]
  intro i j hi hj hij e
  have h1:=zfq (zs:=zs) (i:=j) (z:=zs[j]) (List.getElem?_eq_getElem hj)
  have h2:=h j _ (List.getElem?_eq_getElem hj)
  rw [Nat.zero_add] at h2
  rw [decide_eq_true h2,fpT] at h1
  have hm:zs[j] ∈ zs.take j:=by
   rw [<- e]
   rw [List.mem_iff_getElem]
   exact ⟨i,by rw [List.length_take]; omega,by rw [List.getElem_take]⟩
  rw [decide_eq_true hm] at h1
  cases h1
 ·intro h j z hj
  have h1:=zfq hj
  rw [fpT] at h1
  have hn:z ∉ zs.take j:=by
   intro hm
   obtain ⟨i,hi,e⟩:=List.mem_iff_getElem.mp hm
   rw [List.length_take] at hi
   rw [List.getElem_take] at e
   have hjl:j < zs.length:=(List.getElem?_eq_some_iff.mp hj).1
   have:=(List.pairwise_iff_getElem.mp h) i j (by omega) hjl (by omega)
   rw [List.getElem?_eq_getElem hjl] at hj
   exact this (e.trans (Option.some.inj hj).symm)
  rw [decide_eq_false hn] at h1
  rw [Nat.zero_add]
  exact of_decide_eq_true h1
theorem wJ {rows:List Rw} {many:Nat}:wK rows many = [] ↔ ((zy 2 0 rows).isSome = true\/many<=plN rows):=by
 unfold wK
 split
 next h=>simp [h]
 next h=>
  rw [List.map_eq_nil_iff,List.range_eq_nil]
  constructor
  ·intro e; right; omega
  ·rintro (e | e)
   ·exact absurd e h
   ·omega
theorem vZ {many:Nat} {fk:List (Key × V)}:∀ (rows:List Rw) (i:Nat),xh many fk i rows = [] ↔ ∀ j r,rows[j]? = some r->yV r (i + j) many fk = false
 | [],i=>by simp [xh]
 | y :: ys,i=>by
  show (if yV y i many fk = true then [(("lacking" : Str),i)] else []) ++ xh many fk (i + 1) ys = [] ↔ _
  rw [List.append_eq_nil_iff,vZ ys (i + 1)]
  constructor
  ·rintro ⟨h1,h2⟩ j z hj
   cases j with
   | zero=>
    have:y = z:=by simpa using hj
    subst this
    split at h1
    ·cases h1
    next e=>exact Bool.eq_false_iff.mpr e
   | succ j=>
    have:=h2 j z (by simpa using hj)
    rw [show i + (j + 1) = i + 1 + j by omega]
    exact this
  ·intro h
   refine ⟨?_,fun j z hj=>?_⟩
   ·have:=h 0 y rfl
    rw [Nat.add_zero] at this
    rw [if_neg (by rw [this]; decide)]
   ·have:=h (j + 1) z (by simpa using hj)
    rw [show i + 1 + j = i + (j + 1) by omega]
    exact this
end K33
namespace L2
open PySem PySem.Spec PyProof.Rows
theorem ja {X:Cx}:OpR X (compareOp .IsNot) (fun x y H Q=>∃ i b,x = .int i/\y = .bl b/\Q (.bl true) H):=by
 intro pins s σ H x y v u Q I rx ry h
 obtain ⟨a,b,rfl,rfl,q⟩:=h
 obtain ⟨t,rfl⟩:=rx
 cases ry
 have e:wpAny (model X.prog X.w) X.A (pure (Value.bool (!(Value.int a t == Value.bool b)))) (EP X pins σ Q) X.xe s:=wpAny_pure ⟨.bl true,H,I,rfl,q⟩
 exact e
end L2
namespace K33
open PySem L2 PyProof.Rows
structure zio (mg:Str->Option Value):Prop where
 isi:mg "isinstance" = none
 int:mg "int" = none
 len:mg "len" = none
 range:mg "range" = none
 list:mg "list" = none
 zip:mg "zip" = none
 max:mg "max" = none
def zdW:Sp:=fun vs H Q _=>∃ i:Int,vs = [.int i]/\Q (.bl true) H
def zgZ:Sp:=fun vs H Q _=>∃ (c:Int) (k:Nat),vs = [.int c,.int k]/\k<=1000/\∀ m:Int,0<=m->m < 2147483587->Q (.int m) H
section
variable {P:Program} {w:World} {K:Frag} {mg:Str->Option Value} {base:Heap} {f:Addr} {fd:FuncData}
theorem ziM:zt ["_law_script","_law_k"] ["_law_script","_law_k"] (zh zhI):=⟨rfl,rfl,rfl,by decide +kernel,rfl,by decide +kernel,by decide +kernel⟩
theorem ziL:zt ["_law_found"] ["_law_found"] (zh zhH):=⟨rfl,rfl,rfl,by decide +kernel,rfl,by decide +kernel,by decide +kernel⟩
theorem zh1 (F:Fun K "_law_is_number" "_law_is_number" zhH f fd) (T:zio mg):zA P w K mg base CX0 1 f fd ["_law_found"] zdW:=by
 refine F.ok ziL (fun vs H Q E h=>?_) (fun cdv A outer s H vs Q E hr h=>?_)
 ·obtain ⟨i,rfl,_⟩:=h
  rfl
 obtain ⟨i,rfl,q⟩:=h
 refine ⟨_,zd (zp (qH (cB ux T.isi boot_isinstance (ac (pv 0) (ac (zcA (v:=.ty "int") rfl T.int PyProof.Rows.boot_int rfl) zb)))
  (qH (yM ja (pv 0) xw (zr _)) (zbD (yM ja (pv 0) xw (zr _)))))),?_⟩
 refine ⟨_,rfl,_,_,_,_,rfl,.int i,zbR K,_,rfl,?_⟩
 refine yT ?_
 refine ⟨_,rfl,_,_,rfl,rfl,_,rfl,?_⟩
 refine yT ?_
 exact ⟨_,rfl,_,_,rfl,rfl,q⟩
theorem zg4:zt ["_law_cell","_law_k","_law_number"] ["_law_cell","_law_k"] (zh zhJ):=⟨rfl,rfl,rfl,by decide +kernel,rfl,by decide +kernel,by decide +kernel⟩
theorem zh4 (F:Fun K "_law_mix" "_law_mix" zhJ f fd):zA P w K mg base CX0 1 f fd ["_law_cell","_law_k"] zgZ:=by
 refine F.ok zg4 (fun vs H Q E h=>?_) (fun cdv A outer s H vs Q E hr h=>?_)
 ·obtain ⟨c,k,rfl,_⟩:=h
  rfl
 obtain ⟨c,k,rfl,hk,q⟩:=h
 refine ⟨_,zj (zw (i:=2) zg4.nd rfl (Or.inl rfl) (zq xm (zq yc (zq yc (zq xM (zq xm (pv 0) ze) ze) (zq xM (zq xM (pv 1) (pv 1)) ze)) (zq xM ze (pv 1))) ze))
  (zd (zp (zq xm (zq yc (zq yc (zq xM (pv 2) (pv 2)) (zq xM ze (pv 2))) (pv 1)) ze))),?_⟩
 have k0:(0:Int)<=(k:Int):=by omega
 have k1:(k:Int)<=1000:=by omega
 refine ⟨_,rfl,_,_,rfl,rfl,(by show (0:Int) < 2147483629; decide),_,_,rfl,rfl,.inr ⟨by decide,by decide⟩,_,rfl,_,rfl,_,_,rfl,rfl,.inl ⟨by omega,by omega⟩,_,_,rfl,rfl,.inr ⟨by decide,by decide⟩,_,_,rfl,rfl,_,rfl,_,_,rfl,rfl,.inl ⟨by decide,by decide⟩,_,_,rfl,rfl,_,_,rfl,rfl,(by show (0:Int) < 2147483647; decide),?_⟩
 have h1 : 0<=(c % 2147483629 * 48271 + (k:Int) * (k:Int) * 7919 + 31 * (k:Int)) % 2147483647:=Int.emod_nonneg _ (by decide)
 have h2:(c % 2147483629 * 48271 + (k:Int) * (k:Int) * 7919 + 31 * (k:Int)) % 2147483647 < 2147483647:=Int.emod_lt_of_pos _ (by decide)
 refine ⟨_,rfl,_,rfl,_,_,rfl,rfl,.inl ⟨by omega,by omega⟩,_,rfl,_,_,rfl,rfl,.inl ⟨by decide,by decide⟩,_,_,rfl,rfl,_,rfl,_,_,rfl,rfl,_,_,rfl,rfl,(by show (0:Int) < 2147483587; decide),q _ (Int.emod_nonneg _ (by decide)) (Int.emod_lt_of_pos _ (by decide))⟩
end
theorem zfa {c:List xo} {i:Nat} {d:Dt} (h:(c.map xO)[i]? = some d):∃ it,c[i]? = some it/\xO it = d:=by
 rw [List.getElem?_map] at h
 cases e:c[i]? with
 | none=>rw [e] at h; cases h
 | some it=>rw [e] at h; exact ⟨it,rfl,Option.some.inj h⟩
theorem yS {K:Frag} {ok:Addr->Prop} {H H':Hp} {zs:List V} {ps:List (Str × Int)} (s:zm H H') (r:Paired (zO K ok H 1) zs (ps.map y4)):Paired (zO K ok H' 1) zs (ps.map y4):=Paired.imp' (fun _ _ z=>z.same s) r
theorem uc {K:Frag} {ok:Addr->Prop} {H:Hp} {n:Nat}:∀ (ts:List Int),Paired (zO K ok H n) (ts.map V.int) (ts.map Dt.int)
 | []=>.nil
 | _ :: ts=>.cons .int (uc ts)
theorem wp {α : Type} {l:List α} {i:Nat} {x : α} (h:l[i]? = some x):l.take (i + 1) = l.take i ++ [x]:=by
 rw [List.take_add_one,h]; rfl
theorem zai {K:Frag} {H3:Hp} {o:HO} {l b:Addr} {zs:List V} (hl:H3 l = none\/(∃ zs,H3 l = some (.lst zs))) (hz:SqT K H3 b zs):SqT K (upd H3 l o) b zs:=by
 rcases hz with (z | ⟨u,z⟩) | z
 ·refine .inl (.inl ?_)
  have:b ≠ l:=fun e=>by
   subst e
   rcases hl with e | ⟨_,e⟩
   ·rw [e] at z; cases z
   ·rw [e] at z; cases z
  rw [zg this]; exact z
 ·refine .inl (.inr ⟨u,?_⟩)
  have:b ≠ l:=fun e=>by
   subst e
   rcases hl with e | ⟨_,e⟩
   ·rw [e] at z; cases z
   ·rw [e] at z; cases z
  rw [zg this]; exact z
 ·exact .inr z
theorem wk {K:Frag} {ok ok':Addr->Prop} {H:Hp} {o:HO} {l:Addr} (hl:H l = none\/(∃ zs,H l = some (.lst zs))) (hk:∀ b,ok b->H b ≠ none->ok' b/\b ≠ l) {n:Nat} {x:V} {d:Dt} (h:zO K ok H n x d):zO K ok' (upd H l o) n x d:=
 h.frame (fun a xs z=>zai hl z) fun a xs oa z=>by
  have:=hk a oa (by rw [z]; intro q; cases q)
  exact ⟨this.1,by rw [zg this.2]; exact z⟩
theorem yd {z:Str}:∀ {zs:List Str},inV (.str z) (zs.map V.str) = decide (z ∈ zs)
 | []=>by simp [inV]
 | y :: ys=>by
  have ih:=yd (z:=z) (zs:=ys)
  show (eqV (.str y) (.str z) || inV (.str z) (ys.map V.str)) = _
  rw [ih]
  have:eqV (.str y) (.str z) = decide (z = y):=by
   show (y == z) = _
   rw [Bool.eq_iff_iff,beq_iff_eq,decide_eq_true_eq]
   exact ⟨Eq.symm,Eq.symm⟩
  rw [this]
  simp
theorem yi:∀ {zs:List Str},(zs.map V.str).all yZ = true
 | []=>rfl
 | _ :: ys=>by
  show (true && (ys.map V.str).all yZ) = true
  rw [yi]
  rfl
section
variable {P:Program} {w:World} {K:Frag} {mg:Str->Option Value} {base:Heap} {f:Addr} {fd:FuncData}
end
theorem zaB {l g:Nat} {r:Rw} {rs:List Rw} (hg:grp r.k = g) (hb:vi l g = false) (h:yF g rs = true):yF l (r :: rs) = true:=by
 show (!vi l (grp r.k) && yF (grp r.k) rs) = true
 rw [hg,hb,h]
 rfl
theorem u7 {g:Nat} (he:vi g g = false):∀ (xs ys:List Rw) (l:Nat),vi l g = false->(∀ r ∈ xs,grp r.k = g)->yF l ys = true->yF g ys = true->yF l (xs ++ ys) = true
 | [],_,_,_,_,h1,_=>h1
 | r :: rs,ys,l,hb,hg,_,h2=>zaB (hg r List.mem_cons_self) hb (u7 he rs ys g he (fun x hx=>hg x (List.mem_cons_of_mem _ hx)) h2 h2)
theorem zcC {g l:Nat} {xs ys:List Rw} (hl:xs.length<=1) (hb:vi l g = false) (hg:∀ r ∈ xs,grp r.k = g) (h1:yF l ys = true) (h2:yF g ys = true):yF l (xs ++ ys) = true:=by
 match xs,hl with
 | [],_=>exact h1
 | [r],_=>exact zaB (hg r List.mem_cons_self) hb h2
theorem zf3 {xs0 xs1 xs2 xs3:List Rw} (g0:∀ r ∈ xs0,grp r.k = 0) (g1:∀ r ∈ xs1,grp r.k = 1) (l1:xs1.length<=1) (g2:∀ r ∈ xs2,grp r.k = 2) (g3:∀ r ∈ xs3,grp r.k = 3) (l3:xs3.length<=1):yF 0 (xs0 ++ (xs1 ++ (xs2 ++ xs3))) = true:=by
 have h3:∀ l,l<=2->yF l xs3 = true:=fun l hl=>by
  have:=zcC (g:=3) (l:=l) (ys:=[]) l3 (by match l,hl with | 0,_=>rfl | 1,_=>rfl | 2,_=>rfl) g3 rfl rfl
  rwa [List.append_nil] at this
 have h2:∀ l,l<=1->yF l (xs2 ++ xs3) = true:=fun l hl=>u7 (g:=2) rfl xs2 xs3 l (by match l,hl with | 0,_=>rfl | 1,_=>rfl) g2 (h3 l (by omega)) (h3 2 (by omega))
 have h1:yF 0 (xs1 ++ (xs2 ++ xs3)) = true:=zcC (g:=1) l1 rfl g1 (h2 0 (by omega)) (h2 1 (by omega))
 exact u7 (g:=0) rfl xs0 _ 0 rfl g0 h1 h1
theorem zih {k:Nat} (hk:k < 5) (h:yl k = true):grp k = 0\/grp k = 2:=by
 rcases lt5 hk with rfl | rfl | rfl | rfl | rfl <;> first | (exact .inl rfl) | (exact .inr rfl) | (cases h)
theorem zcE {xs:List Rw} {g:Nat} (hg:∀ r ∈ xs,r.ok/\grp r.k = g) (h:g % 2 = 1):nms xs = []:=by
 unfold nms
 rw [List.filter_eq_nil_iff.mpr (fun r hr e=>?_)]
 ·rfl
 ·obtain ⟨ho,q⟩:=hg r hr
  rcases zih ho.1 e with z | z <;> rw [z] at q <;> rw [<- q] at h <;> cases h
structure FS where
 (P T G B:List Rw) (L:List Str)
structure FM (i:Nat) (S:FS):Prop where
 okP:∀ r ∈ S.P,r.ok/\grp r.k = 0
 okT:∀ r ∈ S.T,r.ok/\grp r.k = 1
 okG:∀ r ∈ S.G,r.ok/\grp r.k = 2
 okB:∀ r ∈ S.B,r.ok/\grp r.k = 3
 lT:S.T.length<=1
 lB:S.B.length<=1
 nd:(nms S.P ++ nms S.G).Nodup
 sn:∀ z ∈ nms S.P ++ nms S.G,z ∈ S.L
 ln:S.P.length + S.T.length + S.G.length + S.B.length<=i
 lL:S.L.length<=i
def FS.rows (S:FS):List Rw:=S.P ++ S.T ++ S.G ++ S.B
theorem FM.valid {i:Nat} {S:FS} {bars:List Str} (h:FM i S) (hi:i<=24) (lb:bars.length<=60) (bn:∀ z ∈ bars,yx z = true) (bd:bars.Nodup) (bl:∀ z ∈ bars,z ∉ S.L):xR S.rows bars:=by
 have en:nms S.rows = nms S.P ++ nms S.G:=by
  unfold FS.rows
  rw [x0,x0,x0,zcE h.okT rfl,zcE h.okB rfl,List.append_nil,List.append_nil]
 refine ⟨fun r hr=>?_,?_,lb,?_,bn,?_⟩
 ·unfold FS.rows at hr
  rw [List.mem_append,List.mem_append,List.mem_append] at hr
  rcases hr with ((hr | hr) | hr) | hr
  ·exact (h.okP r hr).1
  ·exact (h.okT r hr).1
  ·exact (h.okG r hr).1
  ·exact (h.okB r hr).1
 ·unfold FS.rows
  have:=h.ln
  simp only [List.length_append]
  omega
 ·unfold FS.rows
  rw [List.append_assoc,List.append_assoc]
  exact zf3 (fun r hr=>(h.okP r hr).2) (fun r hr=>(h.okT r hr).2) h.lT (fun r hr=>(h.okG r hr).2) (fun r hr=>(h.okB r hr).2) h.lB
 ·rw [en]
  exact List.nodup_append.mpr ⟨h.nd,bd,fun x hx y hy e=>bl y hy (e ▸ h.sn x hx)⟩
section
variable {H H' H'':Hp} {lg g0 g1 g2 g3 ll u:Addr} {S:FS} {r:Rw} {z:Str} {b:Bool} {us:List Addr}
end
structure VR (rows:List Rw):Prop where
 ok:∀ r ∈ rows,r.ok
 l24:rows.length<=24
 ord:yF 0 rows = true
 nd:(nms rows).Nodup
theorem FM.vr {i:Nat} {S:FS} (h:FM i S) (hi:i<=24):VR S.rows:=by
 have v:=h.valid (bars:=[]) hi (Nat.zero_le _) (fun _ h=>nomatch h) List.nodup_nil (fun _ h=>nomatch h)
 exact ⟨v.ok,v.l24,v.ord,by have:=v.nd; rwa [List.append_nil] at this⟩
section
variable {P:Program} {w:World} {K:Frag} {mg:Str->Option Value} {base:Heap} {f:Addr} {fd:FuncData}
end
theorem qD {r:Rw} (h:r.ok):atI (rv r) 0 = some (.str (kw r.k)):=by
 obtain ⟨k,z,b⟩:=r
 rcases lt5 h.1 with e | e | e | e | e <;> (cases e; rfl)
theorem xq {r:Rw} (h:r.ok):atI (rv r) 1 = some (.str r.z):=by
 obtain ⟨k,z,b⟩:=r
 rcases lt5 h.1 with e | e | e | e | e <;> (cases e; rfl)
theorem zfb {k:Nat} (h:k < 5):inV (.str (kw k)) [.str "both",.str "tag"] = yl k:=jT k h
section
variable {P:Program} {w:World} {K:Frag} {mg:Str->Option Value} {base:Heap} {f:Addr} {fd:FuncData}
def xk (c:Int):Int:=if V.int (c % 2) = V.int 0 then c / 2 % 41 - 20 else c / 2 % (2 * 10 ^ (60:Int).toNat - 1) - (10 ^ (60:Int).toNat - 1)
def qf:Sp:=fun vs H Q _=>∃ c:Int,vs = [.int c]/\Q (.int (xk c)) H
theorem zfK:zt ["_law_cell"] ["_law_cell"] (zh zbj):=⟨rfl,rfl,rfl,by decide +kernel,rfl,by decide +kernel,by decide +kernel⟩
theorem zeC (F:Fun K "_law_thing" "_law_thing" zbj f fd):zA P w K mg base CX0 1 f fd ["_law_cell"] qf:=by
 refine F.ok zfK (fun vs H Q E h=>?_) (fun cdv A outer s H vs Q E hr h=>?_)
 ·obtain ⟨c,rfl,_⟩:=h
  rfl
 obtain ⟨c,rfl,q⟩:=h
 unfold xk at q
 refine ⟨_,zj (zD (zi z5 (zq xm (pv 0) ze) ze (zr _)) (zd (zp (zq xL (zq xm (zq wX (pv 0) ze) ze) ze))) zu)
  (zd (zp (zq xL (zq xm (zq wX (pv 0) ze) (zq xL (zq xM ze (zq u9 ze ze)) ze)) (zq xL (zq u9 ze ze) ze)))),?_⟩
 refine ⟨_,rfl,_,_,rfl,rfl,(by show (0:Int) < 2; decide),rfl,_,rfl,?_⟩
 refine vI (fun h=>?_) (fun h=>?_)
 ·rw [if_pos (of_decide_eq_true h)] at q
  exact ⟨_,rfl,_,_,rfl,rfl,⟨by decide,by decide⟩,_,_,rfl,rfl,(by show (0:Int) < 41; decide),_,_,rfl,rfl,q⟩
 ·rw [if_neg (fun z=>h (decide_eq_true z))] at q
  exact ⟨_,rfl,_,_,rfl,rfl,⟨by decide,by decide⟩,_,_,rfl,rfl,⟨by decide,by decide,by decide⟩,_,_,rfl,rfl,.inl ⟨by decide,by decide⟩,_,_,rfl,rfl,_,_,rfl,rfl,(by show (0:Int) < 2 * 10 ^ Int.toNat 60 - 1; decide +kernel),_,_,rfl,rfl,⟨by decide,by decide,by decide⟩,_,_,rfl,rfl,_,_,rfl,rfl,q⟩
theorem xX:zt ["_law_items_here","_law_things","_law_pairs","_law_item"] ["_law_items_here"] (zh zbs):=⟨rfl,rfl,rfl,by decide +kernel,rfl,by decide +kernel,by decide +kernel⟩
theorem zeN (F:Fun K "_law_laid" "_law_laid" zbs f fd):zA P w K mg base CX0 1 f fd ["_law_items_here"] (qk K):=by
 refine F.ok xX (fun vs H Q E h=>?_) (fun cdv A outer s H vs Q E hr h=>?_)
 ·obtain ⟨a,c,xs,rfl,_⟩:=h
  rfl
 obtain ⟨a,c,xs,rfl,hS,hc,hT,hP,q⟩:=h
 refine ⟨_,zj (zw (i:=1) xX.nd rfl (Or.inl rfl) (zT zb)) (zj (zw (i:=2) xX.nd rfl (Or.inl rfl) (zT zb))
  (zj (yn PassesOwn.never rfl (zU (pv 0)) (zk (i:=3) xX.nd rfl (Or.inl rfl))
   (zd (zD (zi z5 (zo zF (pv 3) ze (fun _ _=>rfl)) zn (zr _)) (zd (zw (i:=1) xX.nd rfl (Or.inl rfl) (zq yG (pv 1) (zT (ac (zo zF (pv 3) ze (fun _ _=>rfl)) zb)))))
   (zd (zD (zi z5 (zo zF (pv 3) ze (fun _ _=>rfl)) zn (zr _)) (zd (zw (i:=1) xX.nd rfl (Or.inl rfl) (zq yG (pv 1) (zo zF (pv 3) ze (fun _ _=>rfl)))))
   (zd (zD (zi z5 (zo zF (pv 3) ze (fun _ _=>rfl)) zn (zr _)) (zd (zw (i:=2) xX.nd rfl (Or.inl rfl) (zq yG (pv 2) (zT (ac (zE (ac (zo zF (pv 3) ze (fun _ _=>rfl)) (ac (zo zF (pv 3) ze (fun _ _=>rfl)) zb))) zb)))))
   (zd (zw (i:=2) xX.nd rfl (Or.inl rfl) (zq yG (pv 2) (zo zF (pv 3) ze (fun _ _=>rfl))))))))))))
  (zd (zp (zE (ac (pv 1) (ac (pv 2) zb))))))),?_⟩
 refine ⟨zz0,fun l1 h1=>?_⟩
 refine ⟨zz0,fun l2 h2=>?_⟩
 have n12:l1 ≠ l2:=zf za h2
 have s0:zm H (upd (upd H l1 (.lst [])) l2 (.lst [])):=(zc h1 _).trans (zc h2 _)
 refine ⟨_,rfl,a,rfl,⟨_,s0.seq hS⟩,yJ (K:=K) (a:=a) (xs:=xs) (fun i σ H2=>∃ l1 l2 v3 ys,σ = [some (.ref a),some (.ref l1),some (.ref l2),v3]/\zm H H2/\H l1 = none/\H l2 = none/\l1 ≠ l2/\H2 l1 = some (.lst ((z8 (c.take i)).map V.int))/\H2 l2 = some (.lst ys)/\Paired (zO K T' H2 1) ys ((yf (c.take i)).map y4))
  ⟨l1,l2,_,[],rfl,s0,h1,(zc h1 _).free h2,n12,by rw [zg n12,za]; rfl,za,.nil⟩ (fun i σ H2 _ ⟨_,_,_,_,_,s2,_⟩=>s2.seq hS) ?_ ?_⟩
 ·rintro i y σ H2 hi ⟨l1,l2,v3,ys,rfl,s2,f1,f2,n12,g1,g2,gp⟩
  obtain ⟨d,hd,hy⟩:=Paired.get hc hi
  obtain ⟨it,hit,rfl⟩:=zfa hd
  have hy2:=hy.same s2
  have eT:=jh c i it hit
  have eP:=jj c i it hit
  have lT1:=ji c (i + 1)
  have lP1:=jk c (i + 1)
  have lys:ys.length = (yf (c.take i)).length:=by rw [gp.length,List.length_map]
  cases it with
  | one t=>
   obtain ⟨b,rfl,hb⟩:=zaT hy2
   have e1:(z8 (c.take (i + 1))).length = (z8 (c.take i)).length + 1:=by rw [eT,List.length_append]; rfl
   refine ⟨_,rfl,b,_,_,.str "one",rfl,rfl,hb,rfl,rfl,_,rfl,?_⟩
   refine dT rfl ?_
   refine ⟨_,rfl,_,rfl,b,_,_,.int t,rfl,rfl,hb,rfl,zz1,fun p hp=>?_⟩
   have sp:=zc hp (.lst [.int t])
   refine ⟨l1,p,_,_,rfl,rfl,sp _ _ g1,za,(by rw [List.length_map]; show _ + 1<=sizeLine; exact zY (by omega)),fun l3 h3=>?_⟩
   have s3:=sp.trans (zc h3 (.lst ((z8 (c.take i)).map V.int ++ [.int t])))
   refine ⟨l3,l2,_,ys,rfl,s2.trans s3,s2.free (sp.free h3),f2,(zf (sp _ _ g2) h3).symm,?_,s3 _ _ g2,?_⟩
   ·rw [za,eT,List.map_append]; rfl
   ·rw [eP]; show Paired _ _ ((yf (c.take i) ++ []).map y4); rw [List.append_nil]; exact yS s3 gp
  | row ts=>
   obtain ⟨b,bl,rfl,hb,_,hbl⟩:=zaS hy2
   have e1:(z8 (c.take (i + 1))).length = (z8 (c.take i)).length + ts.length:=by rw [eT,List.length_append]; rfl
   refine ⟨_,rfl,b,_,_,.str "row",rfl,rfl,hb,rfl,rfl,_,rfl,?_⟩
   refine dF ne1 ?_
   refine ⟨_,rfl,b,_,_,.str "row",rfl,rfl,hb,rfl,rfl,_,rfl,?_⟩
   refine dT rfl ?_
   refine ⟨_,rfl,_,rfl,b,_,_,.ref bl,rfl,rfl,hb,rfl,l1,bl,_,_,rfl,rfl,g1,hbl,(by rw [List.length_map,List.length_map]; exact zY (by omega)),fun l3 h3=>?_⟩
   have s3:=zc h3 (.lst ((z8 (c.take i)).map V.int ++ ts.map V.int))
   refine ⟨l3,l2,_,ys,rfl,s2.trans s3,s2.free h3,f2,(zf g2 h3).symm,?_,s3 _ _ g2,?_⟩
   ·rw [za,eT,List.map_append]; rfl
   ·rw [eP]; show Paired _ _ ((yf (c.take i) ++ []).map y4); rw [List.append_nil]; exact yS s3 gp
  | named z t=>
   obtain ⟨b,rfl,hb⟩:=jo hy2
   have e1:(yf (c.take (i + 1))).length = (yf (c.take i)).length + 1:=by rw [eP,List.length_append]; rfl
   refine ⟨_,rfl,b,_,_,.str "named",rfl,rfl,hb,rfl,rfl,_,rfl,?_⟩
   refine dF ne2 ?_
   refine ⟨_,rfl,b,_,_,.str "named",rfl,rfl,hb,rfl,rfl,_,rfl,?_⟩
   refine dF ne4 ?_
   refine ⟨_,rfl,b,_,_,.str "named",rfl,rfl,hb,rfl,rfl,_,rfl,?_⟩
   refine dT rfl ?_
   refine ⟨_,rfl,_,rfl,b,_,_,.str z,rfl,rfl,hb,rfl,_,rfl,b,_,_,.int t,rfl,rfl,hb,rfl,zz2,fun p hp=>?_⟩
   have sp:=zc hp (.tup [.str z,.int t])
   refine ⟨zz1,fun p2 hp2=>?_⟩
   have sp2:=sp.trans (zc hp2 (.lst [.ref p]))
   refine ⟨l2,p2,_,_,rfl,rfl,sp2 _ _ g2,za,(by rw [lys]; show _ + 1<=sizeLine; exact zY (by omega)),fun l3 h3=>?_⟩
   have s3:=sp2.trans (zc h3 (.lst (ys ++ [.ref p])))
   have hp3:=((zc hp2 (.lst [.ref p])).trans (zc h3 (.lst (ys ++ [.ref p])))) p (.tup [.str z,.int t]) za
   refine ⟨l1,l3,_,ys ++ [.ref p],rfl,s2.trans s3,f1,s2.free (sp2.free h3),zf (sp2 _ _ g1) h3,?_,za,?_⟩
   ·rw [s3 _ _ g1,eT]; show _ = some (HO.lst ((z8 (c.take i) ++ []).map V.int)); rw [List.append_nil]
   ·rw [eP,List.map_append]
    exact yI (yS s3 gp) (.cons (.tup (xs:=[.str z,.int t]) (SqT.of hp3) (.cons .str (.cons .int .nil))) .nil)
  | book ps=>
   obtain ⟨b,bl,zs,rfl,hb,_,hbl,hz⟩:=jS hy2
   have lz:zs.length = ps.length:=by rw [hz.length,List.length_map]
   have e1:(yf (c.take (i + 1))).length = (yf (c.take i)).length + ps.length:=by rw [eP,List.length_append]; rfl
   refine ⟨_,rfl,b,_,_,.str "book",rfl,rfl,hb,rfl,rfl,_,rfl,?_⟩
   refine dF ne3 ?_
   refine ⟨_,rfl,b,_,_,.str "book",rfl,rfl,hb,rfl,rfl,_,rfl,?_⟩
   refine dF ne5 ?_
   refine ⟨_,rfl,b,_,_,.str "book",rfl,rfl,hb,rfl,rfl,_,rfl,?_⟩
   refine dF ne6 ?_
   refine ⟨_,rfl,_,rfl,b,_,_,.ref bl,rfl,rfl,hb,rfl,l2,bl,_,_,rfl,rfl,g2,hbl,(by rw [lys,lz]; exact zY (by omega)),fun l3 h3=>?_⟩
   have s3:=zc h3 (.lst (ys ++ zs))
   refine ⟨l1,l3,_,ys ++ zs,rfl,s2.trans s3,f1,s2.free h3,zf g1 h3,?_,za,?_⟩
   ·rw [s3 _ _ g1,eT]; show _ = some (HO.lst ((z8 (c.take i) ++ []).map V.int)); rw [List.append_nil]
   ·rw [eP,List.map_append]
    exact yI (yS s3 gp) (yS s3 hz)
 ·rintro σ H2 ⟨l1,l2,v3,ys,rfl,s2,f1,f2,n12,g1,g2,gp⟩
  refine ⟨_,rfl,_,rfl,zz2,fun p hp=>?_⟩
  have hl:xs.length = c.length:=by rw [hc.length,List.length_map]
  rw [hl,List.take_length] at g1 gp
  have sp:=zc hp (.tup [.ref l1,.ref l2])
  exact q p _ (s2.trans sp) ⟨l1,l2,ys,f1,f2,n12,s2.free hp,za,sp _ _ g1,sp _ _ g2,yS sp gp⟩
end
section
variable {P:Program} {w:World} {K:Frag} {mg:Str->Option Value} {base:Heap} {f CF:Addr} {fd:FuncData} {c:C5} {m:MA}
def yL (names:List Str) (r:Rw):Bool:=yl r.k && decide (r.z ∈ names)
def yr (names:List Str) (r:Rw):Bool:=!fr r.k r.b && !yL names r
def vd (names:List Str) (rows:List Rw):Nat->Nat
 | 0=>0
 | n + 1=>match rows[n]? with
  | some r=>if yr names r = true then n + 1 else vd names rows n
  | none=>vd names rows n
def zg2 (c:C5) (CF:Addr):Sp:=fun vs H Q _=>∃ (f a:Addr) (rows:List Rw) (bars names:List Str),vs = [.ref f,.ref a]/\wC c CF H f rows bars/\H a = some (.lst (names.map V.str))/\∀ H',zm H H'->Q (.int (vd names rows (plN rows):Nat)) H'
theorem zct:zt ["form","names","parameters","number","parameter"] ["form","names"] (zh qB):=⟨rfl,rfl,rfl,by decide +kernel,rfl,by decide +kernel,by decide +kernel⟩
theorem zh6 {gP gL:Addr} {eP eL gb gf:FuncData} (F:Fun K "fewest_by_place" "fewest_by_place" qB f fd) (hrg:mg "range" = none) (hrv:mg "reversed" = none) (FK:FC K CF) (PP:Pcs K m c) (mP:y1 K CF "parameters" gP) (GP:zA P w K mg base CX0 1 gP eP ["self"] (vR c CF)) (bP:zV K eP ["self"] []) (mL:y1 K CF "places" gL) (GL:zA P w K mg base CX0 1 gL eL ["self"] (wg c CF)) (bL:zV K eL ["self"] [])
  (GB:zA P w K mg base CX0 1 m.fB gb ["self"] (uM K m bnL)) (bB:zV K gb ["self"] []) (GF:zA P w K mg base CX0 1 m.fF gf ["self"] (ql K m)) (bF:zV K gf ["self"] []):zA P w K mg base CX0 2 f fd ["form","names"] (zg2 c CF):=by
 refine F.ok zct (fun vs H Q E h=>?_) (fun cdv A outer s H vs Q E hr h=>?_)
 ·obtain ⟨f,a,rows,bars,names,rfl,_⟩:=h
  rfl
 obtain ⟨f,a,rows,bars,names,rfl,hF,ha,q⟩:=h
 have hB:∀ C,Cs5 c C->Cls K C/\y1 K C "by_name" m.fB:=fun C ⟨k,hk,e⟩=>by rw [e]; exact ⟨(PP k hk).cl,(PP k hk).mB⟩
 have hFr:∀ C,Cs5 c C->Cls K C/\y1 K C "free" m.fF:=fun C ⟨k,hk,e⟩=>by rw [e]; exact ⟨(PP k hk).cl,(PP k hk).mF⟩
 refine ⟨_,zj (zw (i:=2) zct.nd rfl (Or.inl rfl) (yC (pv 0) FK.cl mP GP hr bP .nil yh))
  (zj (yn PassesOwn.never rfl (zhT rfl hrg rfl hrv (ac (yC (pv 0) FK.cl mL GL hr bL .nil yh) zb)) (zk (i:=3) zct.nd rfl (Or.inl rfl))
   (zj (zw (i:=4) zct.nd rfl (Or.inl rfl) (zo zx (pv 2) (pv 3) (fun _ _=>rfl)))
   (zd (zD (PW.pt (yb (xy (yz (xK (pv 4) hFr GF hr bF yh))) (z4 (xy (PW.pt (yb (yz (xK (pv 4) hB GB hr bB yh)) (z4 (zi yK (yE (pv 4) rfl) (pv 1) (by with_unfolding_all rfl))))))))) (zd (zp (zq yc (pv 3) ze))) zu))))
  (zd (zp ze))),?_⟩
 obtain ⟨dx,fs,lr,lb,ld,ps0,h1,h2,h3,h4,h5,h6⟩:=id hF.at_
 have nmL:fs.lookup ("places" : Str) = none:=h2.no _ (by decide +kernel)
 have nmP:fs.lookup ("parameters" : Str) = none:=h2.no _ (by decide +kernel)
 have lpl:plN rows<=rows.length:=List.length_filter_le _ _
 refine ⟨_,rfl,f,dx,fs,rfl,h1,nmP,f,rows,bars,rfl,hF.at_,fun lp ps H1 s1 np ep hps=>?_⟩
 have lps:ps.length = rows.length:=hps.length
 have l5:=hF.lr
 refine ⟨_,rfl,f,dx,fs,rfl,s1 _ _ h1,nmL,f,rows,bars,rfl,hF.at_.same s1,plN rows,rfl,by omega,?_⟩
 refine zgF (n:=plN rows) (fun i σ H'=>∃ v3 v4,σ = [some (.ref f),some (.ref a),some (.ref lp),v3,v4]/\zm H1 H'/\i<=plN rows/\vd names rows (plN rows) = vd names rows (plN rows - i)) ⟨_,_,rfl,zm.refl _,Nat.zero_le _,rfl⟩ ?_ ?_
 ·rintro i σ H2 hi ⟨v3,v4,rfl,s2,_,hb⟩
  have ej:(plN rows:Int) - 1 - (i:Int) = ((plN rows - (i + 1):Nat):Int):=by omega
  rw [ej]
  obtain ⟨j,hj⟩:∃ j,plN rows - (i + 1) = j:=⟨_,rfl⟩
  have hj1:plN rows - i = j + 1:=by omega
  rw [hj]
  rw [hj1] at hb
  have hjr:j < rows.length:=by omega
  have hjp:j < ps.length:=by omega
  obtain ⟨r,hr',tp⟩:=yw hps (List.getElem?_eq_getElem hjp)
  have hb':vd names rows (plN rows) = if yr names r = true then j + 1 else vd names rows j:=by
   rw [hb]
   show (match rows[j]? with | some r=>if yr names r = true then j + 1 else vd names rows j | none=>vd names rows j) = _
   rw [hr']
  have rok:=hF.ok r (List.mem_of_getElem? hr')
  have C:=PP r.k rok.1
  refine ⟨_,rfl,_,rfl,lp,_,_,.ref ps[j],rfl,rfl,SqL.of (s2 _ _ ep),y8 (by rw [List.getElem?_map,List.getElem?_eq_getElem hjp]; rfl),?_⟩
  obtain ⟨dx',hdx⟩:=tp.same s2
  refine ⟨_,rfl,ps[j],_,dx',_,rfl,⟨r.k,rok.1,rfl⟩,hdx,vC (by decide +kernel) (by decide +kernel) (by decide +kernel),ps[j],dx',_,_,_,_,rfl,C,hdx,_,rfl,?_⟩
  have out:∀ (g:Bool) (b':Bool),yr names r = (g && b')->True:=fun _ _ _=>True.intro
  cases ef:fr r.k r.b with
  | true=>
   have en:yr names r = false:=by unfold yr; rw [ef]; rfl
   rw [en,if_neg Bool.false_ne_true] at hb'
   refine ym ?_
   refine ym ?_
   exact ⟨_,_,rfl,s2,by omega,hb'⟩
  | false=>
   refine yT ?_
   refine ⟨_,rfl,ps[j],_,dx',_,rfl,⟨r.k,rok.1,rfl⟩,hdx,vC (by decide +kernel) (by decide +kernel) (by decide +kernel),ps[j],dx',_,_,_,_,rfl,C,hdx,_,rfl,?_⟩
   rw [jT r.k rok.1]
   cases eb:yl r.k with
   | false=>
    have en:yr names r = true:=by unfold yr yL; rw [ef,eb]; rfl
    rw [en,if_pos rfl] at hb'
    refine ym ?_
    refine yT ?_
    refine ⟨_,rfl,_,_,rfl,rfl,?_⟩
    have:=q H2 (s1.trans s2)
    rw [hb'] at this
    exact this
   | true=>
    refine yT ?_
    refine ⟨_,rfl,ps[j],_,dx',_,_,rfl,hdx,C.cl,C.nN,wx,_,rfl,a,_,rfl,.inl (SqL.of (s2 _ _ (s1 _ _ ha))),rfl,yi,_,rfl,?_⟩
    have en:yr names r = !decide (r.z ∈ names):=by unfold yr yL; rw [ef,eb]; rfl
    rw [show (if false = true then !inV (V.str r.z) (names.map V.str) else inV (V.str r.z) (names.map V.str)) = decide (r.z ∈ names) from yd]
    by_cases hz:r.z ∈ names
    ·rw [en,decide_eq_true hz,if_neg (by decide)] at hb'
     rw [decide_eq_true hz]
     refine ym ?_
     exact ⟨_,_,rfl,s2,by omega,hb'⟩
    ·rw [en,decide_eq_false hz,if_pos (by decide)] at hb'
     rw [decide_eq_false hz]
     refine yT ?_
     refine ⟨_,rfl,_,_,rfl,rfl,?_⟩
     have:=q H2 (s1.trans s2)
     rw [hb'] at this
     exact this
 ·rintro σ H2 ⟨v3,v4,rfl,s2,_,hb⟩
  rw [Nat.sub_self] at hb
  have:=q H2 (s1.trans s2)
  rw [hb] at this
  exact this
end
theorem zfd {k:Nat} (h:k < 5):y0 k = decide (grp k = 0):=by rcases lt5 h with rfl | rfl | rfl | rfl | rfl <;> rfl
theorem zeu {rows:List Rw} (h:∀ r ∈ rows,y0 r.k = false):plN rows = 0:=by
 unfold plN
 rw [List.length_eq_zero_iff,List.filter_eq_nil_iff]
 exact fun r hr=>by rw [h r hr]; decide
theorem zaA:∀ (rows:List Rw) {l:Nat},0 < l->(∀ r ∈ rows,r.ok)->yF l rows = true->∀ r ∈ rows,y0 r.k = false
 | [],_,_,_,_,r,hr=>by cases hr
 | x :: xs,l,hl,hok,h,r,hr=>by
  have h':(!vi l (grp x.k) && yF (grp x.k) xs) = true:=h
  rw [Bool.and_eq_true,Bool.not_eq_true'] at h'
  have hb:=h'.1
  unfold vi at hb
  simp only [Bool.or_eq_false_iff,decide_eq_false_iff_not] at hb
  have hg : 0 < grp x.k:=by omega
  rcases List.mem_cons.mp hr with rfl | hr
  ·rw [zfd (hok _ List.mem_cons_self).1,decide_eq_false (by omega)]
  ·exact zaA xs hg (fun r hr=>hok r (List.mem_cons_of_mem _ hr)) h'.2 r hr
theorem zaj:∀ rows:List Rw,(∀ r ∈ rows,r.ok)->yF 0 rows = true->∃ A B,rows = A ++ B/\A.length = plN rows/\(∀ r ∈ A,grp r.k = 0)/\yF 0 B = true
 | [],_,_=>⟨[],[],rfl,rfl,(fun r hr=>by cases hr),rfl⟩
 | r :: rs,hok,h=>by
  have h':(!vi 0 (grp r.k) && yF (grp r.k) rs) = true:=h
  rw [Bool.and_eq_true,Bool.not_eq_true'] at h'
  by_cases hg:grp r.k = 0
  ·have h2:=h'.2
   rw [hg] at h2
   obtain ⟨A,B,e,hl,hA,hB⟩:=zaj rs (fun x hx=>hok x (List.mem_cons_of_mem _ hx)) h2
   refine ⟨r :: A,B,by rw [e]; rfl,?_,fun x hx=>?_,hB⟩
   ·have hp:y0 r.k = true:=by rw [zfd (hok r List.mem_cons_self).1,hg]; rfl
    unfold plN at hl |-
    rw [List.filter_cons,if_pos hp,List.length_cons,List.length_cons,hl]
   ·rcases List.mem_cons.mp hx with rfl | hx
    ·exact hg
    ·exact hA x hx
  ·refine ⟨[],r :: rs,rfl,?_,(fun x hx=>by cases hx),h⟩
   rw [zeu]
   ·rfl
   ·intro x hx
    rcases List.mem_cons.mp hx with rfl | hx
    ·rw [zfd (hok _ List.mem_cons_self).1,decide_eq_false hg]
    ·exact zaA rs (by omega) (fun x hx=>hok x (List.mem_cons_of_mem _ hx)) h'.2 x hx
theorem jd {rows:List Rw} {z:Str} (h:z ∈ nms rows):∃ (l:Nat) (r:Rw),rows[l]? = some r/\yl r.k = true/\r.z = z:=by
 unfold nms at h
 obtain ⟨r,hr,rfl⟩:=List.mem_map.mp h
 rw [List.mem_filter] at hr
 obtain ⟨l,hl⟩:=List.mem_iff_getElem?.mp hr.1
 exact ⟨l,r,hl,hr.2,rfl⟩
theorem up {rows:List Rw} (hok:∀ r ∈ rows,r.ok) (ho:yF 0 rows = true) {i:Nat} {r:Rw} (h:rows[i]? = some r):y0 r.k = decide (i < plN rows):=by
 obtain ⟨A,B,e,hl,hA,hB⟩:=zaj rows hok ho
 have hn:plN rows = plN A + plN B:=by
  unfold plN
  rw [e,List.filter_append,List.length_append]
 have hA2:plN A = A.length:=by
  unfold plN
  rw [List.filter_eq_self.mpr fun x hx=>?_]
  rw [zfd (hok x (by rw [e]; exact List.mem_append_left _ hx)).1,hA x hx]
  rfl
 have hB2:plN B = 0:=by omega
 have hB3:∀ x ∈ B,y0 x.k = false:=fun x hx=>by
  unfold plN at hB2
  rw [List.length_eq_zero_iff,List.filter_eq_nil_iff] at hB2
  have:=hB2 x hx
  simpa using this
 by_cases hi:i < plN rows
 ·rw [decide_eq_true hi]
  rw [e,List.getElem?_append_left (by omega)] at h
  have hm:=List.mem_of_getElem? h
  rw [zfd (hok r (by rw [e]; exact List.mem_append_left _ hm)).1,hA r hm]
  rfl
 ·rw [decide_eq_false hi]
  rw [e,List.getElem?_append_right (by omega)] at h
  exact hB3 r (List.mem_of_getElem? h)
theorem zdO {rows:List Rw} {bars:List Str} {many:Nat} {z:Str} (h:z ∉ bars) (hk:z ∉ nms rows):z3 rows bars many z = if (zy 4 0 rows).isSome = true then none else some ("strange" : Str):=by
 have hv:=xP (z:=z) rows 0 [] hk
 have e1:z3.lastD' z rows = none:=by unfold z3.lastD'; rw [hv]; rfl
 unfold z3
 rw [if_neg h,e1]
theorem zaL {many:Nat} {fk:List (Key × V)} {m:Str × Nat}:∀ (rows:List Rw) (i:Nat),m ∈ xh many fk i rows ↔ m.1 = "lacking"/\∃ j r,rows[j]? = some r/\m.2 = i + j/\yV r (i + j) many fk = true
 | [],i=>by simp [xh]
 | y :: ys,i=>by
  show m ∈ (if yV y i many fk = true then [(("lacking" : Str),i)] else []) ++ xh many fk (i + 1) ys ↔ _
  rw [List.mem_append,zaL ys (i + 1)]
  constructor
  ·rintro (h | ⟨h1,j,r,h2,h3,h4⟩)
   ·split at h
    next e=>
     have:m = (("lacking" : Str),i):=by simpa using h
     subst this
     exact ⟨rfl,0,y,rfl,rfl,e⟩
    ·cases h
   ·exact ⟨h1,j + 1,r,by simpa using h2,by omega,by rw [show i + (j + 1) = i + 1 + j by omega]; exact h4⟩
  ·rintro ⟨h1,j,r,h2,h3,h4⟩
   cases j with
   | zero=>
    have:y = r:=by simpa using h2
    subst this
    left
    rw [Nat.add_zero] at h4
    rw [if_pos h4]
    rw [List.mem_singleton]
    exact Prod.ext h1 h3
   | succ j=>
    right
    exact ⟨h1,j,r,by simpa using h2,by omega,by rw [show i + 1 + j = i + (j + 1) by omega]; exact h4⟩
def Nv (rows:List Rw) (bars names:List Str):Prop:=names.Nodup/\(∀ z ∈ names,z3 rows bars 0 z = none)/\∀ i r,rows[i]? = some r->plN rows<=i->fr r.k r.b = true\/yL names r = true
theorem wz {names:List Str} {r:Rw} {i many:Nat}:yV r i many (kvP (fpZ names)) = (yr names r && !(y0 r.k && decide (i < many))):=by
 rw [zgw,qP]
 unfold yr yL
 cases fr r.k r.b <;> cases y0 r.k <;> cases yl r.k <;> simp [Bool.and_comm]
theorem zcF {names:List Str} {r:Rw}:yr names r = false ↔ (fr r.k r.b = true\/yL names r = true):=by
 unfold yr
 cases fr r.k r.b <;> cases yL names r <;> simp
theorem zdN {rows:List Rw} {bars:List Str} {many:Nat} {z wd:Str} (h:z3 rows bars many z = some wd):wd ≠ "lacking":=by
 unfold z3 at h
 split at h
 ·cases h; decide +kernel
 ·split at h
  ·split at h
   ·cases h
   ·cases h; decide +kernel
  ·split at h
   ·cases h; decide +kernel
   ·cases h
theorem zag {rows:List Rw} {bars:List Str} {many:Nat} {z:Str} (V1:xR rows bars):z3 rows bars many z = none ↔ (z3 rows bars 0 z = none/\∀ l r,rows[l]? = some r->l < plN rows->l < many->yl r.k = true->r.z ≠ z):=by
 have nd:(nms rows).Nodup:=(List.nodup_append.mp V1.nd).1
 by_cases hb:z ∈ bars
 ·have e:∀ m,z3 rows bars m z = some ("barred" : Str):=fun m=>if_pos hb
  rw [e,e]
  simp
 ·by_cases hk:z ∈ nms rows
  ·obtain ⟨l,r,hl,hbn,he⟩:=jd hk
   have hlu:∀ l' r',rows[l']? = some r'->yl r'.k = true->r'.z = z->l' = l:=fun l' r' hl' hb' he'=>by
    have h1:=xQ hbn rows 0 l [] hl nd
    have h2:=xQ hb' rows 0 l' [] hl' nd
    rw [he] at h1
    rw [he',h1] at h2
    have:=V.int.inj (Option.some.inj h2)
    omega
   have w:∀ m,z3 rows bars m z = if l < min m (plN rows) then some ("again" : Str) else none:=fun m=>by
    rw [zcW,zdK nd hb hl hbn he]
    split
    ·rw [if_neg (by decide +kernel)]
    ·rw [if_pos rfl]
   rw [w,w]
   constructor
   ·intro h
    split at h
    ·cases h
    next hn=>
     refine ⟨by rw [if_neg (by omega)],fun l' r' hl' h1 h2 hb' he'=>?_⟩
     have:=hlu l' r' hl' hb' he'
     omega
   ·rintro ⟨_,h⟩
    rw [if_neg]
    intro hlt
    exact h l r hl (by omega) (by omega) hbn he
  ·rw [zdO hb hk,zdO hb hk]
   constructor
   ·intro h
    refine ⟨h,fun l r hl _ _ hbn he=>hk ?_⟩
    unfold nms
    exact List.mem_map.mpr ⟨r,List.mem_filter.mpr ⟨List.mem_of_getElem? hl,hbn⟩,he⟩
   ·exact fun h=>h.1
theorem jq {names:List Str} {rows:List Rw} {many:Nat}:∀ n,vd names rows n<=many ↔ ∀ i r,i < n->rows[i]? = some r->yr names r = true->i < many
 | 0=>by simp [vd]
 | n + 1=>by
  have ih:=jq (names:=names) (rows:=rows) (many:=many) n
  unfold vd
  split
  next r hr=>
   split
   next hn=>
    constructor
    ·intro h i _ hi _ _; omega
    ·intro h; exact h n r (by omega) hr hn
   next hn=>
    rw [ih]
    constructor
    ·intro h i r' hi hr' hn'
     by_cases e:i = n
     ·subst e
      rw [hr] at hr'
      cases hr'
      exact absurd hn' hn
     ·exact h i r' (by omega) hr' hn'
    ·exact fun h i r' hi=>h i r' (by omega)
  next hr=>
   rw [ih]
   constructor
   ·intro h i r' hi hr' hn'
    by_cases e:i = n
    ·subst e; rw [hr] at hr'; cases hr'
    ·exact h i r' (by omega) hr' hn'
   ·exact fun h i r' hi=>h i r' (by omega)
theorem ze3 {rows:List Rw} {bars names:List Str} {many:Nat} (V1:xR rows bars):z7 rows bars many names = [] ↔ (Nv rows bars names/\((zy 2 0 rows).isSome = true\/many<=plN rows)/\(∀ l r,rows[l]? = some r->l < plN rows->l < many->yL names r = false)/\vd names rows (plN rows)<=many):=by
 unfold z7 Nv
 rw [List.append_eq_nil_iff,List.append_eq_nil_iff,List.append_eq_nil_iff,zcR,wJ,zca,vZ,jq]
 constructor
 ·rintro ⟨⟨⟨h1,h2⟩,h3⟩,h4⟩
  have u:=fun z hz=>(zag (many:=many) V1).mp (h3 z hz)
  refine ⟨⟨h1,fun z hz=>(u z hz).1,fun i r hr hi=>?_⟩,h2,fun l r hr hl hm=>?_,fun i r hi hr hn=>?_⟩
  ·have:=h4 i r hr
   rw [wz,up V1.ok V1.ord hr,decide_eq_false (by omega),Bool.false_and,Bool.not_false,Bool.and_true] at this
   exact zcF.mp this
  ·rw [Bool.eq_false_iff]
   intro hb
   unfold yL at hb
   rw [Bool.and_eq_true,decide_eq_true_eq] at hb
   exact (u r.z hb.2).2 l r hr hl hm hb.1 rfl
  ·have:=h4 i r hr
   rw [wz,hn,Bool.true_and,up V1.ok V1.ord hr,decide_eq_true hi,Bool.true_and,Bool.not_eq_false',decide_eq_true_eq] at this
   omega
 ·rintro ⟨⟨h1,h2,h3⟩,h4,h5,h6⟩
  refine ⟨⟨⟨h1,h4⟩,fun z hz=>(zag V1).mpr ⟨h2 z hz,fun l r hr hl hm hb he=>?_⟩⟩,fun i r hr=>?_⟩
  ·have:=h5 l r hr hl hm
   unfold yL at this
   rw [hb,he,decide_eq_true hz] at this
   cases this
  ·rw [wz,Nat.zero_add]
   by_cases hi:i < plN rows
   ·rw [up V1.ok V1.ord hr,decide_eq_true hi,Bool.true_and]
    cases hn:yr names r
    ·rfl
    ·rw [decide_eq_true (h6 i r hi hr hn)]; rfl
   ·rw [zcF.mpr (h3 i r hr (by omega))]; rfl
end K33
namespace L2
open PySem PySem.Spec PyProof.Rows
section
variable {prog:Program} {w:World} {κ : Type} [DecidableEq κ] {knd:HeapKind prog w κ} {A:Around} {E:Value->Shared->Prop} {s:Shared}
end
section
variable {X:Cx} {P:Program} {w:World} {pos:Pos}
variable {o e1 e2:Expr} {td:TE} {ta:TA} {apos cpos:Pos}
end
def uu:Value->Str
 | .str z _=>z
 | _=>""
theorem vV {α : Type} [DecidableEq α]:∀ (zs ys:List α),zs.Nodup->(∀ z ∈ zs,z ∈ ys)->zs.length<=ys.length
 | [],_,_,_=>Nat.zero_le _
 | z :: zs,ys,h,hs=>by
  have hz:z ∈ ys:=hs z List.mem_cons_self
  have e:(ys.erase z).length = ys.length - 1:=List.length_erase_of_mem hz
  have l0 : 0 < ys.length:=List.length_pos_of_mem hz
  rw [List.nodup_cons] at h
  have ih:=vV zs (ys.erase z) h.2 fun y hy=>(List.mem_erase_of_ne (fun e:y = z=>h.1 (by rw [<- e]; exact hy))).mpr (hs y (List.mem_cons_of_mem _ hy))
  rw [List.length_cons]
  omega
theorem zan {P:Program} {w:World} {h:Heap} {a:Addr} {zs:List Str} {n:Nat} (hS:h.SetOf (strKind P w) a (fun z=>decide (z ∈ zs)) n) (nd:zs.Nodup):zs.length<=n:=by
 obtain ⟨o,es,ep,t,ho,hx,hd,he,hb,hf,hfi,hn⟩:=hS
 have:=vV zs (es.toList.map fun e=>uu e.2) nd fun z hz=>by
  obtain ⟨e,hm,hk⟩:=(hb z).mp (decide_eq_true hz)
  refine List.mem_map.mpr ⟨e,hm,?_⟩
  obtain ⟨tk,e2⟩:=Value.isStrOf_shape hk
  rw [e2]
  rfl
 rw [List.length_map] at this
 have e3:es.toList.length = es.size:=rfl
 omega
section
variable {X:Cx} {pins:List (Addr × Obj)} {σ : St} {H:Hp} {s:Shared} {ok:Addr->Prop}
end
def leS (a b:Str):Bool:=!ltCps b.cps.toList a.cps.toList
def uN (zs:List Str):List Str:=zs.mergeSort leS
theorem vF (a b:List Nat):ltCps a b = decide (a < b):=ltCps_eq a b
theorem zdl (a b:Str):(leS a b || leS b a) = true:=by
 unfold leS
 rw [vF,vF]
 by_cases h:b.cps.toList < a.cps.toList
 ·have:¬ a.cps.toList < b.cps.toList:=fun h2=>List.lt_asymm h h2
  simp [h,this]
 ·simp [h]
theorem jQ (a b c:Str) (h1:leS a b = true) (h2:leS b c = true):leS a c = true:=by
 unfold leS at *
 rw [vF] at *
 simp only [Bool.not_eq_true',decide_eq_false_iff_not,List.not_lt] at *
 exact List.le_trans h1 h2
theorem ze6 {a b:Str} (h1:leS a b = true) (h2:leS b a = true):a = b:=by
 unfold leS at *
 rw [vF] at *
 simp only [Bool.not_eq_true',decide_eq_false_iff_not,List.not_lt] at *
 have:=List.le_antisymm h1 h2
 cases a; cases b
 simp only [Str.mk.injEq] at *
 exact Array.ext' this
theorem vk (zs:List Str):(uN zs).Perm zs:=List.mergeSort_perm _ _
theorem zd4 (zs:List Str):(uN zs).Pairwise (fun a b=>leS a b = true):=List.pairwise_mergeSort jQ zdl zs
theorem jI:∀ (p:Str) (l:List Str),risingS p l = true->(p :: l).Pairwise (fun a b=>leS a b = true)
 | _,[],_=>List.pairwise_singleton _ _
 | p,x :: r,h=>by
  have h:(!ltCps x.cps.toList p.cps.toList && risingS x r) = true:=h
  rw [Bool.and_eq_true] at h
  have ih:=jI x r h.2
  refine List.pairwise_cons.mpr ⟨fun y hy=>?_,ih⟩
  rcases List.mem_cons.mp hy with rfl | hy
  ·exact h.1
  ·exact jQ p x y h.1 (List.rel_of_pairwise_cons ih hy)
theorem zbC:∀ (l:List Str),sortedS l = true->l.Pairwise (fun a b=>leS a b = true)
 | [],_=>List.Pairwise.nil
 | x :: r,h=>jI x r h
theorem zc1 {a b:List Str} (p:a.Perm b) (ha:a.Pairwise (fun a b=>leS a b = true)) (hb:b.Pairwise (fun a b=>leS a b = true)):a = b:=p.eq_of_pairwise (fun x y _ _ h1 h2=>ze6 h1 h2) ha hb
theorem zd5 {a b:List Str} (p:a.Perm b) (h:sortedS a = true):a = uN b:=zc1 (p.trans (vk b).symm) (zbC a h) (zd4 b)
theorem StrsAre.vals:∀ {us:List Value} {zs:List Str},StrsAre us zs->zS (zs.map V.str) us
 | _,_,.nil=>.nil
 | _,_,.cons n t h=>.cons ⟨t,rfl⟩ (StrsAre.vals h)
section
variable {X:Cx}
end
def vM (w:World):Bool:=w.params.followText "set-order"
def Gd (w:World) (es:Array (Int × Value)) (t:SetTable):Prop:=(es.toList.map fun e=>uu e.2).Nodup/\(vM w = true\/t.led = true)/\(t.plain = true->es.size = 0)
def xU (P:Program) (w:World) (h:Heap) (a:Addr) (S:Str->Bool) (n:Nat):Prop:=
 ∃ o es ep t,h.get? a = some o/\o.ExactSet/\o.data = .set es ep t/\ElemsOf (PySem.strKind P w) es.toList/\(∀ k,S k = true ↔ ∃ e ∈ es.toList,(PySem.strKind P w).is k e.2 = true)
 /\es.size < scanBound/\t.fits es.size = true/\es.size = n/\Gd w es t
theorem zbN (t:SetTable) (es:Array (Int × Value)) (h:Int) (x:Value):(layNew t es h x).2.1.led = t.led:=by
 unfold layNew
 split
 ·rename_i slot wd _
  show ((t.put slot).1.orStandIn _).led = t.led
  unfold SetTable.orStandIn
  split <;> rfl
 ·rfl
theorem qE (t:SetTable) (es:Array (Int × Value)) (k:Nat):(relayAll t es k).2.1.led = t.led:=by
 unfold relayAll
 split
 ·rename_i t' order hr
  dsimp only
  split
  ·unfold SetTable.relaid SetTable.laid at hr
   cases hq:SetTable.layClean (SetTable.sizeAbove k - 1) (es.map (·.1)) with
   | none=>rw [hq] at hr; cases hr
   | some ow=>rw [hq] at hr; injection hr with hr; injection hr with h1 h2; rw [<- h1]
  ·rfl
 ·rfl
theorem uY (t:SetTable) (es:Array (Int × Value)) (k:Nat) (h:t.plain = false):(relayAll t es k).2.1.plain = false:=by
 unfold relayAll
 split
 ·rename_i t' order hr
  dsimp only
  split
  ·unfold SetTable.relaid SetTable.laid at hr
   cases hq:SetTable.layClean (SetTable.sizeAbove k - 1) (es.map (·.1)) with
   | none=>rw [hq] at hr; cases hr
   | some ow=>rw [hq] at hr; injection hr with hr; injection hr with h1 h2; rw [<- h1]; exact h
  ·rfl
 ·rfl
section
variable {P:Program} {w:World} {A:Around} {E:Value->Shared->Prop} {s:Shared}
theorem za7 {g:Bool->Sem Unit} (hg:∀ (b:Bool) (s₁:Shared) (Q':Unit->Shared->Prop),Q' () s₁->wpAny (model P w) A (g b) Q' E s₁)
  {a:Addr} {o:Obj} {es:Array (Int × Value)} {ep:Nat} {t:SetTable} (ho:s.heap.get? a = some o) (hex:o.ExactSet) (hd:o.data = .set es ep t)
  {es1:Array (Int × Value)} {t2:SetTable} {S':Str->Bool} (hel1:ElemsOf (PySem.strKind P w) es1.toList) (hmem1:∀ k',S' k' = true ↔ ∃ e ∈ es1.toList,(PySem.strKind P w).is k' e.2 = true)
  (hb1:es1.size < scanBound) (hf2:t2.fits es1.size = true) (hnd:(es1.toList.map fun e=>uu e.2).Nodup) (hld:vM w = true\/t2.led = true) (hpl:t2.plain = false) {wasDummy:Bool} {R:Option Bool->Shared->Prop}
  (h:∀ h',Heap.SameBut a s.heap h'->xU P w h' a S' es1.size->R (some true) { s with heap:=h' }) :
  wpAny (model P w) A (do
    storeSet a es1 t2
    if (!wasDummy && t2.tooFull) = true then do
      g (relayAll t2 es1 (SetTable.grown es1.size)).2.2
      storeSet a (relayAll t2 es1 (SetTable.grown es1.size)).1 (relayAll t2 es1 (SetTable.grown es1.size)).2.1
      pure (some true)
     else pure (some true)) R E s:=by
 refine wpAny_bind (wpAny_storeSet_of ho hd ?_ (fits_of_scanBound hb1))
 obtain ⟨ho1,hS1⟩:=SetOf_store (knd:=PySem.strKind P w) ho hex hd hel1 hmem1 hb1 hf2
 have hsb1:=Heap.SameBut.update s.heap a (Obj.putSet es1 t2)
 split
 ·have hp:=relayAll_perm t2 es1 (SetTable.grown es1.size)
  have hfr:=relayAll_fits t2 es1 (SetTable.grown es1.size)
  have hl:=qE t2 es1 (SetTable.grown es1.size)
  have hpp:=uY t2 es1 (SetTable.grown es1.size) hpl
  generalize hRl:relayAll t2 es1 (SetTable.grown es1.size) = Rl at hp hfr hl hpp |-
  obtain ⟨es2,t3,gave2⟩:=Rl
  dsimp only at hp hfr hl hpp |-
  have hel2:ElemsOf (PySem.strKind P w) es2.toList:=hel1.perm hp
  have hmem2:∀ k',S' k' = true ↔ ∃ e ∈ es2.toList,(PySem.strKind P w).is k' e.2 = true:=fun k'=>(hmem1 k').trans ⟨fun ⟨e,he,q⟩=>⟨e,hp.mem_iff.mpr he,q⟩,fun ⟨e,he,q⟩=>⟨e,hp.mem_iff.mp he,q⟩⟩
  have hsz:es2.size = es1.size:=by rw [<- Array.length_toList,hp.length_eq,Array.length_toList]
  have hb2:es2.size < scanBound:=by rw [hsz]; exact hb1
  refine wpAny_bind (hg _ _ _ ?_)
  refine wpAny_bind (wpAny_storeSet_of ho1 rfl ?_ (fits_of_scanBound hb2))
  obtain ⟨hg2,_⟩:=SetOf_store (knd:=PySem.strKind P w) ho1 hex rfl hel2 hmem2 hb2 hfr
  exact wpAny_pure (h _ (hsb1.trans (Heap.SameBut.update _ a _)) ⟨_,es2,_,t3,hg2,hex,rfl,hel2,hmem2,hb2,hfr,hsz,(hp.map _).nodup_iff.mpr hnd,by rw [hl]; exact hld,fun e=>by rw [hpp] at e; cases e⟩)
 ·exact wpAny_pure (h _ hsb1 ⟨_,es1,_,t2,ho1,hex,rfl,hel1,hmem1,hb1,hf2,rfl,hnd,hld,fun e=>by rw [hpl] at e; cases e⟩)
theorem zfI {a:Addr} {S:Str->Bool} {n:Nat} {z:Str} {tk:Tok} {Q:Bool->Shared->Prop} (hS:xU P w s.heap a S n)
  (hroom:n + 1 < scanBound)
  (h:∀ h',Heap.SameBut a s.heap h'->xU P w h' a (fun k'=>S k' || decide (k' = z)) (if S z then n else n + 1)->Q (!S z) { s with heap:=h' }) :
  wpAny (model P w) A (setAddHashed a (.str z tk) ((PySem.strKind P w).hash z)) Q E s:=by
 have hkey:(PySem.strKind P w).is z (.str z tk) = true:=strKind_is _ _ _ _
 have hsc:(Value.str z tk).scannable = true:=rfl
 obtain ⟨o,es,ep,t,ho,hex,hd,hel,hmem,hb,hf,hn,hnd,hld,hpl⟩:=hS
 have hb1:es.size + 1 < scanBound:=by rw [hn]; exact hroom
 unfold setAddHashed setAddHashedIn
 refine wpAny_holding (wpAny_bind (wpAny_setState_of ho hd hf ?_))
 dsimp only
 rw [byScan_of hsc hb hel]
 simp only [↓reduceIte]
 unfold setAddByScan
 refine wpAny_bind ?_
 refine wpAny_bind (wpAny_rule ?_)
 refine wpAny_bind (wpAny_setScan_of hkey ho hd hf hel ?_)
 cases hr:List.findIdx? (fun e=>(PySem.strKind P w).is z e.2) es.toList with
 | some j=>
  dsimp only
  obtain ⟨hj,hpj,_⟩:=List.findIdx?_eq_some_iff_getElem.mp hr
  have hSk:S z = true:=(hmem z).mpr ⟨es.toList[j],List.getElem_mem hj,hpj⟩
  refine wpAny_pure (wpAny_pure ?_)
  have e:s = { s with heap:=s.heap }:=by cases s; rfl
  have:=h s.heap (Heap.SameBut.refl a s.heap) ⟨o,es,ep,t,ho,hex,hd,hel,fun k'=>by
   rw [Bool.or_eq_true,decide_eq_true_eq,<- hmem k']
   exact ⟨fun hk=>hk.elim id (fun e=>e ▸ hSk),.inl⟩,hb,hf,by rw [hSk]; exact hn,hnd,hld,hpl⟩
  rw [hSk] at this; rw [e]; exact this
 | none=>
  dsimp only
  have hSk:S z = false:=by
   cases hk:S z with
   | false=>rfl
   | true=>obtain ⟨e,he,hp⟩:=(hmem z).mp hk; have:=List.findIdx?_eq_none_iff.mp hr e he; rw [hp] at this; exact Bool.noConfusion this
  have hgw:∀ (b:Bool) {s₁:Shared} {Q':Unit->Shared->Prop},Q' () s₁->wpAny (model P w) A (match b with | true=>rule "set.scan.the-table-gave-way" | false=>pure ()) Q' E s₁:=
   fun b s₁ Q' hq=>by cases b <;> first | exact wpAny_pure hq | exact wpAny_rule hq
  have hperm:=layNew_perm t es ((PySem.strKind P w).hash z) (.str z tk)
  have hfits:=layNew_fits t es ((PySem.strKind P w).hash z) (.str z tk)
  have hled:=zbN t es ((PySem.strKind P w).hash z) (.str z tk)
  generalize hL:layNew t es ((PySem.strKind P w).hash z) (.str z tk) = L at hperm hfits hled |-
  obtain ⟨es1,t1,wasDummy,gave⟩:=L
  dsimp only at hperm hfits hled |-
  rw [Array.toList_push] at hperm
  have hel1:ElemsOf (PySem.strKind P w) es1.toList:=(hel.push hkey hsc).perm hperm
  have hmem1:∀ k',(S k' || decide (k' = z)) = true ↔ ∃ e ∈ es1.toList,(PySem.strKind P w).is k' e.2 = true:=mem_push_iff hkey hmem hperm
  have hb1':es1.size < scanBound:=by rw [<- Array.length_toList,hperm.length_eq,List.length_append,Array.length_toList]; simpa using hb1
  have hnd1:(es1.toList.map fun e=>uu e.2).Nodup:=by
   refine (hperm.map _).nodup_iff.mpr ?_
   rw [List.map_append,List.nodup_append]
   refine ⟨hnd,List.nodup_cons.mpr ⟨List.not_mem_nil,List.nodup_nil⟩,fun x hx y hy e=>?_⟩
   obtain ⟨e1,he1,rfl⟩:=List.mem_map.mp hx
   have hy:y = z:=by simpa [uu] using hy
   obtain ⟨⟨k1,hk1,_⟩,_⟩:=hel e1 he1
   obtain ⟨tk1,e3⟩:=Value.isStrOf_shape hk1
   have h2:(PySem.strKind P w).is z e1.2 = true:=by
    rw [e3] at e |-
    have:k1 = z:=e.trans hy
    rw [this]
    exact strKind_is _ _ _ _
   have h3:=List.findIdx?_eq_none_iff.mp hr e1 he1
   rw [h2] at h3
   cases h3
  refine wpAny_bind (hgw _ ?_)
  have hsz1:es1.size = n + 1:=by rw [<- Array.length_toList,hperm.length_eq,List.length_append,Array.length_toList,hn]; rfl
  have hend:∀ h',Heap.SameBut a s.heap h'->xU P w h' a (fun k'=>S k' || decide (k' = z)) es1.size->Q true { s with heap:=h' }:=by
   intro h' hsb hS'; have:=h h' hsb; rw [hSk] at this; rw [hsz1] at hS'; exact this hS'
  split
  ·refine wpAny_bind ?_
   rw [hashByValue_scannable 8 hsc]
   refine wpAny_pure ?_
   refine za7 ?_ ho hex hd hel1 hmem1 hb1' ?_ hnd1 ?_ ?_ ?_
   ·intro b s₁ Q' hq; cases b <;> first | exact wpAny_pure hq | exact wpAny_rule hq
   ·split
    ·exact hfits
    ·exact SetTable.fits_plain_off hfits
   ·split <;> (rw [show (vM w = true\/_) = _ from rfl]; exact hld.imp id fun e=>by simpa [hled] using e)
   ·rw [if_neg (show ¬ (plainKind (Value.str z tk) = true) from Bool.false_ne_true)]
   ·intro h' hsb hS'; dsimp only; exact wpAny_pure (hend h' hsb hS')
  ·rename_i hpf
   refine wpAny_bind (wpAny_pure ?_)
   simp only [↓reduceIte]
   refine za7 ?_ ho hex hd hel1 hmem1 hb1' hfits hnd1 ?_ ?_ ?_
   ·intro b s₁ Q' hq; cases b <;> first | exact wpAny_pure hq | exact wpAny_rule hq
   ·rw [hled]; exact hld
   ·simpa using hpf
   ·intro h' hsb hS'; dsimp only; exact wpAny_pure (hend h' hsb hS')
end
section
variable {P:Program} {w:World} {A:Around} {R:Result->Shared->Prop} {I:Addr} {fp wr:List Addr} {G:Array GenState->Array GenState->Prop} {n:Nat} {Pr:Nat->Value->Prop} {Sg:Nat->Shared->Prop}
theorem um (W:WalksS P w A.in1 I fp wr G n Pr Sg) (a:Addr) (ha:a ∉ fp) (val:Nat->Str) (hv:∀ i v,Pr i v->∃ t,v = .str (val i) t) (hb:n + 1 < scanBound) :
  ∀ (k i:Nat) (s:Shared) (T:Str->Bool) (c:Nat),n - i = k->i<=n->Sg i s->c<=i->xU P w s.heap a T c->
   (∀ s' c',Moved (a :: wr) G s s'->c'<=n->xU P w s'.heap a (seen val T i k) c'->R (.ok (.ret .none)) s')->
   codeAny (model P w) A (.builtin "set.update.loop" ⟨[.ref a,.ref I],[]⟩) R s
 | 0,i,s,T,c,hk,hi,hg,hc,hT,hR=>by
  have hw:a ∉ wr:=fun z=>ha (W.sub _ z)
  have ei:i = n:=by omega
  subst ei
  refine codeAny_builtin PyProof.Rows.F.entry_set_update_loop ?_; rw [Around.under_plainId PyProof.Rows.F.plain_set_update_loop _]
  show wpAny _ A.in1 (pyNext (.ref I) >>= _) _ _ _; refine wpAny_bind (W.done s _ _ hg fun s' hm=>?_)
  show wpAny _ A.in1 (ret Value.none) _ _ _; refine wpAny_pure (hR s' c (hm.mono fun b z=>List.mem_cons_of_mem _ z) hc ?_)
  obtain ⟨ob,es,ep,t,h1,h2⟩:=hT
  exact ⟨ob,es,ep,t,hm.heap a _ hw h1,h2⟩
 | k + 1,i,s,T,c,hk,hi,hg,hc,hT,hR=>by
  have hw:a ∉ wr:=fun z=>ha (W.sub _ z)
  have hlt:i < n:=by omega
  refine codeAny_builtin PyProof.Rows.F.entry_set_update_loop ?_; rw [Around.under_plainId PyProof.Rows.F.plain_set_update_loop _]
  show wpAny _ A.in1 (pyNext (.ref I) >>= _) _ _ _; refine wpAny_bind (W.item i s _ _ hlt hg fun v s' hP hg' hm=>?_)
  obtain ⟨t,rfl⟩:=hv i v hP
  have hT':xU P w s'.heap a T c:=by
   obtain ⟨ob,es,ep,tb,h1,h2⟩:=hT
   exact ⟨ob,es,ep,tb,hm.heap a _ hw h1,h2⟩
  show wpAny _ A.in1 (holding [Value.str (val i) t] (setAdd a (.str (val i) t)) >>= _) _ _ s'
  refine wpAny_bind (wpAny_holding ?_); unfold setAdd; refine wpAny_holding ?_
  refine wpAny_bind ((PySem.strKind P w).pyHash (k:=val i) (strKind_is _ _ _ _) ?_)
  refine zfI (s:={ s' with toks:=s'.toks + 1 }) hT' (by omega) fun h' hsb h3=>?_
  refine wpAny_pure ⟨plainId_quiet PyProof.Rows.F.plain_set_update_loop _,um W a ha val hv hb k (i + 1) _ _ _ (by omega) hlt (W.frame _ s' _ _ hg' (Nat.le_succ _) fun b hb' o e=>?_) (by split <;> omega) h3 fun s2 c2 hm2 hc2 h4=>?_⟩
  ·have:b ≠ a:=fun z=>ha (z ▸ hb')
   rw [hsb.2 b this]; exact e
  ·refine hR s2 c2 (Moved.trans W.gtrans ((hm.mono fun b z=>List.mem_cons_of_mem _ z).then_heap (Nat.le_succ _) fun b o hb' e=>?_) hm2) hc2 h4
   have:b ≠ a:=fun z=>hb' (z ▸ List.mem_cons_self)
   rw [hsb.2 b this]; exact e
end
theorem jA {P:Program} {w:World} {A:Around} {E:Value->Shared->Prop} {s:Shared} (a:Value) {Q₁:Value->Shared->Prop}
  (h:Q₁ (.ref s.heap.objs.size) { s with heap:=s.heap.push (xI (!vM w)) }) :
  codeAny (model P w) A (.call (.builtin "set.__new__") ⟨[.type "set",a],[]⟩) (wants Q₁ E) s:=by
 refine codeAny_of_tree ?_
 show wpAny _ A.in1 (do checkBuiltinCall "set.__new__" ⟨[.type "set",a],[]⟩; again (.builtin "set.__new__" ⟨[.type "set",a],[]⟩)) _ _ s
 refine wpAny_bind (wpAny_of_eq (PySem.F.newCall_set_1 a) (wpAny_pure ⟨plainId_quiet PySem.F.plain_set_new _,codeAny_builtin PySem.F.entry_set_new ?_⟩))
 rw [Around.under_plainId PySem.F.plain_set_new _]
 unfold Builtin.«set.__new__» Builtin.Frozenset.newClass
 have hsub:=PySem.sub_set_self
 obtain ⟨hp,g,d,tk,os⟩:=s
 dsimp only
 wp_walk
 refine wpAny_askSetting (wpAny_pure ?_)
 dsimp only
 simp only [newObj]
 refine wpAny_bind (wpAny_alloc (wpAny_pure ?_))
 exact wpAny_pure h
set_option maxHeartbeats 8000000 in
theorem za3 {P:Program} {w:World} {A:Around} {E:Value->Shared->Prop} {s:Shared} {l:Addr} {items:Array Value} {zs:List Str} {Q:Value->Shared->Prop}
  (hh:A.handled = none) (hl:s.heap.IsList l items) (hv:∀ (i:Nat) (v:Value),items[i]? = some v->∃ t,v = .str (zs.getD i "") t) (hb:items.size + 1 < scanBound)
  (h:∀ (h':Heap) (tk c:Nat),xU P w h' s.heap.objs.size (seen (fun i=>zs.getD i "") (fun _=>false) 0 items.size) c->(∀ b o,b < s.heap.objs.size->s.heap.get? b = some o->h'.get? b = some o)->Q (.ref s.heap.objs.size) { s with heap:=h',toks:=tk }) :
  wpAny (model P w) A (call (.type "set") [.ref l]) Q E s:=by
 obtain ⟨mc,mt,mro⟩:=PySem.F.called_set.mro
 have q1:=PySem.F.called_set.made; have q2:=PySem.F.called_set.sub; have q3:=PySem.F.called_set.notType; have q4:=PySem.F.called_set.canCreate; have q5:=PySem.F.typeCall_set_1 (.ref l)
 refine wpAny_call (codeAny_of_tree ?_); show wpAny _ _ (callAny (.type "set") _) _ _ _
 refine wpAny_pure ⟨Code.quiet_builtin _ (by decide +kernel),codeAny_builtin PySem.F.entry_type_call ?_⟩; rw [Around.under_plain (weight_type_call_type "set" [.ref l] []) rfl]
 repeat (any_goals first | assumption | wp_step)
 refine codeAny_mono (jA (.ref l) (E:=E) (Q₁:=fun obj s₁=>∃ led:Bool,(vM w = true\/led = true)/\obj = .ref s.heap.objs.size/\s₁ = { s with heap:=s.heap.push (xI led) }) ⟨!vM w,by cases vM w <;> simp,rfl,rfl⟩) fun r s₁ hr=>?_
 rcases r with e | (_ | _ | _ | obj)
 ·exact hr
 ·exact hr.elim
 ·exact hr.elim
 ·exact hr.elim
 ·obtain ⟨led,hled,rfl,rfl⟩:=hr
  have hS:(s.heap.push (xI led)).get? s.heap.objs.size = some (xI led):=Heap.get?_push_size _ rfl
  have hT:Shared.TypeIs { s with heap:=s.heap.push (xI led) } (.ref s.heap.objs.size) "set":=⟨_,hS,rfl⟩
  have q6:=PySem.F.called_set.init.lookup; have q7:=PySem.F.called_set.init.bind (.ref s.heap.objs.size)
  repeat (any_goals first | assumption | wp_step)
  refine codeAny_mono (codeAny_call_builtin (R:=wants (fun r s₂=>r = .none/\∃ h' tk c,s₂ = { s with heap:=h',toks:=tk }/\xU P w h' s.heap.objs.size (seen (fun i=>zs.getD i "") (fun _=>false) 0 items.size) c/\∀ b o,b < s.heap.objs.size->s.heap.get? b = some o->h'.get? b = some o) E) PySem.F.called_set.init.plain PySem.F.entry_set_init (check_set_init_1 hT ?_)) fun r₂ s₂ hr₂=>?_
  ·obtain ⟨ol,hol,hcl,nl,hdl⟩:=id hl
   obtain ⟨ocls,odict,odata,oslots⟩:=ol
   simp only at hcl hdl
   subst hcl hdl
   have hol':(s.heap.push (xI led)).get? l = _:=Heap.get?_push_of_some (xI led) hol
   have t1:=PySem.F.sub_list_set; have t2:=PySem.F.sub_list_frozenset
   have t3:(Value.type "list" == Value.type "dict") = false:=by decide
   have hl1:(s.heap.push (xI led)).IsList l items:=⟨_,hol',rfl,nl,rfl⟩
   have hlS:l < s.heap.objs.size:=Heap.lt_size hol
   unfold Builtin.«set.__init__» noKeywords Builtin.Frozenset.updateFrom
   generalize hq:pyIter = pit
   wp_walk
   subst hq
   refine wpAny_pyIter_list hl1 (wpAny_bind (wpAny_runValue ?_))
   have hz:(s.heap.push (xI led)).objs.size = s.heap.objs.size + 1:=Heap.size_push ..
   have n1:l ≠ (s.heap.push (xI led)).objs.size:=by rw [hz]; exact Nat.ne_of_lt (Nat.lt_succ_of_lt hlS)
   have n2:∀ b:Addr,b < s.heap.objs.size->b ∉ [s.heap.objs.size,(s.heap.push (xI led)).objs.size]:=fun b hb' z=>by
    rw [hz] at z
    rcases List.mem_cons.mp z with e | e
    ·exact Nat.ne_of_lt hb' e
    ·exact Nat.ne_of_lt (Nat.lt_succ_of_lt hb') (List.mem_singleton.mp e)
   have n3:s.heap.objs.size ∉ [(s.heap.push (xI led)).objs.size,l]:=fun z=>by
    rw [hz] at z
    rcases List.mem_cons.mp z with e | e
    ·exact Nat.ne_of_lt (Nat.lt_succ_self _) e
    ·exact Nat.ne_of_gt hlS (List.mem_singleton.mp e)
   refine um ((Walks.list (by simp [hh]) _ l n1 items).toS) s.heap.objs.size n3 (fun i=>zs.getD i "") hv hb items.size 0 _ (fun _=>false) 0 (by omega) (Nat.zero_le _) ⟨⟨_,Heap.get?_push_size _ rfl,rfl,rfl⟩,hl1.push _⟩ (Nat.le_refl _) ?_ ?_
   ·exact ⟨_,#[],0,_,Heap.get?_push_of_some _ hS,⟨rfl,rfl,rfl⟩,rfl,fun e he=>by simp at he,fun k=>by simp,by unfold scanBound; decide,by rfl,rfl,by simp,hled,fun _=>rfl⟩
   ·rintro ⟨h',g',d',tk',os'⟩ c' hm hc' hS'
    have e1:g' = s.gens:=hm.gens
    have e2:d' = s.drawn:=hm.drawn
    have e3:os' = s.os:=hm.os
    subst e1 e2 e3
    show wpAny _ _ _ _ _ _
    refine wpAny_pure ?_; show wpAny _ _ (ret Value.none) _ _ _
    refine wpAny_pure ⟨rfl,h',tk',c',rfl,hS',fun b o hb' e=>hm.heap b o (n2 b hb') (Heap.get?_push_of_some _ (Heap.get?_push_of_some _ e))⟩
  ·rcases r₂ with e | (_ | _ | _ | ob2)
   ·exact hr₂
   ·exact hr₂.elim
   ·exact hr₂.elim
   ·exact hr₂.elim
   ·obtain ⟨rfl,h',tk,c',rfl,hS',hk'⟩:=hr₂
    repeat (any_goals first | assumption | wp_step)
    exact h _ _ _ hS' hk'
theorem zb1 {M:Model} {A:Around} {E:Value->Shared->Prop} {s:Shared} {src:Source} {n:Nat} {Q:Nat->Shared->Prop} (hn:n ≠ 0) (h:∀ (i:Nat) (d:Drawn),i < n->Q i { s with drawn:=d }):wpAny M A (choose src n) Q E s:=
 fun Γ p hΓ=>⟨hn,h _ _ (Nat.mod_lt _ (Nat.pos_of_ne_zero hn))⟩
theorem x9 {α : Type}:∀ (xs:List α) (i:Nat) (hi:i < xs.length),(xs[i] :: xs.eraseIdx i).Perm xs
 | [],i,hi=>absurd hi (Nat.not_lt_zero _)
 | x :: xs,0,_=>List.Perm.refl _
 | x :: xs,i + 1,hi=>(List.Perm.swap _ _ _).trans (List.Perm.cons x (x9 xs i (Nat.lt_of_succ_lt_succ hi)))
theorem vh {M:Model} {A:Around} {E:Value->Shared->Prop} {α : Type}:∀ (n:Nat) (xs:List α) {s:Shared} {Q:List α->Shared->Prop},xs.length = n->(∀ (ys:List α) (d:Drawn),ys.Perm xs->Q ys { s with drawn:=d })->wpAny M A (drawOrder n xs) Q E s
 | 0,xs,s,Q,hl,h=>by
  have:xs = []:=List.eq_nil_of_length_eq_zero hl
  subst this
  exact wpAny_pure (h [] s.drawn (List.Perm.refl _))
 | n + 1,[],s,Q,hl,h=>by cases hl
 | n + 1,x :: xs,s,Q,hl,h=>by
  unfold drawOrder
  refine wpAny_bind (zb1 (by simp) fun i d hi=>?_)
  rw [List.getElem?_eq_getElem hi]
  dsimp only
  refine wpAny_bind (vh n _ (by rw [List.length_eraseIdx_of_lt hi,hl]; rfl) fun ys d' hp=>?_)
  exact wpAny_pure (h _ d' ((List.Perm.cons _ hp).trans (x9 _ _ hi)))
theorem uq {α : Type} (next:Nat->Nat):∀ (f k:Nat) (left:List α) (out:Array α),left.length = f->(pickOrder.go next f k left out).toList.Perm (out.toList ++ left)
 | 0,k,left,out,hl=>by
  have:left = []:=List.eq_nil_of_length_eq_zero hl
  subst this
  rw [List.append_nil]
  exact List.Perm.refl _
 | f + 1,k,left,out,hl=>by
  unfold pickOrder.go
  have hi:next k % left.length < left.length:=Nat.mod_lt _ (by omega)
  rw [List.getElem?_eq_getElem hi]
  dsimp only
  refine (uq next f (k + 1) _ _ (by rw [List.length_eraseIdx_of_lt hi,hl]; rfl)).trans ?_
  rw [Array.toList_push,List.append_assoc]
  exact List.Perm.append_left _ (x9 _ _ hi)
theorem jK {α : Type} (next:Nat->Nat) (xs:Array α):(pickOrder next xs).toList.Perm xs.toList:=by
 have:=uq next xs.size 0 xs.toList #[] rfl
 simpa [pickOrder] using this
namespace FS
theorem zaz:Manifest.owners.lookup (String.ofList ['r','o','t','a','r','e','t','i','_','t','e','s'].reverse) = some Manifest.sig_set_iterator:=by kernel_rfl
theorem zfE:Slot "set_iterator" "__next__" "set_iterator.__next__":=
 .of (owner:="set_iterator") (n:="__next__") (by rw [typeLookup_type,builtinLookup_eq_fast]; kernel_rfl) (by decide +kernel) (by decide +kernel) (by decide +kernel)
  (by first | exact .inl (by decide +kernel) | exact .inr (by decide +kernel)) (by rw [isSubtype_type]; kernel_rfl)
theorem zfx:entryFor table "set_iterator.__next__" = some Builtin.«set_iterator.__next__»:=entryFor_of_tree (by kernel_rfl)
theorem zgM (a:Value):argsOk "set_iterator.__next__" ⟨[a],[]⟩:=by
 unfold argsOk; rw [signature?_of (id:="set_iterator.__next__") (n:=['_','_','t','x','e','n','_','_']) (o:=['r','o','t','a','r','e','t','i','_','t','e','s']) (by kernel_rfl) zaz]; kernel_rfl
theorem zfF:Slot "set_iterator" "__iter__" "set_iterator.__iter__":=
 .of (owner:="set_iterator") (n:="__iter__") (by rw [typeLookup_type,builtinLookup_eq_fast]; kernel_rfl) (by decide +kernel) (by decide +kernel) (by decide +kernel)
  (by first | exact .inl (by decide +kernel) | exact .inr (by decide +kernel)) (by rw [isSubtype_type]; kernel_rfl)
theorem zgN (a:Value):argsOk "set_iterator.__iter__" ⟨[a],[]⟩:=by
 unfold argsOk; rw [signature?_of (id:="set_iterator.__iter__") (n:=['_','_','r','e','t','i','_','_']) (o:=['r','o','t','a','r','e','t','i','_','t','e','s']) (by kernel_rfl) zaz]; kernel_rfl
theorem zfy:entryFor table "set_iterator.__iter__" = some Builtin.«dict_keyiterator.__iter__»:=
 entryFor_alias (id':="dict_keyiterator.__iter__") (by kernel_rfl) (by first | rfl | decide +kernel | (unfold String.splitOn; simp +decide [String.splitOnAux])) (by decide +kernel) (by kernel_rfl)
theorem zfk:entryFor table "set.__iter__" = some Builtin.«frozenset.__iter__»:=
 entryFor_alias (id':="frozenset.__iter__") (by kernel_rfl) (by first | rfl | decide +kernel | (unfold String.splitOn; simp +decide [String.splitOnAux])) (by decide +kernel) (by kernel_rfl)
end FS
def vP (h:Heap) (I:Addr) (f:Value) (i:Nat) (a:Addr) (n ep:Nat):Prop:=∃ o,h.get? I = some o/\o.cls = .type "set_iterator"/\o.data = .fields #[f,.int i 0,.ref a,.int n 0,.int ep 0]
theorem vP.typeIs {s:Shared} {I:Addr} {f:Value} {i:Nat} {a:Addr} {n ep:Nat} (x:vP s.heap I f i a n ep):s.TypeIs (.ref I) "set_iterator":=let ⟨o,ho,hc,_⟩:=x; ⟨o,ho,hc⟩
theorem vP.at {h h':Heap} {I:Addr} {f:Value} {i:Nat} {a:Addr} {n ep:Nat} (x:vP h I f i a n ep) (e:∀ o,h.get? I = some o->h'.get? I = some o):vP h' I f i a n ep:=let ⟨o,ho,r⟩:=x; ⟨o,e _ ho,r⟩
section
variable {P:Program} {w:World} {A:Around} {E:Value->Shared->Prop} {s:Shared}
theorem y3 {a:Addr} {o:Obj} {es:Array (Int × Value)} {ep:Nat} {t:SetTable} {Q:Array (Int × Value)->Shared->Prop}
  (ho:s.heap.get? a = some o) (hd:o.data = .set es ep t) (hf:t.fits es.size = true) (h:Q es s) :
  wpAny (model P w) A (setEntries a) Q E s:=by
 unfold setEntries
 exact wpAny_bind (wpAny_setState_of ho hd hf (wpAny_pure h))
end
end L2
namespace L2
open PySem PySem.Spec PyProof.Rows
section
variable {P:Program} {w:World} {A:Around} {E:Value->Shared->Prop} {s:Shared}
theorem uG {h:Heap} {I:Addr} {o:Obj} {vs:Array Value} (k:Nat) (x:Value) (ho:h.get? I = some o) (hd:o.data = .fields vs) :
  (h.update I (Obj.mapFields (·.setIfInBounds k x))).get? I = some (Obj.mapFields (·.setIfInBounds k x) o)/\(Obj.mapFields (·.setIfInBounds k x) o).data = .fields (vs.setIfInBounds k x)/\(Obj.mapFields (·.setIfInBounds k x) o).cls = o.cls:=
 ⟨Heap.get?_update_self _ ho (Obj.isFreed_of_fields (Obj.data_mapFields hd _)),Obj.data_mapFields hd _,Obj.cls_mapFields ..⟩
theorem zcp {I:Addr} {Q:Option Value->Shared->Prop} {h0:Heap} (hh:A.handled = none) (hQ:∀ h',Heap.ExtBut I h0 h'->Q none { s with heap:=h' }) (hx:Heap.ExtBut I h0 s.heap) :
  wpAny (model P w) A.in1 (do let e <- newExc (.type "StopIteration") []; raiseNew e:Sem Fin) (fun fin s'=>∃ v,fin = Fin.done (Flow.ret v)/\wpAny (model P w) A (pure (some v)) Q E s')
   (fun e s'=>wpAny (model P w) A (do let r <- isInstance e (Value.type "StopIteration"); if r = true then pure none else throw e) Q E s') s:=by
 refine wpAny_bind ?_
 simp only [newExc,newTuple]
 refine wpAny_bind (wpAny_newObj_type ?_ (by size_fits))
 refine wpAny_bind (m:=firstArgMember _ _) (wpAny_of_eq (a:=Value.none) (by first | rfl | (simp only [firstArgMember]; rfl)) ?_)
 refine wpAny_newObj_type ?_ (by size_fits)
 simp only [raiseNew]
 refine wpAny_bind (wpAny_handled ?_)
 rw [show A.in1.handled = none from hh]
 refine wpAny_bind (wpAny_pure (wpAny_throw ?_))
 refine wpAny_bind (wpAny_isInstance (T:="StopIteration") (b:=true) ⟨_,Heap.get?_push_size _ rfl,rfl⟩ isSubtype_stop ?_)
 exact wpAny_pure (hQ _ ((hx.push _).push _))
theorem zfG {I:Addr} {a:Addr} {n ep i:Nat} {o:Obj} {es:Array (Int × Value)} {t:SetTable} {x:Value} {sl:Nat->Nat} {Q:Option Value->Shared->Prop} (hn:es.size = n)
  (hit:vP s.heap I (.int (sl i) 0) i a n ep) (ho:s.heap.get? a = some o) (hd:o.data = .set es ep t) (hf:t.fits es.size = true)
  (hN:∀ (Q':Option (Value × Nat)->Shared->Prop) (E':Value->Shared->Prop),Q' (some (x,sl (i + 1))) s->wpAny (model P w) A.in1 (setNext a (sl i) i ep) Q' E' s)
  (hQ:∀ h',vP h' I (.int (sl (i + 1)) 0) (i + 1) a n ep->Heap.SameBut I s.heap h'->Q (some x) { s with heap:=h' }) :
  wpAny (model P w) A (pyNext (.ref I)) Q E s:=by
 obtain ⟨ob,hob,hc,hdb⟩:=id hit
 unfold pyNext
 refine wpAny_bind (wpAny_attempt (wpAny_callSpecial?_slot (name:=Str.ofString "__next__") hit.typeIs FS.zfE
  (wpAny_call_entry FS.zfE hit.typeIs FS.zfx ?_ (FS.zgM _))))
 unfold Builtin.«set_iterator.__next__»
 show wpAny _ _ (fieldsOf (.ref I) >>= _) _ _ s
 refine wpAny_bind (wpAny_fieldsOf hob hdb ?_)
 dsimp only
 refine wpAny_bind (y3 ho hd hf ?_)
 rw [if_neg (by rw [hn]; simp)]
 simp only [Int.toNat_natCast]
 refine wpAny_bind (hN _ _ ?_)
 dsimp only
 refine wpAny_bind (wpAny_setField hob hdb (by simp) ?_)
 obtain ⟨e1,e2,e3⟩:=uG 0 (rawInt (sl (i + 1))) hob hdb
 refine wpAny_bind (wpAny_setField e1 e2 (by simp) ?_)
 obtain ⟨e4,e5,e6⟩:=uG 1 (rawInt ((i:Int) + 1)) e1 e2
 exact wpAny_pure ⟨x,rfl,wpAny_pure (hQ _ ⟨_,e4,e6.trans (e3.trans hc),by rw [e5]; simp [rawInt]⟩ ((Heap.SameBut.update ..).trans (Heap.SameBut.update ..)))⟩
theorem zhr {I:Addr} {a:Addr} {n ep i:Nat} {o:Obj} {es:Array (Int × Value)} {t:SetTable} {sl:Nat->Nat} {Q:Option Value->Shared->Prop} (hh:A.handled = none) (hn:es.size = n)
  (hit:vP s.heap I (.int (sl i) 0) i a n ep) (ho:s.heap.get? a = some o) (hd:o.data = .set es ep t) (hf:t.fits es.size = true)
  (hN:∀ (Q':Option (Value × Nat)->Shared->Prop) (E':Value->Shared->Prop),Q' none s->wpAny (model P w) A.in1 (setNext a (sl i) i ep) Q' E' s)
  (hQ:∀ h',Heap.ExtBut I s.heap h'->Q none { s with heap:=h' }) :
  wpAny (model P w) A (pyNext (.ref I)) Q E s:=by
 obtain ⟨ob,hob,hc,hdb⟩:=id hit
 unfold pyNext
 refine wpAny_bind (wpAny_attempt (wpAny_callSpecial?_slot (name:=Str.ofString "__next__") hit.typeIs FS.zfE
  (wpAny_call_entry FS.zfE hit.typeIs FS.zfx ?_ (FS.zgM _))))
 unfold Builtin.«set_iterator.__next__»
 show wpAny _ _ (fieldsOf (.ref I) >>= _) _ _ s
 refine wpAny_bind (wpAny_fieldsOf hob hdb ?_)
 dsimp only
 refine wpAny_bind (y3 ho hd hf ?_)
 rw [if_neg (by rw [hn]; simp)]
 simp only [Int.toNat_natCast]
 refine wpAny_bind (hN _ _ ?_)
 dsimp only
 refine wpAny_bind (wpAny_setField hob hdb (by simp) ?_)
 exact zcp hh hQ (Heap.SameBut.update ..).extBut
theorem zfJ {I:Addr} {a tu:Addr} {n ep i j:Nat} {o ot:Obj} {es:Array (Int × Value)} {t:SetTable} {x:Value} {ps:Array Value} {pn:Nat} {hx:Int} {Q:Option Value->Shared->Prop} (hn:es.size = n)
  (hit:vP s.heap I (.ref tu) i a n ep) (ho:s.heap.get? a = some o) (hd:o.data = .set es ep t) (hf:t.fits es.size = true) (hot:s.heap.get? tu = some ot) (hdt:ot.data = .seq ps pn) (hp:ps[i]? = some (.int j 0)) (hj:es[j]? = some (hx,x))
  (hQ:∀ h',vP h' I (.ref tu) (i + 1) a n ep->Heap.SameBut I s.heap h'->Q (some x) { s with heap:=h' }) :
  wpAny (model P w) A (pyNext (.ref I)) Q E s:=by
 obtain ⟨ob,hob,hc,hdb⟩:=id hit
 unfold pyNext
 refine wpAny_bind (wpAny_attempt (wpAny_callSpecial?_slot (name:=Str.ofString "__next__") hit.typeIs FS.zfE
  (wpAny_call_entry FS.zfE hit.typeIs FS.zfx ?_ (FS.zgM _))))
 unfold Builtin.«set_iterator.__next__»
 show wpAny _ _ (fieldsOf (.ref I) >>= _) _ _ s
 refine wpAny_bind (wpAny_fieldsOf hob hdb ?_)
 dsimp only
 refine wpAny_bind (y3 ho hd hf ?_)
 rw [if_neg (by rw [hn]; simp)]
 refine wpAny_bind (wpAny_seqItems hot hdt ?_)
 simp only [Int.toNat_natCast,hp]
 unfold setNextDrawn
 refine wpAny_bind (wpAny_bind (wpAny_setState_of ho hd hf ?_))
 dsimp only
 rw [if_neg (by simp),hj]
 dsimp only
 refine wpAny_pure ?_
 refine wpAny_bind (wpAny_setField hob hdb (by simp) ?_)
 obtain ⟨e1,e2,e3⟩:=uG 1 (rawInt ((i:Int) + 1)) hob hdb
 exact wpAny_pure ⟨x,rfl,wpAny_pure (hQ _ ⟨_,e1,e3.trans hc,by rw [e2]; simp [rawInt]⟩ (Heap.SameBut.update ..))⟩
theorem zhs {I:Addr} {a tu:Addr} {n ep i:Nat} {o ot:Obj} {es:Array (Int × Value)} {t:SetTable} {ps:Array Value} {pn:Nat} {Q:Option Value->Shared->Prop} (hh:A.handled = none) (hn:es.size = n)
  (hit:vP s.heap I (.ref tu) i a n ep) (ho:s.heap.get? a = some o) (hd:o.data = .set es ep t) (hf:t.fits es.size = true) (hot:s.heap.get? tu = some ot) (hdt:ot.data = .seq ps pn) (hp:ps[i]? = none)
  (hQ:∀ h',Heap.ExtBut I s.heap h'->Q none { s with heap:=h' }) :
  wpAny (model P w) A (pyNext (.ref I)) Q E s:=by
 obtain ⟨ob,hob,hc,hdb⟩:=id hit
 unfold pyNext
 refine wpAny_bind (wpAny_attempt (wpAny_callSpecial?_slot (name:=Str.ofString "__next__") hit.typeIs FS.zfE
  (wpAny_call_entry FS.zfE hit.typeIs FS.zfx ?_ (FS.zgM _))))
 unfold Builtin.«set_iterator.__next__»
 show wpAny _ _ (fieldsOf (.ref I) >>= _) _ _ s
 refine wpAny_bind (wpAny_fieldsOf hob hdb ?_)
 dsimp only
 refine wpAny_bind (y3 ho hd hf ?_)
 rw [if_neg (by rw [hn]; simp)]
 refine wpAny_bind (wpAny_seqItems hot hdt ?_)
 simp only [Int.toNat_natCast,hp]
 refine wpAny_bind (wpAny_setField hob hdb (by simp) ?_)
 obtain ⟨e1,e2,e3⟩:=uG 0 (rawInt 0) hob hdb
 refine wpAny_bind (wpAny_setField e1 e2 (by simp) ?_)
 exact zcp hh hQ ((Heap.SameBut.update ..).trans (Heap.SameBut.update ..)).extBut
theorem w6 {Q:Bool->Shared->Prop} (h:Q (vM w) s):wpAny (model P w) A setsByText Q E s:=by
 unfold setsByText
 refine wpAny_bind (wpAny_askSetting (wpAny_pure ?_))
 exact h
theorem zc2 {a:Addr} {o:Obj} {es:Array (Int × Value)} {ep i:Nat} {t:SetTable} (ho:s.heap.get? a = some o) (hd:o.data = .set es ep t) (hf:t.fits es.size = true) (hb:vM w = true) (Q:Option (Value × Nat)->Shared->Prop)
  (h:Q (((pickOrder (w.params.setOrder a ep) es)[i]?).map fun e=>(e.2,0)) s):wpAny (model P w) A (setNext a 0 i ep) Q E s:=by
 unfold setNext
 refine wpAny_bind (wpAny_setState_of ho hd hf ?_)
 dsimp only
 refine wpAny_bind (w6 ?_)
 rw [if_pos hb,if_neg (by simp)]
 unfold setWalk
 refine wpAny_bind (wpAny_bind (wpAny_setState_of ho hd hf ?_))
 dsimp only
 refine wpAny_bind (w6 ?_)
 rw [if_pos hb]
 refine wpAny_bind (wpAny_askSetting (wpAny_pure ?_))
 exact wpAny_pure h
theorem zc3 {a:Addr} {o:Obj} {es:Array (Int × Value)} {ep i sl:Nat} {t:SetTable} (ho:s.heap.get? a = some o) (hd:o.data = .set es ep t) (hf:t.fits es.size = true) (hb:vM w = false) (hl:t.led = true) (h1:es.size<=1) (Q:Option (Value × Nat)->Shared->Prop)
  (h:Q (match es[SetTable.below t.place sl]?,t.place[SetTable.below t.place sl]? with | some (_,x),some j=>some (x,j + 1) | _,_=>none) s):wpAny (model P w) A (setNext a sl i ep) Q E s:=by
 unfold setNext
 refine wpAny_bind (wpAny_setState_of ho hd hf ?_)
 dsimp only
 refine wpAny_bind (w6 ?_)
 rw [if_neg (by rw [hb]; decide)]
 show wpAny _ _ (if (!t.plain && decide (es.size > 1)) = true then _ else _) _ _ _
 rw [if_neg (by simp; omega)]
 show wpAny _ _ ((if (!t.led && !es.isEmpty) = true then unsupported "set:maker-not-led" else pure ()) >>= _) _ _ _
 rw [if_neg (by simp [hl])]
 exact wpAny_bind (wpAny_pure (wpAny_pure h))
theorem zcq {I:Addr} {f:Value} {i:Nat} {a:Addr} {n ep:Nat} {Q:Value->Shared->Prop} (hit:vP s.heap I f i a n ep) (h:Q (.ref I) s):wpAny (model P w) A (pyIter (.ref I)) Q E s:=by
 refine wpAny_pyIter_slot hit.typeIs FS.zfF (wpAny_call_entry FS.zfF hit.typeIs FS.zfy ?_ (FS.zgN _))
 show wpAny _ _ (ret (.ref I)) _ _ s
 exact wpAny_pure ⟨_,rfl,"set_iterator",_,hit.typeIs,FS.zfE.lookup,h⟩
theorem zad (hh:A.handled = none) {I a:Addr} (hne:a ≠ I) {o:Obj} {es:Array (Int × Value)} {ep:Nat} {t:SetTable} (hd:o.data = .set es ep t) (hf:t.fits es.size = true) (vs:List Value) (hvs:vs.length = es.size) (sl:Nat->Nat)
  (hN:∀ (i:Nat) (s:Shared) (Q':Option (Value × Nat)->Shared->Prop) (E':Value->Shared->Prop),i<=vs.length->s.heap.get? a = some o->Q' ((vs[i]?).map fun v=>(v,sl (i + 1))) s->wpAny (model P w) A.in1 (setNext a (sl i) i ep) Q' E' s) :
  Walks P w A I [I,a] [I] vs.length (fun i v=>vs[i]? = some v) (fun i h=>i<=vs.length/\vP h I (.int (sl i) 0) i a es.size ep/\h.get? a = some o) where
 sub:=fun b hb=>by simp at hb; simp [hb]
 frame:=fun _ _ _ st hk=>⟨st.1,st.2.1.at fun o e=>hk I (by simp) o e,hk a (by simp) o st.2.2⟩
 item:=fun i s Q E hi st hQ=>by
  refine zfG (x:=vs[i]) rfl st.2.1 st.2.2 hd hf (fun Q' E' q=>hN i s Q' E' (Nat.le_of_lt hi) st.2.2 (by rw [List.getElem?_eq_getElem hi]; exact q)) fun h' hit' hs'=>?_
  exact hQ _ h' s.toks (List.getElem?_eq_getElem hi) ⟨hi,hit',hs'.extBut a o hne st.2.2⟩ fun b o hb e=>hs'.extBut b o (fun h=>hb (by simp [h])) e
 done:=fun s Q E st hQ=>zhr hh rfl st.2.1 st.2.2 hd hf (fun Q' E' q=>hN _ s Q' E' (Nat.le_refl _) st.2.2 (by rw [List.getElem?_eq_none (Nat.le_refl _)]; exact q)) fun h' he'=>hQ h' s.toks fun b o hb e=>he' b o (fun h=>hb (by simp [h])) e
 self:=fun _ _ _ _ st hQ=>zcq st.2.1 hQ
theorem zdL (hh:A.handled = none) {I a tu:Addr} (hne:a ≠ I) (hnt:tu ≠ I) {o ot:Obj} {es:Array (Int × Value)} {ep pn:Nat} {t:SetTable} (hd:o.data = .set es ep t) (hf:t.fits es.size = true) (ys:List Nat) (hdt:ot.data = .seq (ys.map fun (i:Nat)=>rawInt i).toArray pn) (hy:∀ j ∈ ys,j < es.size) :
  Walks P w A I [I,a,tu] [I] (ys.map fun j=>(es.getD j (0,.none)).2).length (fun i v=>(ys.map fun j=>(es.getD j (0,.none)).2)[i]? = some v) (fun i h=>vP h I (.ref tu) i a es.size ep/\h.get? a = some o/\h.get? tu = some ot) where
 sub:=fun b hb=>by simp at hb; simp [hb]
 frame:=fun _ _ _ st hk=>⟨st.1.at fun o e=>hk I (by simp) o e,hk a (by simp) o st.2.1,hk tu (by simp) ot st.2.2⟩
 item:=fun i s Q E hi st hQ=>by
  have hi':i < ys.length:=by simpa using hi
  have hj:ys[i] < es.size:=hy _ (List.getElem_mem hi')
  have e1:es[ys[i]]? = some (es[ys[i]].1,es[ys[i]].2):=Array.getElem?_eq_getElem hj
  refine zfJ (x:=es[ys[i]].2) (j:=ys[i]) rfl st.1 st.2.1 hd hf st.2.2 hdt (by simp [hi',rawInt]) e1 fun h' hit' hs'=>?_
  refine hQ _ h' s.toks ?_ ⟨hit',hs'.extBut a o hne st.2.1,hs'.extBut tu ot hnt st.2.2⟩ fun b o hb e=>hs'.extBut b o (fun h=>hb (by simp [h])) e
  rw [List.getElem?_map,List.getElem?_eq_getElem hi']
  simp [Array.getD,hj]
 done:=fun s Q E st hQ=>zhs hh rfl st.1 st.2.1 hd hf st.2.2 hdt (by simp) fun h' he'=>hQ h' s.toks fun b o hb e=>he' b o (fun h=>hb (by simp [h])) e
 self:=fun _ _ _ _ st hQ=>zcq st.1 hQ
theorem zat {A':Around} {a:Addr} {S:Str->Bool} {n:Nat} {Q:Value->Shared->Prop} (hh:A'.handled = none) (hS:xU P w s.heap a S n)
  (hQ:∀ (I:Addr) (fp:List Addr) (vs:List Value) (zs:List Str) (St:Nat->Heap->Prop) (h':Heap) (d:Drawn),(∀ b o,s.heap.get? b = some o->h'.get? b = some o)->(∀ b ∈ fp,b = a\/s.heap.objs.size<=b)->s.heap.objs.size<=I->
   Walks P w A' I fp [I] vs.length (fun i v=>vs[i]? = some v) St->St 0 h'->(∀ i h,St i h->∃ o,h.get? I = some o/\o.cls = .type "set_iterator")->StrsAre vs zs->zs.Nodup->(∀ z,z ∈ zs ↔ S z = true)->vs.length = n->Q (.ref I) { s with heap:=h',drawn:=d }) :
  wpAny (model P w) A (pyIter (.ref a)) Q E s:=by
 obtain ⟨o,es,ep,t,ho,hex,hd,hel,hmem,hb,hf,hn,hnd,hld,hpl⟩:=hS
 have hT:s.TypeIs (.ref a) "set":=⟨o,ho,hex.1⟩
 have key:∀ (l:List (Int × Value)),l.Perm es.toList->∃ zs:List Str,StrsAre (l.map (·.2)) zs/\zs.Nodup/\∀ z,z ∈ zs ↔ S z = true:=by
  intro l hp
  refine ⟨l.map fun e=>uu e.2,?_,(hp.map _).nodup_iff.mpr hnd,fun z=>?_⟩
  ·have:∀ (l:List (Int × Value)),(∀ e ∈ l,e ∈ es.toList)->StrsAre (l.map (·.2)) (l.map fun e=>uu e.2):=by
    intro l
    induction l with
    | nil=>intro _; exact .nil
    | cons e r ih=>
     intro h
     obtain ⟨⟨k,hk,_⟩,_⟩:=hel e (h e List.mem_cons_self)
     obtain ⟨tk,e2⟩:=Value.isStrOf_shape hk
     rw [List.map_cons,List.map_cons,e2]
     exact .cons _ _ (ih fun x hx=>h x (List.mem_cons_of_mem _ hx))
   exact this l fun e he=>hp.mem_iff.mp he
  ·rw [hmem z]
   constructor
   ·intro h
    obtain ⟨e,he,e1⟩:=List.mem_map.mp h
    obtain ⟨⟨k,hk,_⟩,_⟩:=hel e (hp.mem_iff.mp he)
    obtain ⟨tk,e2⟩:=Value.isStrOf_shape hk
    rw [e2] at e1
    have e1:k = z:=e1
    exact ⟨e,hp.mem_iff.mp he,by rw [<- e1]; exact hk⟩
   ·rintro ⟨e,he,hk⟩
    obtain ⟨tk,e2⟩:=Value.isStrOf_shape hk
    refine List.mem_map.mpr ⟨e,hp.mem_iff.mpr he,?_⟩
    rw [e2]
    rfl
 have hlt:a < s.heap.objs.size:=Heap.lt_size ho
 refine wpAny_pyIter_slot hT PySem.F.slot_set_iter (wpAny_call_entry PySem.F.slot_set_iter hT FS.zfk ?_ (PySem.F.args_set_iter_1 _))
 unfold Builtin.«frozenset.__iter__»
 show wpAny _ _ (Builtin.Frozenset.sizeOf a >>= _) _ _ s
 unfold Builtin.Frozenset.sizeOf
 refine wpAny_bind (wpAny_bind (y3 ho hd hf (wpAny_pure ?_)))
 unfold setDrawn
 refine wpAny_bind (wpAny_bind (wpAny_setState_of ho hd hf ?_))
 dsimp only
 refine wpAny_bind (w6 (wpAny_pure ?_))
 show wpAny _ _ (if (!vM w && (!t.plain && decide (es.size > 1))) = true then _ else _) _ _ _
 by_cases hD:(!vM w && (!t.plain && decide (es.size > 1))) = true
 ·rw [if_pos hD]
  refine wpAny_bind (vh _ _ List.length_range fun ys d hp=>?_)
  have hy:∀ j ∈ ys,j < es.size:=fun j hj=>List.mem_range.mp (hp.mem_iff.mp hj)
  have hyl:ys.length = es.size:=by rw [hp.length_eq,List.length_range]
  refine wpAny_bind (wpAny_newTuple ?_ (by rw [List.length_map,hyl]; exact fits_of_scanBound hb))
  have ho1:=fun x:Obj=>Heap.get?_push_of_some x ho
  refine wpAny_bind (wpAny_setEpoch_of (ho1 _) hd hf ?_)
  refine wpAny_bind (wpAny_newObj_type (wpAny_pure ⟨_,rfl,"set_iterator",_,⟨_,Heap.get?_push_size _ rfl,rfl⟩,FS.zfE.lookup,?_⟩))
  have hz:∀ x:Obj,(s.heap.push x).objs.size = s.heap.objs.size + 1:=fun x=>Heap.size_push ..
  obtain ⟨zs,k1,k2,k3⟩:=key (ys.map fun j=>es.getD j (0,.none)) (by
   have e1:(List.range es.size).map (fun j=>es.getD j (0,.none)) = es.toList:=by
    refine List.ext_getElem (by simp) fun i h1 h2=>?_
    have:i < es.size:=by simpa using h2
    simp [Array.getD,this]
   exact e1 ▸ hp.map _)
  rw [List.map_map] at k1
  refine hQ _ _ _ zs _ _ d (fun b o e=>Heap.get?_push_of_some _ (Heap.get?_push_of_some _ e)) ?_ (by dsimp only; rw [hz]; exact Nat.le_succ _) (zdL hh (a:=a) (tu:=s.heap.objs.size) (o:=o) (es:=es) (ep:=ep) (t:=t) ?_ ?_ hd hf ys (pn:=0) rfl hy) ⟨⟨_,Heap.get?_push_size _ rfl,rfl,rfl⟩,Heap.get?_push_of_some _ (ho1 _),Heap.get?_push_of_some _ (Heap.get?_push_size _ rfl)⟩ (fun i h st=>?_) k1 k2 k3 (by rw [List.length_map,hyl,hn])
  ·intro b hb'
   dsimp only at hb'
   rw [hz] at hb'
   rcases List.mem_cons.mp hb' with e | hb'
   ·exact .inr (by rw [e]; exact Nat.le_succ _)
   ·rcases List.mem_cons.mp hb' with e | hb'
    ·exact .inl e
    ·exact .inr (by rw [List.mem_singleton.mp hb']; exact Nat.le_refl _)
  ·dsimp only
   rw [hz]
   exact Nat.ne_of_lt (Nat.lt_succ_of_lt hlt)
  ·dsimp only
   rw [hz]
   exact Nat.ne_of_lt (Nat.lt_succ_self _)
  ·obtain ⟨o',e1,e2,_⟩:=st.1
   exact ⟨o',e1,e2⟩
 ·rw [if_neg hD]
  refine wpAny_bind (wpAny_pure ?_)
  refine wpAny_bind (wpAny_setEpoch_of ho hd hf ?_)
  refine wpAny_bind (wpAny_newObj_type (wpAny_pure ⟨_,rfl,"set_iterator",_,⟨_,Heap.get?_push_size _ rfl,rfl⟩,FS.zfE.lookup,?_⟩))
  have hne:a ≠ s.heap.objs.size:=Nat.ne_of_lt hlt
  have fpk:∀ b ∈ [s.heap.objs.size,a],b = a\/s.heap.objs.size<=b:=by
   intro b hb'
   rcases List.mem_cons.mp hb' with e | hb'
   ·exact .inr (by rw [e]; exact Nat.le_refl _)
   ·exact .inl (List.mem_singleton.mp hb')
  by_cases hbt:vM w = true
  ·obtain ⟨zs,k1,k2,k3⟩:=key (pickOrder (w.params.setOrder a ep) es).toList (jK _ _)
   have hl:((pickOrder (w.params.setOrder a ep) es).toList.map (·.2)).length = es.size:=by rw [List.length_map,(jK _ _).length_eq]; rfl
   refine hQ _ _ _ zs _ _ s.drawn (fun b o e=>Heap.get?_push_of_some _ e) fpk (Nat.le_refl _) (zad hh hne hd hf _ hl (fun _=>0) fun i s' Q' E' hi ho' q=>zc2 ho' hd hf hbt Q' ?_) ⟨Nat.zero_le _,⟨_,Heap.get?_push_size _ rfl,rfl,rfl⟩,Heap.get?_push_of_some _ ho⟩ (fun i h st=>?_) k1 k2 k3 (by rw [hl,hn])
   ·rw [List.getElem?_map] at q
    rw [<- Array.getElem?_toList]
    cases hq:(pickOrder (w.params.setOrder a ep) es).toList[i]? with
    | none=>rw [hq] at q; exact q
    | some e=>rw [hq] at q; exact q
   ·obtain ⟨o',e1,e2,_⟩:=st.2.1
    exact ⟨o',e1,e2⟩
  ·have hbf:vM w = false:=by simpa using hbt
   have hled:t.led = true:=hld.resolve_left hbt
   have h1:es.size<=1:=by
    rcases Nat.lt_or_ge 1 es.size with h | h
    ·exfalso
     refine hD ?_
     have hp0:t.plain = false:=by
      cases hp0:t.plain with
      | false=>rfl
      | true=>have:=hpl hp0; omega
     simp [hbf,hp0,h]
    ·exact h
   obtain ⟨zs,k1,k2,k3⟩:=key es.toList (List.Perm.refl _)
   have hps:t.place.size = es.size:=by
    simp only [SetTable.fits,Bool.and_eq_true,beq_iff_eq,decide_eq_true_eq] at hf
    exact hf.1
   refine hQ _ _ _ zs _ _ s.drawn (fun b o e=>Heap.get?_push_of_some _ e) fpk (Nat.le_refl _) (zad hh hne hd hf (es.toList.map (·.2)) (by simp) (fun i=>if i = 0 then 0 else t.place.getD 0 0 + 1) fun i s' Q' E' hi ho' q=>zc3 ho' hd hf hbf hled h1 Q' ?_) ⟨Nat.zero_le _,⟨_,Heap.get?_push_size _ rfl,rfl,rfl⟩,Heap.get?_push_of_some _ ho⟩ (fun i h st=>?_) k1 k2 k3 (by simp [hn])
   ·clear hQ key hel hmem hnd k1 k2 k3
    obtain ⟨mask,place,dm,fi,led,mv,pl⟩:=t
    dsimp only at hps q |-
    rcases Nat.lt_or_ge 0 es.size with h0 | h0
    ·have hes:es.size = 1:=by omega
     obtain ⟨e0,rfl⟩:∃ e0,es = #[e0]:=Array.size_eq_one_iff.mp hes
     obtain ⟨p0,rfl⟩:∃ p0,place = #[p0]:=Array.size_eq_one_iff.mp (by rw [hps,hes])
     have hi:i<=1:=by simpa using hi
     rcases Nat.lt_or_ge i 1 with h2 | h2
     ·have:i = 0:=by omega
      subst this
      have hbel:SetTable.below #[p0] 0 = 0:=by
       simp [SetTable.below,SetTable.below.go]
      simpa [hbel] using q
     ·have:i = 1:=by omega
      subst this
      have hbel:SetTable.below #[p0] (p0 + 1) = 1:=by
       simp [SetTable.below,SetTable.below.go]
      simpa [hbel] using q
    ·have hes:es.size = 0:=by omega
     have:es = #[]:=Array.size_eq_zero_iff.mp hes
     subst this
     simpa using q
   ·obtain ⟨o',e1,e2,_⟩:=st.2.1
    exact ⟨o',e1,e2⟩
end
section
variable {X:Cx}
theorem jv (bt:Nat->Nat->Bool):∀ k,argBest bt k<=k
 | 0=>Nat.le_refl _
 | k + 1=>by
  unfold argBest
  split
  ·exact Nat.le_refl _
  ·exact Nat.le_succ_of_le (jv bt k)
theorem zdE (hc:X.calm = true):yN X (.builtin "max") (fun xs H Q=>∃ (p:Addr) (ns:List Int),xs = [.ref p]/\SqL X.K H p (ns.map V.int)/\ns ≠ []/\∀ m ∈ ns,Q (.int m) H):=by
 intro pins s σ H xs us Q I r h
 obtain ⟨p,ns,rfl,hS,hne,q⟩:=h
 obtain ⟨u,rfl,ru⟩:=xt r
 cases ru
 obtain ⟨its,rv,hp,hz⟩:=I.list hS
 have hlen:its.length = ns.length:=by rw [<- rv.length,List.length_map]
 have hlt:p < s.heap.objs.size:=by obtain ⟨_,e,_⟩:=hp.isList; exact Heap.lt_size e
 have hpne:p ≠ s.heap.objs.size:=Nat.ne_of_lt hlt
 have hn0 : 0 < ns.length:=List.length_pos_iff.mpr hne
 have hval:∀ (i:Nat) (v:Value),its.toArray[i]? = some v->∃ t,v = .int (ns.getD i 0) t:=fun i v hP=>by
  have hv:its[i]? = some v:=by simpa using hP
  have hi:i < ns.length:=by rw [<- hlen]; exact (List.getElem?_eq_some_iff.mp hv).1
  obtain ⟨u',e1,t,e2⟩:=rv.get (i:=i) (x:=V.int ns[i]) (by rw [List.getElem?_map,List.getElem?_eq_getElem hi]; rfl)
  rw [hv] at e1
  cases e1
  refine ⟨t,?_⟩
  rw [e2,List.getD_eq_getElem?_getD,List.getElem?_eq_getElem hi]
  rfl
 refine call_max_walk (wpAny_pyIter_list hp.isList ?_)
 refine ⟨s.heap.objs.size,_,_,_,_,_,_,rfl,Walks.list (A:=X.A.in1) (I.ok.hd hc) s.heap.objs.size p hpne its.toArray,⟨⟨_,Heap.get?_push_size _ rfl,rfl,rfl⟩,hp.isList.push _⟩,fun b hb=>?_,by rw [List.size_toArray,hlen]; exact hn0,CmpOf.ints_gt (fun i=>ns.getD i 0) hval,fun v h' tk hP hk=>?_⟩
 ·show b < (s.heap.push _).objs.size
  rw [Heap.size_push]
  rcases List.mem_cons.mp hb with rfl | hb
  ·exact Nat.lt_succ_self _
  ·rcases List.mem_cons.mp hb with rfl | hb
   ·exact Nat.lt_succ_of_lt hlt
   ·cases hb
 ·obtain ⟨t,rfl⟩:=hval _ _ hP
  have hb:=jv (fun i j=>decide (ns.getD i 0 > ns.getD j 0)) (its.toArray.size - 1)
  generalize argBest (fun i j=>decide (ns.getD i 0 > ns.getD j 0)) (its.toArray.size - 1) = k at hb hP |-
  rw [List.size_toArray,hlen] at hb
  have hkl:k < ns.length:=by omega
  refine ⟨.int (ns.getD k 0),H,I.kept (old_kept hk),⟨t,rfl⟩,q _ ?_⟩
  rw [List.getD_eq_getElem?_getD,List.getElem?_eq_getElem hkl]
  exact List.getElem_mem hkl
end
section
variable {prog:Program} {w:World} {A:Around} {E:Value->Shared->Prop} {s:Shared}
end
section
variable {X:Cx}
end
section
variable {P:Program} {w:World} {A:Around} {E:Value->Shared->Prop} {s:Shared}
theorem uI {M:Model} {α : Type} {c:Prop} [Decidable c] {x y:Sem α} {Q : α->Shared->Prop} (hc:c) (h:wpAny M A x Q E s):wpAny M A (if c then x else y) Q E s:=by
 rw [if_pos hc]
 exact h
theorem qV {a:Addr} {S:Str->Bool} {n:Nat} {Q:List Value->Shared->Prop} (hh:A.handled = none) (hS:xU P w s.heap a S n) (hn:n<=1000)
  (hQ:∀ (vs:List Value) (zs:List Str) (h':Heap) (d:Drawn) (tk:Nat),s.heap.objs.size<=h'.objs.size->(∀ b o,s.heap.get? b = some o->h'.get? b = some o)->StrsAre vs zs->zs.Nodup->(∀ z,z ∈ zs ↔ S z = true)->vs.length = n->Q vs { s with heap:=h',drawn:=d,toks:=tk }) :
  wpAny (model P w) A (collect (.ref a)) Q E s:=by
 obtain ⟨o,es,ep,t,ho,hex,hr⟩:=id hS
 have hlt:a < s.heap.objs.size:=Heap.lt_size ho
 have hSI:s.heap.objs.size ≠ a:=Nat.ne_of_gt hlt
 unfold collect
 refine wpAny_bind (wpAny_runValue (codeAny_builtin PySem.F.entry_proto_collect ?_))
 rw [Around.under_plainId PySem.F.plain_proto_collect _]
 show wpAny _ A.in1 (newList [] >>= fun l=>again (.builtin "list.__iadd__" ⟨[l,.ref a],[]⟩)) _ _ s
 refine wpAny_bind (wpAny_newObj_type ?_)
 refine wpAny_pure ⟨plainId_quiet PySem.F.plain_list_iadd _,codeAny_builtin PySem.F.entry_list_iadd ?_⟩
 rw [Around.under_plainId PySem.F.plain_list_iadd _]
 have hS1:xU P w (s.heap.push { cls:=.type "list",data:=.seq ([]:List Value).toArray }) a S n:=⟨o,es,ep,t,Heap.get?_push_of_some _ ho,hex,hr⟩
 have hz1:(s.heap.push { cls:=.type "list",data:=.seq ([]:List Value).toArray }).objs.size = s.heap.objs.size + 1:=Heap.size_push ..
 have hS₁:(s.heap.push { cls:=.type "list",data:=.seq ([]:List Value).toArray }).get? s.heap.objs.size = some { cls:=.type "list",data:=.seq ([]:List Value).toArray }:=Heap.get?_push_size _ rfl
 have old:∀ b o,s.heap.get? b = some o->(s.heap.push { cls:=.type "list",data:=.seq ([]:List Value).toArray }).get? b = some o:=fun b o e=>Heap.get?_push_of_some _ e
 have hbS:∀ b o,s.heap.get? b = some o->b ≠ s.heap.objs.size:=fun b o e=>Nat.ne_of_lt (Heap.lt_size e)
 show wpAny _ A.in1 (Builtin.List.listExtendWith (.ref s.heap.objs.size) (.ref a) (.ref s.heap.objs.size)) _ _ _
 generalize s.heap.push { cls:=.type "list",data:=.seq ([]:List Value).toArray } = hp1 at hS1 hz1 hS₁ old |-
 have hT:Shared.TypeIs { s with heap:=hp1 } (.ref a) "set":=by
  obtain ⟨o,_,_,_,ho,hex,_⟩:=hS1
  exact ⟨o,ho,hex.1⟩
 unfold Builtin.List.listExtendWith
 refine wpAny_bind (wpAny_typeOf hT ?_)
 have h1:Builtin.List.listSameRef (.ref s.heap.objs.size) (.ref a) = false:=by simp [Builtin.List.listSameRef,hSI]
 have h2:(Value.type "set" == Value.type "list") = false:=by decide
 have h3:(Value.type "set" == Value.type "tuple") = false:=by decide
 simp only [h1,h2,h3,Bool.or_false,Bool.false_eq_true,if_false]
 refine wpAny_bind (zat (s:={ s with heap:=hp1 }) (A':=A.in1) hh hS1 fun I fp vs zs St h2 d k2 kf kI W hst hTI hzs hnd hmem hlen=>?_)
 have hT2:Shared.TypeIs { s with heap:=h2,drawn:=d } (.ref a) "set":=by
  obtain ⟨o,_,_,_,ho,hex,_⟩:=hS1
  exact ⟨o,k2 _ _ ho,hex.1⟩
 refine wpAny_bind (wpAny_holding ?_)
 unfold Builtin.List.listLengthHint
 refine wpAny_bind (wpAny_specialOf hT2 PySem.F.slot_set_len.lookup ?_)
 dsimp only
 rw [show splitId "set.__len__" = some ("set","__len__") from by decide +kernel]
 show wpAny _ _ (isInstance (.ref a) (.type "set") >>= _) _ _ _
 refine wpAny_bind (wpAny_isInstance (b:=true) hT2 (by rw [isSubtype_type]; kernel_rfl) ?_)
 rw [if_neg (show ¬ ((!true) = true) by decide)]
 refine uI (by decide +kernel) ?_
 refine wpAny_bind (wpAny_typeOf hT2 (wpAny_pure ?_))
 refine uI (by decide +kernel) ?_
 refine wpAny_bind (wpAny_rule ?_)
 have hS₁':=k2 _ _ hS₁
 have hI:I ≠ s.heap.objs.size:=fun e=>by
  rw [e] at kI
  dsimp only at kI
  rw [hz1] at kI
  exact Nat.not_succ_le_self _ kI
 have hSf:s.heap.objs.size ∉ fp:=fun hm=>by
  rcases kf _ hm with e | e
  ·exact hSI e
  ·dsimp only at e
   rw [hz1] at e
   exact Nat.not_succ_le_self _ e
 refine wpAny_bind ?_
 show wpAny _ A.in1 (updateSeq s.heap.objs.size (·.push .none) >>= fun _=>updateSeq s.heap.objs.size (·.pop)) _ _ _
 refine wpAny_bind (wpAny_updateSeq hS₁' rfl ?_)
 have hS₂:=Heap.get?_update_self (Obj.mapSeq (·.push Value.none)) hS₁' rfl
 refine wpAny_updateSeq hS₂ rfl ?_
 have hS₃:=Heap.get?_update_self (Obj.mapSeq (·.pop)) hS₂ rfl
 have oth:∀ b o,b ≠ s.heap.objs.size->h2.get? b = some o->((h2.update s.heap.objs.size (Obj.mapSeq (·.push Value.none))).update s.heap.objs.size (Obj.mapSeq (·.pop))).get? b = some o:=
  fun b o hb e=>(Heap.get?_update_other _ _ (Ne.symm hb)).trans ((Heap.get?_update_other _ _ (Ne.symm hb)).trans e)
 have hW:=W.toS
 refine wpAny_pure ⟨plainId_quiet PySem.F.plain_extend_loop _,codeAny_extend_loopS hW (by rw [hlen]; exact Nat.le_trans hn (by decide)) _ hSf _ vs.length 0 _ _ _ rfl (Nat.zero_le _)
  (W.frame 0 _ _ hst fun b hb o e=>oth b o (fun h=>hSf (h ▸ hb)) e) hS₃ (ItemsOf.nil _) fun s' acc' c' hm hS' hacc=>?_⟩
 show wpAny _ A (load s.heap.objs.size >>= _) _ _ s'
 refine wpAny_bind (wpAny_load hS' ?_)
 have hrv:acc'.toList = vs:=by
  refine List.ext_getElem? fun i=>?_
  have hal:acc'.toList.length = vs.length:=by rw [Array.length_toList,hacc.1]
  by_cases hi:i < vs.length
  ·have hia:i < acc'.toList.length:=by omega
   rw [List.getElem?_eq_getElem hia]
   exact (hacc.2 i acc'.toList[i] (by rw [<- Array.getElem?_toList]; exact List.getElem?_eq_getElem hia)).symm
  ·rw [List.getElem?_eq_none (by omega),List.getElem?_eq_none (by omega)]
 rw [Moved.eq_with hm]
 refine wpAny_pure ?_
 rw [hrv]
 refine hQ vs zs _ _ _ (Nat.le_of_lt (Heap.lt_size hS')) (fun b o e=>?_) hzs hnd hmem hlen
 refine hm.heap b o (fun hmem=>?_) (oth b o (hbS b o e) (k2 b o (old b o e)))
 rcases List.mem_cons.mp hmem with e' | hmem
 ·exact hbS b o e e'
 ·rw [List.mem_singleton.mp hmem] at e
  have:=Heap.lt_size e
  dsimp only at kI
  rw [hz1] at kI
  exact Nat.lt_irrefl _ (Nat.lt_trans this kI)
theorem zam {a:Addr} {S:Str->Bool} {n:Nat} {Q:Value->Shared->Prop} (hh:A.handled = none) (hS:xU P w s.heap a S n) (hn:n < 64)
  (hQ:∀ (l:Addr) (out:Array Value) (zs:List Str) (h':Heap) (d:Drawn) (tk e:Nat),(∀ b o,s.heap.get? b = some o->h'.get? b = some o)->s.heap.objs.size<=l->h'.get? l = some (seqObj "list" out e)->StrsAre out.toList zs->zs.Nodup->(∀ z,z ∈ zs ↔ S z = true)->sortedS zs = true->zs.length = n->
   Q (.ref l) { s with heap:=h',drawn:=d,toks:=tk }) :
  wpAny (model P w) A (call (.builtin "sorted") [.ref a]) Q E s:=by
 refine Calls.call_function_entry kind_sorted plain_sorted entry_sorted (args_sorted1 _) ?_
 unfold Builtin.«sorted»
 refine wpAny_bind (m:=checkCount "sorted" 1 1 _) (wpAny_pure ?_)
 refine wpAny_bind (qV hh hS (by omega) fun vs zs h1 d tk hsz k1 hzs hnd hmem hlen=>?_)
 have hzl:zs.length = vs.length:=by
  have:=hzs.strs
  rw [<- this,List.length_map]
 refine wpAny_bind (wpAny_newList ?_ (by rw [hlen]; exact Nat.le_trans (Nat.le_of_lt hn) (by decide)))
 have hoL:(h1.push (seqObj "list" vs.toArray 0)).get? h1.objs.size = some (seqObj "list" vs.toArray 0):=Heap.get?_push_size _ rfl
 refine wpAny_bind (wpAny_holding (wpAny_call_entry slot_list_sort ⟨_,hoL,rfl⟩ entry_list_sort (list_sort_treeK strKind_oneLt hoL hzs.keysOf (fun v₁ v₂ rest e=>keyKind_strs (by rw [<- e]; exact hzs)) (by omega) fun st' a1 a2=>⟨_,rfl,?_⟩) (args_list_sort _)))
 obtain ⟨ss',b1,b2,b3⟩:=sorted_out_str hzs a1 a2
 obtain ⟨e,he⟩:=sortedHeap_at (out:=(arrOf st').map (·.2)) hoL
 refine wpAny_pure ⟨_,rfl,hQ _ _ ss' _ d tk e (fun b o eb=>?_) hsz he b1 (b2.nodup_iff.mpr hnd) (fun z=>(b2.mem_iff).trans (hmem z)) b3 (by rw [b2.length_eq,hzl,hlen])⟩
 have eb1:=k1 b o eb
 have hlt:=Heap.lt_size eb1
 rw [sortedHeap_old (Nat.ne_of_lt hlt) (by rw [size_push']; exact Nat.lt_succ_of_lt hlt),Heap.get?_push_ne _ _ _ (Nat.ne_of_lt hlt)]
 exact eb1
end
section
variable {prog:Program} {w:World} {A:Around} {E:Value->Shared->Prop} {s:Shared} {l I S:Addr} {vs:List Value} {kid:String}
def Kp (I S:Addr) (h h':Heap):Prop:=∀ b o,b ≠ I->b ≠ S->h.get? b = some o->h'.get? b = some o
theorem zdj {R:Result->Shared->Prop} (kf:Nat->Int) (hh:A.handled = none) (h₀:Heap) (hl:h₀.IsList l vs.toArray) (hlI:l ≠ I) (hlS:l ≠ S) (hSI:S ≠ I)
  (turn:∀ (i:Nat) (v:Value),vs[i]? = some v->∀ (h:Heap) (tk:Nat),Kp I S h₀ h->∀ (Q:Value->Shared->Prop) (E:Value->Shared->Prop),(∀ t tk',Q (.int (kf i) t) { s with heap:=h,toks:=tk' })->wpAny (model prog w) A.in1 (call (.builtin kid) [v]) Q E { s with heap:=h,toks:=tk })
  (hR:∀ i v h' tk',vs[i]? = some v->(∀ j,j < vs.length->kf i<=kf j/\(j < i->kf i < kf j))->Kp I S h₀ h'->R (.ok (.ret v)) { s with heap:=h',toks:=tk' }) :
  ∀ (r j i:Nat) (h:Heap) (tk:Nat) (vb:Value) (tb:Tok) (c:Nat),vs.length - (j + 1) = r->j + 1<=vs.length->Kp I S h₀ h->h.get? S = some (seqObj "list" #[vb,.int (kf i) tb] c)->h.IsListIter I l (j + 1)->vs[i]? = some vb->i<=j->(∀ j',j'<=j->kf i<=kf j'/\(j' < i->kf i < kf j'))->
   codeAny (model prog w) A (.builtin "min.loop" ⟨[.ref I,.builtin kid,.ref S],[]⟩) R { s with heap:=h,toks:=tk }:=by
 have hname:(toString "min" ++ toString ".loop" : String) = "min.loop":=by decide
 have W:=Walks.list (prog:=prog) (w:=w) (A:=A.in1) hh I l hlI vs.toArray
 have hsz:vs.toArray.size = vs.length:=List.size_toArray ..
 have lat:∀ {h},Kp I S h₀ h->h.IsList l vs.toArray:=fun {h} k=>by
  obtain ⟨o,ho,q⟩:=hl
  exact ⟨o,k l o hlI hlS ho,q⟩
 intro r
 induction r with
 | zero=>
  intro j i h tk vb tb c hr hj F nS hit hvb hij hbest
  have hin:j + 1 = vs.length:=by omega
  refine codeAny_builtin PySem.F.entry_min_loop ?_
  rw [Around.under_plainId PySem.F.plain_min_loop _]
  show wpAny _ A.in1 (seqItems? (.ref S) >>= _) _ _ _
  refine wpAny_bind (wpAny_seqItems nS rfl ?_)
  show wpAny _ A.in1 (tryCatch (pyNext (.ref I)) _ >>= _) _ _ _
  refine wpAny_bind (wpAny_tryCatch (W.done _ _ _ ⟨by rw [hsz,<- hin]; exact hit,lat F⟩ fun h' tk' hk'=>?_))
  have hS':=hk' S _ (by simpa using hSI) nS
  show wpAny _ A.in1 (updateSeq S (fun _=>#[]) >>= _) _ _ _
  refine wpAny_bind ?_
  refine wpAny_updateSeq hS' rfl (wpAny_bind (wpAny_letGo (wpAny_pure ?_)))
  exact hR i vb _ _ hvb (fun j' hj'=>hbest j' (by omega)) fun b o hb1 hb2 e=>(Heap.get?_update_other _ _ (Ne.symm hb2)).trans (hk' b o (by simpa using hb1) (F b o hb1 hb2 e))
 | succ r ih=>
  intro j i h tk vb tb c hr hj F nS hit hvb hij hbest
  have hlt:j + 1 < vs.length:=by omega
  refine codeAny_builtin PySem.F.entry_min_loop ?_
  rw [Around.under_plainId PySem.F.plain_min_loop _]
  show wpAny _ A.in1 (seqItems? (.ref S) >>= _) _ _ _
  refine wpAny_bind (wpAny_seqItems nS rfl ?_)
  show wpAny _ A.in1 (tryCatch (pyNext (.ref I)) _ >>= _) _ _ _
  refine wpAny_bind (wpAny_tryCatch (W.item (j + 1) _ _ _ (by rw [hsz]; exact hlt) ⟨hit,lat F⟩ fun v h' tk' hP hst' hk'=>?_))
  have hv:vs[j + 1]? = some v:=by simpa using hP
  have F1:Kp I S h₀ h':=fun b o hb1 hb2 e=>hk' b o (by simpa using hb1) (F b o hb1 hb2 e)
  have nS1:=hk' S _ (by simpa using hSI) nS
  show wpAny _ A.in1 (tryCatch (holding [v] (call (.builtin kid) [v])) _ >>= _) _ _ _
  refine wpAny_bind (wpAny_tryCatch (wpAny_holding (turn (j + 1) v hv h' tk' F1 _ _ fun t2 tk2=>?_)))
  show wpAny _ A.in1 (tryCatch (holding [v,.int (kf (j + 1)) t2] (richCompare .Lt (.int (kf (j + 1)) t2) (.int (kf i) tb) >>= _)) _ >>= _) _ _ _
  refine wpAny_bind (wpAny_tryCatch (wpAny_holding (wpAny_bind (CmpOf.ints_lt (prog:=prog) (w:=w) (A:=A.in1) (P:=fun i v=>∃ t,v = .int (kf i) t) kf (fun i v h=>h) (j + 1) i _ _ _ _ _ ⟨t2,rfl⟩ ⟨tb,rfl⟩ ?_))))
  refine wpAny_bind (wpAny_holding (wpAny_truthy_bool ?_))
  refine wpAny_bind (wpAny_letGo (wpAny_pure ?_))
  by_cases hb':kf (j + 1) < kf i
  ·obtain ⟨c2,hc2⟩:∃ c2,(h'.update S (Obj.mapSeq fun _=>#[v,.int (kf (j + 1)) t2])).get? S = some (seqObj "list" #[v,.int (kf (j + 1)) t2] c2):=⟨_,get?_update_seq nS1 fun _=>#[v,.int (kf (j + 1)) t2]⟩
   simp only [hb',decide_true,if_true]
   refine wpAny_bind ?_
   refine wpAny_updateSeq nS1 rfl (wpAny_bind (wpAny_letGo ?_))
   rw [hname]
   refine wpAny_pure ⟨plainId_quiet PySem.F.plain_min_loop _,ih (j + 1) (j + 1) _ _ v t2 c2 (by omega) hlt (fun b o hb1 hb2 e=>(Heap.get?_update_other _ _ (Ne.symm hb2)).trans (F1 b o hb1 hb2 e)) hc2 (by
    obtain ⟨oI',hoI',q⟩:=hst'.1
    exact ⟨oI',(Heap.get?_update_other _ _ hSI).trans hoI',q⟩) hv (Nat.le_refl _) fun j' hj'=>?_⟩
   by_cases e:j' = j + 1
   ·subst e
    exact ⟨by omega,fun _=>by omega⟩
   ·have hb1:=hbest j' (by omega)
    have hb2:=hb1.1
    exact ⟨by omega,fun _=>by omega⟩
  ·simp only [hb',decide_false,Bool.false_eq_true,if_false]
   refine wpAny_bind (wpAny_letGo ?_)
   rw [hname]
   refine wpAny_pure ⟨plainId_quiet PySem.F.plain_min_loop _,ih (j + 1) i _ _ vb tb c (by omega) hlt F1 nS1 hst'.1 hvb (by omega) fun j' hj'=>?_⟩
   by_cases e:j' = j + 1
   ·subst e
    exact ⟨by omega,fun _=>by omega⟩
   ·exact hbest j' (by omega)
theorem zdD {Q:Value->Shared->Prop} (kf:Nat->Int) (hh:A.handled = none) (hl:s.heap.IsList l vs.toArray) (hne : 0 < vs.length)
  (turn:∀ (i:Nat) (v:Value),vs[i]? = some v->∀ (h:Heap) (tk:Nat),(∀ b o,s.heap.get? b = some o->h.get? b = some o)->∀ (Q:Value->Shared->Prop) (E:Value->Shared->Prop),(∀ t tk',Q (.int (kf i) t) { s with heap:=h,toks:=tk' })->wpAny (model prog w) A.in1 (call (.builtin kid) [v]) Q E { s with heap:=h,toks:=tk })
  (hQ:∀ i v h' tk',vs[i]? = some v->(∀ j,j < vs.length->kf i<=kf j/\(j < i->kf i < kf j))->(∀ b o,s.heap.get? b = some o->h'.get? b = some o)->Q v { s with heap:=h',toks:=tk' }) :
  wpAny (model prog w) A (call (.builtin "min") [.ref l] [(Str.ofString "key",.builtin kid)]) Q E s:=by
 have hname:(toString "min" ++ toString ".loop" : String) = "min.loop":=by decide
 obtain ⟨ol,hol,_⟩:=id hl
 have hll:l < s.heap.objs.size:=Heap.lt_size hol
 refine kmb_tree PySem.F.kind_min PySem.F.plain_min PySem.F.entry_min (kmb_min_key _ _) ?_
 show wpAny _ A.in1 (Builtin.Builtins.bindParams "min" ["key","default"] 0 ⟨[],[(Str.ofString "key",.builtin kid)]⟩ >>= _) _ _ s
 refine wpAny_bind (wpAny_of_eq (show Builtin.Builtins.bindParams "min" ["key","default"] 0 ⟨[],[(Str.ofString "key",.builtin kid)]⟩ = pure [some (.builtin kid),none] from rfl) ?_)
 refine wpAny_bind (wpAny_pure ?_)
 refine wpAny_bind (wpAny_pyIter_list hl ?_)
 refine wpAny_bind (wpAny_newList ?_ (Nat.zero_le _))
 rw [hname]
 have hS:(s.heap.push { cls:=.type "list_iterator",data:=.fields #[.ref l,.int 0 0] }).objs.size = s.heap.objs.size + 1:=size_push' ..
 have hlI:l ≠ s.heap.objs.size:=Nat.ne_of_lt hll
 have hSI:(s.heap.push { cls:=.type "list_iterator",data:=.fields #[.ref l,.int 0 0] }).objs.size ≠ s.heap.objs.size:=by rw [hS]; exact Nat.ne_of_gt (Nat.lt_succ_self _)
 have hlS:l ≠ (s.heap.push { cls:=.type "list_iterator",data:=.fields #[.ref l,.int 0 0] }).objs.size:=by rw [hS]; exact Nat.ne_of_lt (Nat.lt_succ_of_lt hll)
 refine wpAny_pure ⟨plainId_quiet PySem.F.plain_min_loop _,?_⟩
 have gI:((s.heap.push { cls:=.type "list_iterator",data:=.fields #[.ref l,.int 0 0] }).push (seqObj "list" #[] 0)).get? s.heap.objs.size = some { cls:=.type "list_iterator",data:=.fields #[.ref l,.int 0 0] }:=
  Heap.get?_push_of_some _ (Heap.get?_push_size _ rfl)
 have gS:((s.heap.push { cls:=.type "list_iterator",data:=.fields #[.ref l,.int 0 0] }).push (seqObj "list" #[] 0)).get? (s.heap.push { cls:=.type "list_iterator",data:=.fields #[.ref l,.int 0 0] }).objs.size = some (seqObj "list" #[] 0):=Heap.get?_push_size _ rfl
 have old:∀ b o,s.heap.get? b = some o->((s.heap.push { cls:=.type "list_iterator",data:=.fields #[.ref l,.int 0 0] }).push (seqObj "list" #[] 0)).get? b = some o:=fun b o e=>Heap.get?_push_of_some _ (Heap.get?_push_of_some _ e)
 have nold:∀ b o,s.heap.get? b = some o->b ≠ s.heap.objs.size/\b ≠ (s.heap.push { cls:=.type "list_iterator",data:=.fields #[.ref l,.int 0 0] }).objs.size:=fun b o e=>⟨Nat.ne_of_lt (Heap.lt_size e),by rw [hS]; exact Nat.ne_of_lt (Nat.lt_succ_of_lt (Heap.lt_size e))⟩
 generalize (s.heap.push { cls:=.type "list_iterator",data:=.fields #[.ref l,.int 0 0] }).push (seqObj "list" #[] 0) = hp at gI gS old |-
 generalize (s.heap.push { cls:=.type "list_iterator",data:=.fields #[.ref l,.int 0 0] }).objs.size = S at hSI hlS gS nold |-
 generalize hI0:s.heap.objs.size = I at hlI hSI gI nold |-
 have hl0:hp.IsList l vs.toArray:=by
  obtain ⟨o,ho,q⟩:=hl
  exact ⟨o,old l o ho,q⟩
 have W:=Walks.list (prog:=prog) (w:=w) (A:=A.in1) hh I l hlI vs.toArray
 have hsz:vs.toArray.size = vs.length:=List.size_toArray ..
 refine codeAny_builtin PySem.F.entry_min_loop ?_
 rw [Around.under_plainId PySem.F.plain_min_loop _]
 show wpAny _ A.in1 (seqItems? (.ref _) >>= _) _ _ _
 refine wpAny_bind (wpAny_seqItems gS rfl ?_)
 show wpAny _ A.in1 (tryCatch (pyNext (.ref I)) _ >>= _) _ _ _
 refine wpAny_bind (wpAny_tryCatch (W.item 0 _ _ _ (by rw [hsz]; exact hne) ⟨⟨_,gI,rfl,rfl⟩,hl0⟩ fun v h' tk' hP hst' hk'=>?_))
 have hv:vs[0]? = some v:=by simpa using hP
 have gS1:=hk' S _ (by simpa using hSI) gS
 have F1:Kp I S hp h':=fun b o hb1 hb2 e=>hk' b o (by simpa using hb1) e
 show wpAny _ A.in1 (tryCatch (holding [v] (call (.builtin kid) [v])) _ >>= _) _ _ _
 refine wpAny_bind (wpAny_tryCatch (wpAny_holding (turn 0 v hv h' tk' (fun b o e=>F1 b o (nold b o e).1 (nold b o e).2 (old b o e)) _ _ fun t2 tk2=>?_)))
 obtain ⟨c2,hc2⟩:∃ c2,(h'.update S (Obj.mapSeq fun _=>#[v,.int (kf 0) t2])).get? S = some (seqObj "list" #[v,.int (kf 0) t2] c2):=⟨_,get?_update_seq gS1 fun _=>#[v,.int (kf 0) t2]⟩
 show wpAny _ A.in1 (updateSeq S (fun _=>#[v,.int (kf 0) t2]) >>= _) _ _ _
 refine wpAny_bind ?_
 refine wpAny_updateSeq gS1 rfl ?_
 rw [hname]
 refine wpAny_pure ⟨plainId_quiet PySem.F.plain_min_loop _,zdj kf hh hp hl0 hlI hlS hSI (fun i v hv h tk k Q E q=>turn i v hv h tk (fun b o e=>k b o (nold b o e).1 (nold b o e).2 (old b o e)) Q E q) (fun i v h' tk' hv hb k=>hQ i v h' tk' hv hb fun b o e=>k b o (nold b o e).1 (nold b o e).2 (old b o e)) _ 0 0 _ _ v t2 c2 rfl hne (fun b o hb1 hb2 e=>(Heap.get?_update_other _ _ (Ne.symm hb2)).trans (F1 b o hb1 hb2 e)) hc2 (by
  obtain ⟨oI',hoI',q⟩:=hst'.1
  exact ⟨oI',(Heap.get?_update_other _ _ hSI).trans hoI',q⟩) hv (Nat.le_refl _) fun j' hj'=>?_⟩
 have e:j' = 0:=by omega
 subst e
 exact ⟨by omega,fun h=>absurd h (Nat.lt_irrefl _)⟩
end
section
variable {X:Cx}
def zhe (H:Hp) (x:V) (ys:List V):Prop:=∃ a,x = .ref a/\H a = some (.lst ys)
def zfC (K:Frag) (ta:TA):TE:=fun σ H Q=>ta σ H fun vs H1=>∃ (q:Addr) (xs:List V) (yss:List (List V)),vs = [.ref q]/\SqL K H1 q xs/\Paired (zhe H1) xs yss/\0 < xs.length/\
 ∀ (i:Nat) (x:V) (ys:List V),xs[i]? = some x->yss[i]? = some ys->(∀ (j:Nat) (ys':List V),yss[j]? = some ys'->ys.length<=ys'.length/\(j < i->ys.length < ys'.length))->Q x H1
theorem zdb {a:Expr} {ta:TA} {p p2 pos kp:Pos} (hc:X.calm = true) (hg:Gl X "min") (hm:X.mg "min" = none) (hgl:Gl X "len") (hml:X.mg "len" = none) (ha:PA X [a] ta) (h1:wL a = false:=by rfl) :
  PE X (.Call (.Name "min" p) [a] [⟨some "key",.Name "len" p2,kp⟩] pos) (zfC X.K ta):=by
 refine ⟨?_⟩
 intro pins s σ H Q I h
 refine wpAny_Call_Name_kw (xN I hg hm boot_min ?_)
 refine callWith_kw (env:=X.env) (id:="min") (e:=a) (rest:=[]) (thn (ha pos pins s σ H _ I h) fun us s1 ⟨vs,H1,I1,r1,q,xs,yss,e,hS,hp,h0,k⟩=>?_) (by rw [yu h1]; rfl) (by rw [yu h1]; rfl) rfl rfl
 subst e
 cases r1 with
 | cons r rr=>
  cases rr
  cases r
  refine kws_cons (xN I1 hgl hml PySem.boot_len (kws_nil ?_))
  obtain ⟨its,rv,hpl,hz⟩:=I1.list hS
  have hlen:its.length = xs.length:=rv.length.symm
  have hly:xs.length = yss.length:=hp.length
  have at_:∀ (i:Nat) (v:Value),its[i]? = some v->∃ (b:Addr) (ys:List V),v = .ref b/\xs[i]? = some (.ref b)/\yss[i]? = some ys/\H1 b = some (.lst ys):=fun i v hv=>by
   have hi:i < xs.length:=by rw [<- hlen]; exact (List.getElem?_eq_some_iff.mp hv).1
   obtain ⟨ys,hy,b,e1,e2⟩:=Paired.get hp (List.getElem?_eq_getElem hi)
   obtain ⟨v',e3,e4⟩:=rv.get (i:=i) (List.getElem?_eq_getElem hi)
   rw [hv] at e3
   cases e3
   rw [e1] at e4
   cases e4
   exact ⟨b,ys,rfl,by rw [List.getElem?_eq_getElem hi,e1],hy,e2⟩
  refine zdD (fun i=>((yss.getD i []).length:Int)) (I1.ok.hd hc) hpl.isList (by rw [hlen]; exact h0) (fun i v hv h tk keep Q' E' q'=>?_) (fun i v h' tk' hv hb keep=>?_)
  ·obtain ⟨b,ys,rfl,ex,ey,eb⟩:=at_ i v hv
   obtain ⟨ib,vb,pb,hzb⟩:=I1.list (SqL.of eb)
   have e1:(yss.getD i []).length = ib.toArray.size:=by
    rw [List.getD_eq_getElem?_getD,ey,List.size_toArray]
    exact vb.length
   obtain ⟨ob,hob,qb⟩:=pb.isList
   have hn:=vY
   refine Calls.call_len_list (items:=ib.toArray) ⟨ob,keep b ob hob,qb⟩ (by have:=vb.length; simp only [List.size_toArray]; omega) ?_
   have:=q' (tk + 1) (tk + 1 + 1)
   rw [e1] at this
   exact this
  ·obtain ⟨b,ys,rfl,ex,ey,eb⟩:=at_ i v hv
   refine ⟨.ref b,H1,I1.kept keep,rfl,k i (.ref b) ys ex ey fun j ys' hj=>?_⟩
   have hjl:j < its.length:=by rw [hlen,hly]; exact (List.getElem?_eq_some_iff.mp hj).1
   have:=hb j hjl
   rw [List.getD_eq_getElem?_getD,List.getD_eq_getElem?_getD,ey,hj] at this
   exact ⟨by have:=this.1; simpa using this,fun c=>by have:=this.2 c; simpa using this⟩
end
end L2
namespace K33
open PySem L2 PyProof.Rows
abbrev wO:List Str:=[Str.ofString "less"]
abbrev wo:List Str:=[Str.ofString "more"]
abbrev cIn (z:Str):List Str:=[Str.ofString "in",z]
abbrev za6 (z:Str):List Str:=[Str.ofString "out",z]
def mtC (rows:List Rw) (names:List Str) (m:Str × Nat):List Str:=if m.1 = Str.ofString "lacking" then cIn (((rows[m.2]?).map (·.z)).getD "") else za6 (names.getD m.2 "")
def mtF (rows:List Rw) (bars:List Str) (w many:Nat) (names:List Str):List (List Str):=List.replicate (many - w) wO ++ List.replicate (w - many) wo ++ (z7 rows bars w names).map (mtC rows names)
section
variable {G:Nat->List Str->Prop}
end
theorem uF:∀ (zs:List Str) (i:Nat) (acc:List (Str × Nat)),(acc.map (·.1)).Nodup->∃ new:List (Str × Nat),fpF i acc zs = acc ++ new/\((acc ++ new).map (·.1)).Nodup/\∀ p ∈ new,i<=p.2/\zs[p.2 - i]? = some p.1
 | [],i,acc,h=>⟨[],by rw [List.append_nil]; rfl,by rw [List.append_nil]; exact h,fun p hp=>nomatch hp⟩
 | z :: zs,i,acc,h=>by
  unfold fpF
  by_cases c:(acc.any fun p=>decide (p.1 = z)) = true
  ·rw [if_pos c]
   obtain ⟨new,e1,e2,e3⟩:=uF zs (i + 1) acc h
   refine ⟨new,e1,e2,fun p hp=>?_⟩
   obtain ⟨h1,h2⟩:=e3 p hp
   refine ⟨by omega,?_⟩
   rw [show p.2 - i = (p.2 - (i + 1)) + 1 by omega]
   exact h2
  ·rw [if_neg c]
   have nd:((acc ++ [(z,i)]).map (·.1)).Nodup:=by
    rw [List.map_append,List.nodup_append]
    refine ⟨h,by simp,fun x hx y hy e=>?_⟩
    have hy:y = z:=by simpa using hy
    obtain ⟨p,hp,ep⟩:=List.mem_map.mp hx
    exact c (List.any_eq_true.mpr ⟨p,hp,decide_eq_true (ep.trans (e.trans hy))⟩)
   obtain ⟨new,e1,e2,e3⟩:=uF zs (i + 1) (acc ++ [(z,i)]) nd
   refine ⟨(z,i) :: new,by rw [e1,List.append_assoc]; rfl,by rw [List.append_assoc] at e2; exact e2,fun p hp=>?_⟩
   rcases List.mem_cons.mp hp with rfl | hp
   ·exact ⟨Nat.le_refl _,by rw [Nat.sub_self]; rfl⟩
   ·obtain ⟨h1,h2⟩:=e3 p hp
    refine ⟨by omega,?_⟩
    rw [show p.2 - i = (p.2 - (i + 1)) + 1 by omega]
    exact h2
theorem zdQ {fp:List (Str × Nat)} (nd:(fp.map (·.1)).Nodup) {z:Str} {j k:Nat} (h1:(z,j) ∈ fp) (h2:(z,k) ∈ fp):j = k:=by
 obtain ⟨a,ha,ea⟩:=List.mem_iff_getElem.mp h1
 obtain ⟨b,hb,eb⟩:=List.mem_iff_getElem.mp h2
 have:a = b:=by
  refine (List.getElem_inj (xs:=fp.map (·.1)) (i:=a) (j:=b) (h₀:=by simpa using ha) (h₁:=by simpa using hb) nd).mp ?_
  rw [List.getElem_map,List.getElem_map,ea,eb]
 subst this
 rw [ea] at eb
 exact congrArg Prod.snd eb
theorem zdM {fp:List (Str × Nat)} (nd:(fp.map (·.1)).Nodup) {z:Str} {j:Nat} (h:(z,j) ∈ fp):zJ (kvP fp) (.inr z) = some (.int (j:Nat)):=by
 cases e:zJ (kvP fp) (.inr z) with
 | none=>
  have:=xG fp z
  rw [e] at this
  have h2:(fp.any fun p=>decide (p.1 = z)) = true:=List.any_eq_true.mpr ⟨_,h,decide_eq_true rfl⟩
  rw [h2] at this
  cases this
 | some v=>
  obtain ⟨z',j',e1,e2,e3⟩:=uD e
  cases e1
  rw [e2,zdQ nd e3 h]
theorem jt (names:List Str):∀ (zs:List Str) (i:Nat) (acc fp:List (Str × Nat)),fpF i acc zs = fp->(acc.map (·.1)).Nodup->(∀ p ∈ acc,p.2 < i)->(∀ (j:Nat) (z:Str),zs[j]? = some z->names.getD (i + j) "" = z)->
  ∃ new,fp = acc ++ new/\zs.Perm ((xS (kvP fp) i zs).map (fun m=>names.getD m.2 "") ++ new.map (·.1))
 | [],i,acc,fp,e,_,_,_=>⟨[],by rw [List.append_nil]; exact e.symm,List.Perm.refl _⟩
 | z :: zs,i,acc,fp,e,h,hi,hn=>by
  obtain ⟨all,e1,nd,_⟩:=uF (z :: zs) i acc h
  rw [e] at e1
  rw [<- e1] at nd
  have e:fpF (i + 1) (if (acc.any fun p=>decide (p.1 = z)) = true then acc else acc ++ [(z,i)]) zs = fp:=e
  have hn':∀ (j:Nat) (y:Str),zs[j]? = some y->names.getD (i + 1 + j) "" = y:=fun j y hy=>by
   rw [show i + 1 + j = i + (j + 1) by omega]
   exact hn (j + 1) y (by simpa using hy)
  have hz:names.getD i "" = z:=hn 0 z rfl
  have ed:xS (kvP fp) i (z :: zs) = (if zJ (kvP fp) (.inr z) = some (.int (i:Nat)) then [] else [(("doubled" : Str),i)]) ++ xS (kvP fp) (i + 1) zs:=rfl
  rw [ed]
  by_cases c:(acc.any fun p=>decide (p.1 = z)) = true
  ·rw [if_pos c] at e
   obtain ⟨new,e2,pm⟩:=jt names zs (i + 1) acc fp e h (fun p hp=>Nat.lt_succ_of_lt (hi p hp)) hn'
   obtain ⟨p,hp,ep⟩:=List.any_eq_true.mp c
   have hv:zJ (kvP fp) (.inr z) = some (.int (p.2:Nat)):=zdM nd (by rw [e2]; refine List.mem_append_left _ ?_; rw [<- of_decide_eq_true ep]; exact hp)
   have ne:¬ zJ (kvP fp) (.inr z) = some (.int (i:Nat)):=fun c=>by
    rw [hv] at c
    have:=hi p hp
    injection c with c
    injection c with c
    omega
   rw [if_neg ne]
   refine ⟨new,e2,?_⟩
   show (z :: zs).Perm (names.getD i "" :: _)
   rw [hz]
   exact List.Perm.cons z pm
  ·rw [if_neg c] at e
   have nd1:((acc ++ [(z,i)]).map (·.1)).Nodup:=by
    rw [List.map_append,List.nodup_append]
    refine ⟨h,by simp,fun x hx y hy e=>?_⟩
    have hy:y = z:=by simpa using hy
    obtain ⟨p,hp,ep⟩:=List.mem_map.mp hx
    exact c (List.any_eq_true.mpr ⟨p,hp,decide_eq_true (ep.trans (e.trans hy))⟩)
   obtain ⟨new,e2,pm⟩:=jt names zs (i + 1) (acc ++ [(z,i)]) fp e nd1 (fun p hp=>by
    rcases List.mem_append.mp hp with hp | hp
    ·exact Nat.lt_succ_of_lt (hi p hp)
    ·rw [List.mem_singleton.mp hp]; exact Nat.lt_succ_self i) hn'
   have hv:zJ (kvP fp) (.inr z) = some (.int (i:Nat)):=zdM nd (by rw [e2]; simp)
   rw [if_pos hv]
   refine ⟨(z,i) :: new,by rw [e2,List.append_assoc]; rfl,?_⟩
   exact (List.Perm.cons z pm).trans List.perm_middle.symm
theorem jZ (names:List Str):names.Perm ((xS (kvP (fpZ names)) 0 names).map (fun m=>names.getD m.2 "") ++ (fpZ names).map (·.1))/\((fpZ names).map (·.1)).Nodup/\∀ p ∈ fpZ names,names.getD p.2 "" = p.1:=by
 obtain ⟨new,e1,e2,e3⟩:=uF names 0 [] (by simp)
 obtain ⟨new',e4,pm⟩:=jt names names 0 [] (fpZ names) rfl (by simp) (fun p hp=>nomatch hp) (fun j z hj=>by rw [Nat.zero_add,List.getD_eq_getElem?_getD,hj]; rfl)
 have e5:fpZ names = new':=e4
 have e6:fpZ names = new:=e1
 rw [<- e5] at pm
 refine ⟨pm,by rw [e6]; exact e2,fun p hp=>?_⟩
 rw [e6] at hp
 have:=(e3 p hp).2
 rw [Nat.sub_zero] at this
 rw [List.getD_eq_getElem?_getD,this]
 rfl
theorem zaW {fk:List (Key × V)}:∀ (zs:List Str) (i:Nat),∀ m ∈ xS fk i zs,m.1 = Str.ofString "doubled"
 | [],_,m,h=>nomatch h
 | z :: zs,i,m,h=>by
  have h:m ∈ (if zJ fk (.inr z) = some (.int (i:Nat)) then [] else [(("doubled" : Str),i)]) ++ xS fk (i + 1) zs:=h
  rcases List.mem_append.mp h with h | h
  ·split at h
   ·cases h
   ·rw [List.mem_singleton.mp h]
  ·exact zaW zs (i + 1) m h
end K33
namespace L2
open PySem PyProof.Rows
def zhg (X:Cx) (ss:List Stmt):TS:=fun D σ H=>∃ t,PSs X ss t/\t D σ H
theorem y7 {X:Cx} {ss:List Stmt}:PSs X ss (zhg X ss):=⟨fun pins s σ H D I ⟨_,p,h⟩=>p pins s σ H D I h⟩
theorem zv {X:Cx} {st:Stmt} {rest:List Stmt} {t:TS} {D:L2.uj} {σ : L2.St} {H:Hp} (p:PS X st t) (h:vQ t (zhg X rest) D σ H):zhg X (st :: rest) D σ H:=⟨_,zj p y7,h⟩
end L2
namespace L2
open PySem PySem.Spec PyProof.Rows
section
variable {P:Program} {w:World} {K:Frag} {mg:Str->Option Value} {base h:Heap} {x q p p2 p3 p4 p5:Str} {st:Stmt} {f C T:Addr} {fd:FuncData} {sp:Sp} {k n:Nat}
structure TB (P:Program) (w:World) (K:Frag) (mg:Str->Option Value) (base:Heap):Prop where
 mgo:∀ {x:Str} {v:Value},nsIn K mainGlobals x = some (some v)->mg x = some v
structure GD (K:Frag) (x:Str) (st:Stmt) (f:Addr) (fd:FuncData):Prop where
 a:nsIn K mainGlobals x = some (some (.ref f))
 F:Fun K x x st f fd
structure MD (K:Frag) (C:Addr) (x q:Str) (st:Stmt) (f:Addr) (fd:FuncData):Prop where
 m:y1 K C x f
 F:Fun K x q st f fd
structure DD (K:Frag) (C:Addr) (x q:Str) (st:Stmt) (f:Addr) (fd:FuncData) (ds:List Value):Prop where
 m:y1 K C x f
 F:jB K x q st f fd ds
structure CD (K:Frag) (x:Str) (C:Addr):Prop where
 a:nsIn K mainGlobals x = some (some (.ref C))
 c:Cls K C
 ms:makesIn K C = true
 kc:keepIn K (.ref C) = true
theorem zj6 {oc:Value} {od an:Option Addr} {osl:Array (Option Value)} {kV doc pm cdv ct:Value} (a:nsIn K mainGlobals x = some (some (.ref f))) (l:K.lookup f = some ⟨oc,od,.func (fnOf x x (z6 st) (zX st) (zh st) .none kV doc pm an cdv ct),osl⟩)
  (c:codeIn K cdv x = true) (k:keepIn K (.ref f) = true):GD K x st f (fnOf x x (z6 st) (zX st) (zh st) .none kV doc pm an cdv ct):=⟨a,zfg l c k⟩
theorem zj5 {oc:Value} {od an:Option Addr} {osl:Array (Option Value)} {kV doc pm cdv ct:Value} (a:findIn K (.ref C) x = some (some (.ref f))) (i:isFn K (.ref f) = true) (l:K.lookup f = some ⟨oc,od,.func (fnOf x q (z6 st) (zX st) (zh st) .none kV doc pm an cdv ct),osl⟩)
  (c:codeIn K cdv q = true) (k:keepIn K (.ref f) = true):MD K C x q st f (fnOf x q (z6 st) (zX st) (zh st) .none kV doc pm an cdv ct):=⟨⟨a,i,k⟩,zfg l c k⟩
theorem zj7 {oc oT:Value} {od an dT:Option Addr} {osl sT:Array (Option Value)} {kV doc pm cdv ct d:Value} (a:findIn K (.ref C) x = some (some (.ref f))) (i:isFn K (.ref f) = true) (l:K.lookup f = some ⟨oc,od,.func (fnOf x q (z6 st) (zX st) (zh st) (.ref T) kV doc pm an cdv ct),osl⟩)
  (c:codeIn K cdv q = true) (k:keepIn K (.ref f) = true) (t:K.lookup T = some ⟨oT,dT,.seq #[d] n,sT⟩):DD K C x q st f (fnOf x q (z6 st) (zX st) (zh st) (.ref T) kV doc pm an cdv ct) [d]:=⟨⟨a,i,k⟩,zgD (items:=[d]) l c k t rfl⟩
theorem zj8 (a:nsIn K mainGlobals x = some (some (.ref C))) (pg:plainGet K C Str.empty = true) (hd:hasDictIn K C = true) (po:plainOver K C = true) (sa:findIn K (.ref C) "__setattr__" = some (some (.builtin "object.__setattr__"))) (mk:makesIn K C = true) (kc:keepIn K (.ref C) = true):CD K x C:=⟨a,⟨pg,hd,po,sa⟩,mk,kc⟩
theorem Fun.b1 (F:Fun K x q st f fd) (h:∀ (kV doc pm:Value) (an:Option Addr) (cdv ct u:Value),bindArgs (fnOf x q (z6 st) (zX st) (zh st) .none kV doc pm an cdv ct) ⟨[u],[]⟩ = pure [(p,u)]:=by intros; rfl):zV K fd [p] []:=
 F.binds fun _ _ _ _ _ _ us hl=>match us,hl with | [_],_=>h _ _ _ _ _ _ _
theorem Fun.b2 (F:Fun K x q st f fd) (h:∀ (kV doc pm:Value) (an:Option Addr) (cdv ct u u2:Value),bindArgs (fnOf x q (z6 st) (zX st) (zh st) .none kV doc pm an cdv ct) ⟨[u,u2],[]⟩ = pure [(p,u),(p2,u2)]:=by intros; rfl):zV K fd [p,p2] []:=
 F.binds fun _ _ _ _ _ _ us hl=>match us,hl with | [_,_],_=>h _ _ _ _ _ _ _ _
theorem Fun.b3 (F:Fun K x q st f fd) (h:∀ (kV doc pm:Value) (an:Option Addr) (cdv ct u u2 u3:Value),bindArgs (fnOf x q (z6 st) (zX st) (zh st) .none kV doc pm an cdv ct) ⟨[u,u2,u3],[]⟩ = pure [(p,u),(p2,u2),(p3,u3)]:=by intros; rfl):zV K fd [p,p2,p3] []:=
 F.binds fun _ _ _ _ _ _ us hl=>match us,hl with | [_,_,_],_=>h _ _ _ _ _ _ _ _ _
theorem Fun.b4 (F:Fun K x q st f fd) (h:∀ (kV doc pm:Value) (an:Option Addr) (cdv ct u u2 u3 u4:Value),bindArgs (fnOf x q (z6 st) (zX st) (zh st) .none kV doc pm an cdv ct) ⟨[u,u2,u3,u4],[]⟩ = pure [(p,u),(p2,u2),(p3,u3),(p4,u4)]:=by intros; rfl):zV K fd [p,p2,p3,p4] []:=
 F.binds fun _ _ _ _ _ _ us hl=>match us,hl with | [_,_,_,_],_=>h _ _ _ _ _ _ _ _ _ _
theorem GD.c1 (g:GD K x st f fd) (B:TB P w K mg base) (ok:zA P w K mg base CX0 k f fd [p] sp) (h:∀ (kV doc pm:Value) (an:Option Addr) (cdv ct u:Value),bindArgs (fnOf x x (z6 st) (zX st) (zh st) .none kV doc pm an cdv ct) ⟨[u],[]⟩ = pure [(p,u)]:=by intros; rfl):zC P w K mg base k x f fd [p] sp:=⟨ok,B.mgo g.a,g.F.kp,g.F.b1 h⟩
theorem GD.c2 (g:GD K x st f fd) (B:TB P w K mg base) (ok:zA P w K mg base CX0 k f fd [p,p2] sp) (h:∀ (kV doc pm:Value) (an:Option Addr) (cdv ct u u2:Value),bindArgs (fnOf x x (z6 st) (zX st) (zh st) .none kV doc pm an cdv ct) ⟨[u,u2],[]⟩ = pure [(p,u),(p2,u2)]:=by intros; rfl):zC P w K mg base k x f fd [p,p2] sp:=⟨ok,B.mgo g.a,g.F.kp,g.F.b2 h⟩
theorem GD.c3 (g:GD K x st f fd) (B:TB P w K mg base) (ok:zA P w K mg base CX0 k f fd [p,p2,p3] sp) (h:∀ (kV doc pm:Value) (an:Option Addr) (cdv ct u u2 u3:Value),bindArgs (fnOf x x (z6 st) (zX st) (zh st) .none kV doc pm an cdv ct) ⟨[u,u2,u3],[]⟩ = pure [(p,u),(p2,u2),(p3,u3)]:=by intros; rfl):zC P w K mg base k x f fd [p,p2,p3] sp:=⟨ok,B.mgo g.a,g.F.kp,g.F.b3 h⟩
theorem GD.c4 (g:GD K x st f fd) (B:TB P w K mg base) (ok:zA P w K mg base CX0 k f fd [p,p2,p3,p4] sp) (h:∀ (kV doc pm:Value) (an:Option Addr) (cdv ct u u2 u3 u4:Value),bindArgs (fnOf x x (z6 st) (zX st) (zh st) .none kV doc pm an cdv ct) ⟨[u,u2,u3,u4],[]⟩ = pure [(p,u),(p2,u2),(p3,u3),(p4,u4)]:=by intros; rfl):zC P w K mg base k x f fd [p,p2,p3,p4] sp:=⟨ok,B.mgo g.a,g.F.kp,g.F.b4 h⟩
theorem GD.law (g:GD K x st f fd) (h:∀ (kV doc pm:Value) (an:Option Addr) (cdv ct u:Value),bindArgs (fnOf x x (z6 st) (zX st) (zh st) .none kV doc pm an cdv ct) ⟨[u],[]⟩ = pure [(p,u)]:=by intros; rfl):∀ (s:Shared) (v:Value),BindsTo s fd ⟨[v],[]⟩ [(p,v)]:=by
 obtain ⟨oc,od,kV,doc,pm,an,cdv,ct,osl,rfl,lk,hcd⟩:=g.F.ex
 exact fun s v=>.of_eq (h kV doc pm an cdv ct v)
theorem DD.b0 {d:Value} (D:DD K C x q st f fd [d]) (h:∀ (T:Addr) (kV doc pm:Value) (an:Option Addr) (cdv ct u u2 u3:Value),∃ k:Option (Array Value)->Sem (List (Str × Value)),bindArgs (fnOf x q (z6 st) (zX st) (zh st) (.ref T) kV doc pm an cdv ct) ⟨[u,u2,u3],[]⟩ = seqItems? (.ref T) >>= k/\k (some [d].toArray) = pure [(p,u),(p2,u2),(p3,u3)]:=by exact fun _ _ _ _ _ _ _ _ _ _=>⟨_,rfl,rfl⟩):zV K fd [p,p2,p3] []:=
 fun _ us KX hl=>match us,hl with | [_,_,_],_=>D.F.bindsTo (fun _ _ _ _ _ _ _=>h _ _ _ _ _ _ _ _ _ _) KX
end
end L2
namespace K33
open PySem L2 PyProof.Rows
def ya (rows:List Rw) (many:Nat):Nat:=if (zy 2 0 rows).isSome = true then max (plN rows) many else plN rows
def yA (rows:List Rw):Nat:=vd (nms rows) rows (plN rows)
theorem ud (names:List Str) (rows:List Rw):∀ n,vd names rows n<=n
 | 0=>Nat.le_refl _
 | n + 1=>by
  unfold vd
  split
  ·split
   ·exact Nat.le_refl _
   ·exact Nat.le_succ_of_le (ud names rows n)
  ·exact Nat.le_succ_of_le (ud names rows n)
theorem zaF {o:Option Nat}:xD o = .non ↔ o.isSome = false:=by cases o <;> simp [xD]
structure zin (mg:Str->Option Value):Prop where
 max:mg "max" = none
 list:mg "list" = none
 range:mg "range" = none
 min:mg "min" = none
 len:mg "len" = none
def zak (c:C5) (CF:Addr):Sp:=fun vs H Q _=>∃ (f:Addr) (many:Nat) (rows:List Rw) (bars:List Str),vs = [.ref f,.int (many:Nat)]/\wC c CF H f rows bars/\rows.length<=24/\many<=800/\
 ∀ (l:Addr) (H':Hp),zm H H'->H l = none->H' l = some (.lst ((L2.xj (yA rows) (ya rows many + 1 - yA rows)).map V.int))->Q (.ref l) H'
section
variable {P:Program} {w:World} {K:Frag} {mg:Str->Option Value} {base:Heap} {f CF:Addr} {fd:FuncData} {c:C5} {m:MA}
theorem vy:zt ["form","many","doors","most"] ["form","many"] (zh qu):=⟨rfl,rfl,rfl,by decide +kernel,rfl,by decide +kernel,by decide +kernel⟩
theorem zdf {g1 gP gL gT:Addr} {e1 eP eL eT gd:FuncData} (F:Fun K "wanted_numbers" "wanted_numbers" qu f fd) (U:zin mg) (FK:FC K CF) (PP:Pcs K m c) (cFw:zC P w K mg base 2 "fewest_by_place" g1 e1 ["form","names"] (zg2 c CF)) (mP:y1 K CF "parameters" gP) (GP:zA P w K mg base CX0 1 gP eP ["self"] (vR c CF)) (bP:zV K eP ["self"] []) (mL:y1 K CF "places" gL) (GL:zA P w K mg base CX0 1 gL eL ["self"] (wg c CF)) (bL:zV K eL ["self"] []) (mT:y1 K CF "tail" gT) (GT:zA P w K mg base CX0 1 gT eT ["self"] (vj c CF 2)) (bT:zV K eT ["self"] []) (GB:zA P w K mg base CX0 1 m.fB gd ["self"] (uM K m bnL)) (bB:zV K gd ["self"] []):zA P w K mg base CX0 3 f fd ["form","many"] (zak c CF):=by
 refine F.ok vy (fun vs H Q E h=>?_) (fun cdv A outer s H vs Q E hr h=>?_)
 ·obtain ⟨f,many,rows,bars,rfl,_⟩:=h
  rfl
 obtain ⟨f,many,rows,bars,rfl,hF,l24,m8,q⟩:=h
 have hr1:yq 1 _:=hr.mono (by decide)
 have hC:∀ C,Cs5 c C->Cls K C/\y1 K C "by_name" m.fB:=fun C ⟨k,hk,e⟩=>by rw [e]; exact ⟨(PP k hk).cl,(PP k hk).mB⟩
 obtain ⟨dx,fs,lr,lb',ld,pps,h1,h2,h3,h4,h5,h6⟩:=id hF.at_
 have lpl:plN rows<=24:=Nat.le_trans (List.length_filter_le _ _) l24
 have hfp:=ud (nms rows) rows (plN rows)
 refine zv (vg (i:=2) [] ["parameter"] [none] vy.nd rfl (Or.inl rfl) rfl ⟨rfl,rfl,rfl,rfl⟩ (zU (yC (pv 0) FK.cl mP GP hr1 bP .nil yh)) (zM 0) rfl rfl rfl
    (fun pins fp s H C=>⟨zk (i:=0) zh9 rfl (Or.inl rfl) (.inr rfl),xr (yz (xK (pv 0) hC GB hr1 bB yh)),qG (K:=K) rfl (pv 0) rfl⟩)) ?_
 refine ⟨_,rfl,f,dx,fs,rfl,h1,h2.no _ (by decide +kernel),f,rows,bars,rfl,hF.at_,fun a ps H1 s1 na ha hp=>?_⟩
 refine ⟨a,rfl,⟨_,SqL.of ha⟩,fun D hD=>?_⟩
 refine qL (K:=K) (xs:=ps.map V.ref) rows (fun r=>yl r.k) (fun r=>V.str r.z) hD (SqL.of ha) (by rw [List.length_map,hp.length]) (by rw [List.length_map,hp.length]; omega) (fun i x r H' Nn S hx hr' sH nn ss=>?_) (fun H2 s2 e2=>?_)
 ·obtain ⟨pa,hpa,rfl⟩:=xC hx
  obtain ⟨r',hr2,dx,hdx⟩:=yw hp hpa
  rw [hr'] at hr2
  cases hr2
  have rok:=hF.ok r (List.mem_of_getElem? hr')
  have C:=PP r.k rok.1
  have hd2:=sH _ _ hdx
  refine ⟨_,rfl,pa,_,dx,_,rfl,⟨r.k,rok.1,rfl⟩,hd2,vC (by decide +kernel) (by decide +kernel) (by decide +kernel),pa,dx,_,_,_,_,rfl,C,hd2,_,rfl,?_⟩
  rw [jT r.k rok.1]
  exact ⟨fun e=>⟨_,rfl,pa,_,dx,_,_,rfl,hd2,C.cl,C.nN,wx,nn _ (zm.refl _) e⟩,fun e=>ss _ (zm.refl _) e⟩
 have e2:H2 D = some (.lst ((nms rows).map V.str)):=by
  rw [e2]
  unfold nms
  rw [List.map_map]
  rfl
 have s02:=s1.trans s2
 dsimp only [zB]
 refine zv (zw (i:=3) vy.nd rfl (Or.inl rfl) (yC (pv 0) FK.cl mL GL hr1 bL .nil yh)) ?_
 refine ⟨_,rfl,f,dx,fs,rfl,s02 _ _ h1,h2.no _ (by decide +kernel),f,rows,bars,rfl,(hF.same s02).at_,?_⟩
 dsimp only [zB]
 refine zv (zD (x8 (zcB (yC (pv 0) FK.cl mT GT hr1 bT .nil yh))) (zd (zw (i:=3) vy.nd rfl (Or.inl rfl) (cB (j7 rfl) U.max boot_max (ac (pv 3) (ac (pv 1) zb))))) zu) ?_
 refine y6 (fun σ' H'=>σ' = [some (.ref f),some (.int (many:Nat)),some (.ref D),some (.int (ya rows many:Nat))]/\H2 = H') ?_ (fun key=>?_)
 rotate_left
 ·refine ⟨_,rfl,f,dx,fs,rfl,s02 _ _ h1,h2.no _ (by decide +kernel),f,rows,bars,rfl,(hF.same s02).at_,_,rfl,?_⟩
  cases e:(zy 2 0 rows).isSome with
  | true=>
   refine yU (by rw [decide_eq_false (fun c=>by rw [zaF] at c; rw [e] at c; cases c)]; rfl) ?_
   refine ⟨_,rfl,_,rfl,_,_,rfl,?_⟩
   refine key _ _ ⟨?_,rfl⟩
   have:(if ((many:Nat):Int) > ((plN rows:Nat):Int) then ((many:Nat):Int) else ((plN rows:Nat):Int)) = ((ya rows many:Nat):Int):=by
    unfold ya
    rw [if_pos e]
    split <;> omega
   rw [this]
   rfl
  | false=>
   refine yp (by rw [decide_eq_true (zaF.mpr e)]; rfl) ?_
   refine key _ _ ⟨?_,rfl⟩
   have:ya rows many = plN rows:=by unfold ya; rw [if_neg (by rw [e]; decide)]
   rw [this]
   rfl
 rintro σ _ ⟨rfl,rfl⟩
 have hm:ya rows many<=850/\plN rows<=ya rows many:=by
  unfold ya
  split <;> omega
 refine ⟨_,zd (zp (cTy (za4 rfl) U.list PyProof.Rows.boot_list (ac (cTy zdB U.range PyProof.Rows.boot_range (ac (cF cFw hr (ac (pv 0) (ac (pv 2) zb))) (ac (zq yc (pv 3) ze) zb))) zb))),?_⟩
 refine ⟨_,rfl,_,rfl,f,D,rows,bars,nms rows,rfl,hF.same s02,e2,fun H3 s3=>?_⟩
 refine ⟨_,rfl,_,_,rfl,rfl,yA rows,ya rows many + 1,rfl,fun p hp=>?_⟩
 have s4:=zc hp (.rng (yA rows:Nat) ((ya rows many + 1:Nat):Int))
 refine ⟨p,yA rows,ya rows many + 1,rfl,za,by unfold yA; omega,by omega,fun l hl=>?_⟩
 have s5:=zc hl (.lst ((L2.xj (yA rows) (ya rows many + 1 - yA rows)).map V.int))
 exact q l _ (s02.trans (s3.trans (s4.trans s5))) ((s02.trans (s3.trans s4)).free hl) za
end
abbrev F':Addr->Prop:=fun _=>False
abbrev chD (c:List Str):Dt:=.tup (c.map Dt.str)
theorem uX {α : Type} (x : α):∀ k,(List.replicate k [x]).flatten = List.replicate k x
 | 0=>rfl
 | k + 1=>by rw [List.replicate_succ,List.flatten_cons,uX x k]; rfl
theorem uS {K:Frag} {ok:Addr->Prop} {H:Hp} {x:V} {d:Dt} (h:zO K ok H 1 x d):∀ k,Paired (zO K ok H 1) (List.replicate k x) (List.replicate k d)
 | 0=>.nil
 | k + 1=>.cons h (uS h k)
theorem vS {K:Frag} {ok:Addr->Prop} {H:Hp} {t:Addr} {zs:List Str} (h:H t = some (.tup (zs.map V.str))):zO K ok H 1 (.ref t) (chD zs):=zO.tup (SqT.of h) (by
 induction zs generalizing t with
 | nil=>exact .nil
 | cons z zs ih=>
  have:∀ (zs:List Str),Paired (zO K ok H 0) (zs.map V.str) (zs.map Dt.str):=fun zs=>by
   induction zs with
   | nil=>exact .nil
   | cons z zs ih=>exact .cons .str ih
  exact this (z :: zs))
theorem zfp {fk:List (Key × V)}:∀ (zs:List Str) (i:Nat),∀ m ∈ xS fk i zs,m.2 < i + zs.length
 | [],_,m,h=>nomatch h
 | z :: zs,i,m,h=>by
  have h:m ∈ (if zJ fk (.inr z) = some (.int (i:Nat)) then [] else [(("doubled" : Str),i)]) ++ xS fk (i + 1) zs:=h
  rw [List.length_cons]
  rcases List.mem_append.mp h with h | h
  ·split at h
   ·cases h
   ·rw [List.mem_singleton.mp h]; show i < _; omega
  ·have:=zfp zs (i + 1) m h
   omega
theorem zgt {rows:List Rw} {bars names:List Str} {w:Nat} (hw:(zy 2 0 rows).isSome = true\/w<=plN rows) {m:Str × Nat} (hm:m ∈ z7 rows bars w names):(m.1 = Str.ofString "lacking"/\∃ r,rows[m.2]? = some r)\/(m.1 ≠ Str.ofString "lacking"/\m.2 < names.length):=by
 unfold z7 at hm
 rw [wJ.mpr hw,List.append_nil] at hm
 rcases List.mem_append.mp hm with hm | hm
 ·refine .inr ?_
  rcases List.mem_append.mp hm with hm | hm
  ·refine ⟨fun c=>absurd ((zaW _ _ m hm).symm.trans c) (by decide +kernel),?_⟩
   have:=zfp _ _ m hm
   omega
  ·unfold w9 at hm
   obtain ⟨p,hp,e⟩:=List.mem_filterMap.mp hm
   cases e1:z3 rows bars w p.1 with
   | none=>rw [e1] at e; cases e
   | some wd=>
    rw [e1] at e
    have e:(wd,p.2) = m:=Option.some.inj e
    subst e
    refine ⟨zdN e1,?_⟩
    have:=zfi names 0 [] (fun p hp=>nomatch hp) p hp
    rw [Nat.zero_add] at this
    exact this
 ·obtain ⟨h1,j,r,hj,e,_⟩:=(zaL rows 0).mp hm
  rw [Nat.zero_add] at e
  exact .inl ⟨h1,r,by rw [e]; exact hj⟩
theorem ze2 {rows:List Rw} {bars names:List Str} {w:Nat} (hw:(zy 2 0 rows).isSome = true\/w<=plN rows):(z7 rows bars w names).length<=2 * names.length + rows.length:=by
 unfold z7
 rw [wJ.mpr hw,List.append_nil,List.length_append,List.length_append]
 have h1:∀ (zs:List Str) (i:Nat) (fk:List (Key × V)),(xS fk i zs).length<=zs.length:=fun zs=>by
  induction zs with
  | nil=>intro i fk; exact Nat.le_refl _
  | cons z zs ih=>
   intro i fk
   show ((if zJ fk (.inr z) = some (.int (i:Nat)) then [] else [(("doubled" : Str),i)]) ++ xS fk (i + 1) zs).length<=_
   rw [List.length_append,List.length_cons]
   have:=ih (i + 1) fk
   split <;> simp <;> omega
 have h2:(w9 rows bars w (fpZ names)).length<=names.length:=by
  unfold w9
  have:=qQ names 0 []
  have h3:(fpZ names).length<=names.length:=by simpa [fpZ] using this
  exact Nat.le_trans (List.length_filterMap_le _ _) h3
 have h3:∀ (rows:List Rw) (i:Nat) (fk:List (Key × V)),(xh w fk i rows).length<=rows.length:=fun rows=>by
  induction rows with
  | nil=>intro i fk; exact Nat.le_refl _
  | cons r rs ih=>
   intro i fk
   show ((if yV r i w fk = true then [(("lacking" : Str),i)] else []) ++ xh w fk (i + 1) rs).length<=_
   rw [List.length_append,List.length_cons]
   have:=ih (i + 1) fk
   split <;> simp <;> omega
 have a1:=h1 names 0 (kvP (fpZ names))
 have a3:=h3 rows 0 (kvP (fpZ names))
 omega
def zhd (K:Frag) (H H':Hp) (l:Addr) (cs:List (List Str)):Prop:=H l = none/\∃ vs:List V,H' l = some (.lst vs)/\Paired (zO K F' H' 1) vs (cs.map chD)
def zg0 (K:Frag) (c:C5) (CF:Addr):Sp:=fun vs H Q _=>∃ (f a:Addr) (w many:Nat) (rows:List Rw) (bars names:List Str),vs = [.ref f,.int (w:Nat),.int (many:Nat),.ref a]/\wC c CF H f rows bars/\rows.length<=24/\bars.length<=60/\w<=150/\many<=100/\names.length<=100/\H a = some (.lst (names.map V.str))/\((zy 2 0 rows).isSome = true\/w<=plN rows)/\
 ∀ (l:Addr) (H':Hp),zm H H'->zhd K H H' l (mtF rows bars w many names)->Q (.ref l) H'
section
variable {P:Program} {w:World} {K:Frag} {mg:Str->Option Value} {base:Heap} {f CF:Addr} {fd:FuncData} {c:C5} {m:MA}
theorem zcs:zt ["form","wanted","many","names","changes","word","number"] ["form","wanted","many","names"] (zh zhK):=⟨rfl,rfl,rfl,by decide +kernel,rfl,by decide +kernel,by decide +kernel⟩
theorem zh2 {g1 gP:Addr} {e1 eP:FuncData} (F:Fun K "mends_to" "mends_to" zhK f fd) (FK:FC K CF) (PP:Pcs K m c) (cMo:zC P w K mg base 4 "misfits_of" g1 e1 ["form","many","names"] (zg1 c CF)) (mP:y1 K CF "parameters" gP) (GP:zA P w K mg base CX0 1 gP eP ["self"] (vR c CF)) (bP:zV K eP ["self"] []):zA P w K mg base CX0 5 f fd ["form","wanted","many","names"] (zg0 K c CF):=by
 refine F.ok zcs (fun vs H Q E h=>?_) (fun cdv A outer s H vs Q E hr h=>?_)
 ·obtain ⟨f,a,w,many,rows,bars,names,rfl,_⟩:=h
  rfl
 obtain ⟨f,a,ww,many,rows,bars,names,rfl,hF,l24,l60,w8,m8,n1,ha,hw,q⟩:=h
 have hr1:yq 1 _:=hr.mono (by decide)
 obtain ⟨dx,fs,lr,lb',ld,pps,h1,h2,h3,h4,h5,h6⟩:=id hF.at_
 refine zv (zw (i:=4) zcs.nd rfl (Or.inl rfl) (zq yG (zq qI (zT (ac (zE (ac zn zb)) zb)) (zq xL (pv 2) (pv 1))) (zq qI (zT (ac (zE (ac zn zb)) zb)) (zq xL (pv 1) (pv 2))))) ?_
 have sz : 1000<=sizeLine:=by decide
 refine ⟨zz1,fun t1 ht1=>⟨zz1,fun l1 hl1=>?_⟩⟩
 have s1:=zc ht1 (.tup [.str "less"])
 have g1:upd H t1 (.tup [.str "less"]) t1 = some (.tup (wO.map V.str)):=za
 have s2:=zc hl1 (.lst [.ref t1])
 have g2:upd (upd H t1 (.tup [.str "less"])) l1 (.lst [.ref t1]) l1 = some (.lst [.ref t1]):=za
 have s02:=s1.trans s2
 have g1:=s2 _ _ g1
 generalize upd (upd H t1 (.tup [.str "less"])) l1 (.lst [.ref t1]) = H2 at s2 g2 s02 g1 |-
 have k1:(((many:Nat):Int) - ((ww:Nat):Int)).toNat = many - ww:=by omega
 have k2:(((ww:Nat):Int) - ((many:Nat):Int)).toNat = ww - many:=by omega
 refine ⟨_,rfl,_,rfl,_,_,rfl,rfl,l1,_,_,rfl,rfl,g2,by omega,by omega,(by rw [k1]; show 1 * (many - ww)<=sizeLine; omega),fun l3 hl3=>?_⟩
 rw [k1,uX]
 have s3:=zc hl3 (.lst (List.replicate (many - ww) (.ref t1)))
 have g3:upd H2 l3 (.lst (List.replicate (many - ww) (.ref t1))) l3 = some (.lst (List.replicate (many - ww) (.ref t1))):=za
 have s03:=s02.trans s3
 have g1:=s3 _ _ g1
 generalize upd H2 l3 (.lst (List.replicate (many - ww) (.ref t1))) = H3 at s3 g3 s03 g1 |-
 refine ⟨zz1,fun t4 ht4=>⟨zz1,fun l4 hl4=>?_⟩⟩
 have s4:=zc ht4 (.tup [.str "more"])
 have g4:upd H3 t4 (.tup [.str "more"]) t4 = some (.tup (wo.map V.str)):=za
 have s5:=zc hl4 (.lst [.ref t4])
 have g5:upd (upd H3 t4 (.tup [.str "more"])) l4 (.lst [.ref t4]) l4 = some (.lst [.ref t4]):=za
 have s45:=s4.trans s5
 have s05:=s03.trans s45
 have g1:=s45 _ _ g1
 have g3:=s45 _ _ g3
 have g4:=s5 _ _ g4
 generalize upd (upd H3 t4 (.tup [.str "more"])) l4 (.lst [.ref t4]) = H5 at s5 g5 s45 s05 g1 g3 g4 |-
 refine ⟨_,rfl,_,rfl,_,_,rfl,rfl,l4,_,_,rfl,rfl,g5,by omega,by omega,(by rw [k2]; show 1 * (ww - many)<=sizeLine; omega),fun l6 hl6=>?_⟩
 rw [k2,uX]
 have s6:=zc hl6 (.lst (List.replicate (ww - many) (.ref t4)))
 have g6:upd H5 l6 (.lst (List.replicate (ww - many) (.ref t4))) l6 = some (.lst (List.replicate (ww - many) (.ref t4))):=za
 have s06:=s05.trans s6
 have g1:=s6 _ _ g1
 have g3:=s6 _ _ g3
 have g4:=s6 _ _ g4
 generalize upd H5 l6 (.lst (List.replicate (ww - many) (.ref t4))) = H6 at s6 g6 s06 g1 g3 g4 |-
 refine ⟨l3,l6,_,_,rfl,rfl,g3,g6,(by rw [List.length_replicate,List.length_replicate]; omega),fun lc hlc=>?_⟩
 have s7:=zc hlc (.lst (List.replicate (many - ww) (.ref t1) ++ List.replicate (ww - many) (.ref t4)))
 have g7:upd H6 lc (.lst (List.replicate (many - ww) (.ref t1) ++ List.replicate (ww - many) (.ref t4))) lc = some (.lst (List.replicate (many - ww) (.ref t1) ++ List.replicate (ww - many) (.ref t4))):=za
 have s07:=s06.trans s7
 have g1:=s7 _ _ g1
 have g4:=s7 _ _ g4
 have nlc:H lc = none:=s06.free hlc
 generalize upd H6 lc (.lst (List.replicate (many - ww) (.ref t1) ++ List.replicate (ww - many) (.ref t4))) = H7 at s7 g7 s07 g1 g4 |-
 have p7:Paired (zO K F' H7 1) (List.replicate (many - ww) (.ref t1) ++ List.replicate (ww - many) (.ref t4)) ((List.replicate (many - ww) wO ++ List.replicate (ww - many) wo).map chD):=by
  rw [List.map_append,List.map_replicate,List.map_replicate]
  exact yI (uS (vS g1) _) (uS (vS g4) _)
 have lv7:(List.replicate (many - ww) (V.ref t1) ++ List.replicate (ww - many) (V.ref t4)).length<=150:=by rw [List.length_append,List.length_replicate,List.length_replicate]; omega
 have l7:(List.replicate (many - ww) wO ++ List.replicate (ww - many) wo).length<=150:=by rw [List.length_append,List.length_replicate,List.length_replicate]; omega
 have eM:mtF rows bars ww many names = (List.replicate (many - ww) wO ++ List.replicate (ww - many) wo) ++ (z7 rows bars ww names).map (mtC rows names):=rfl
 generalize List.replicate (many - ww) (V.ref t1) ++ List.replicate (ww - many) (V.ref t4) = v7 at g7 p7 lv7
 generalize List.replicate (many - ww) wO ++ List.replicate (ww - many) wo = c7 at p7 eM l7
 clear s6 g6 s06 s45 s05 g3 s5 g5 s4 s03 s3 s02 s2 s1 g2
 dsimp only [zB]
 have lms:(z7 rows bars ww names).length<=2 * names.length + rows.length:=ze2 hw
 have atM:∀ m ∈ z7 rows bars ww names,(m.1 = Str.ofString "lacking"/\∃ r,rows[m.2]? = some r)\/(m.1 ≠ Str.ofString "lacking"/\m.2 < names.length):=fun m hm=>zgt hw hm
 refine zv (yn PassesOwn.never rfl (zU (cF cMo hr (ac (pv 0) (ac (pv 1) (ac (pv 3) zb))))) (yH rfl (zz (zk (i:=5) zcs.nd rfl (Or.inl rfl)) (zz (zk (i:=6) zcs.nd rfl (Or.inl rfl)) yo))) y7) ?_
 refine ⟨_,rfl,_,rfl,_,rfl,f,a,ww,rows,bars,names,rfl,by omega,by omega,by omega,by omega,hF.ok,(hF.same s07).at_,s07 _ _ ha,fun lm H8 s8 ⟨us,nlm,hlm,hms⟩=>?_⟩
 generalize z7 rows bars ww names = ms at eM lms atM hms
 have lu:us.length = ms.length:=hms.length
 refine ⟨lm,rfl,⟨_,SqL.of hlm⟩,yJ (K:=K) (a:=lm) (xs:=us.map V.ref) (fun i σ H'=>∃ (v5 v6:Option V) (vs:List V),σ = [some (.ref f),some (.int (ww:Nat)),some (.int (many:Nat)),some (.ref a),some (.ref lc),v5,v6]/\zm H H'/\H' lm = some (.lst (us.map V.ref))/\xV H' us ms/\H' lc = some (.lst vs)/\Paired (zO K F' H' 1) vs ((c7 ++ (ms.take i).map (mtC rows names)).map chD)) ⟨_,_,v7,rfl,s07.trans s8,hlm,hms,s8 _ _ g7,by rw [List.take_zero,List.map_nil,List.append_nil]; exact Paired.imp' (fun _ _ z=>z.same s8) p7⟩ (fun i σ H' _ ⟨_,_,_,_,_,h,_⟩=>SqL.of h) ?_ ?_⟩
 ·rintro i x σ H9 hx ⟨v5,v6,vs,rfl,s9,hlm9,hms9,hlc9,pv9⟩
  obtain ⟨u,hu,rfl⟩:=xC hx
  obtain ⟨mm,hm,mu⟩:=yw hms9 hu
  have hi:i < ms.length:=(List.getElem?_eq_some_iff.mp hm).1
  have nlm9:lm ≠ lc:=fun e=>by
   rw [e] at nlm
   rw [g7] at nlm
   cases nlm
  have lvs:vs.length<=1000:=by
   rw [pv9.length,List.length_map,List.length_append,List.length_map,List.length_take]
   omega
  have tk:(c7 ++ (ms.take (i + 1)).map (mtC rows names)).map chD = (c7 ++ (ms.take i).map (mtC rows names)).map chD ++ [chD (mtC rows names mm)]:=by
   simp only [wp hm,List.map_append,List.append_assoc]
   rfl
  have put:∀ (H10:Hp) (t:Addr) (zs:List Str),zm H9 H10->H10 t = some (.tup (zs.map V.str))->mtC rows names mm = zs->∃ (v5 v6:Option V) (vs':List V),([some (.ref f),some (.int (ww:Nat)),some (.int (many:Nat)),some (.ref a),some (.ref lc),some (.str mm.1),some (.int (mm.2:Nat))]:List (Option V)) = [some (.ref f),some (.int (ww:Nat)),some (.int (many:Nat)),some (.ref a),some (.ref lc),v5,v6]/\zm H (upd H10 lc (.lst (vs ++ [.ref t])))/\upd H10 lc (.lst (vs ++ [.ref t])) lm = some (.lst (us.map V.ref))/\xV (upd H10 lc (.lst (vs ++ [.ref t]))) us ms/\upd H10 lc (.lst (vs ++ [.ref t])) lc = some (.lst vs')/\Paired (zO K F' (upd H10 lc (.lst (vs ++ [.ref t]))) 1) vs' ((c7 ++ (ms.take (i + 1)).map (mtC rows names)).map chD):=fun H10 t zs s10 ht e=>by
   refine ⟨_,_,vs ++ [.ref t],rfl,z9 (s9.trans s10) nlc _,by rw [zg nlm9]; exact s10 _ _ hlm9,(hms9.same s10).upd (s10 _ _ hlc9),za,?_⟩
   rw [tk,e]
   have hlc10:=s10 _ _ hlc9
   exact Paired.snoc (Paired.imp' (fun _ _ z=>wk (.inr ⟨_,hlc10⟩) (fun b hb _=>hb.elim) (z.same s10)) pv9) (wk (.inr ⟨_,hlc10⟩) (fun b (hb:F' b) _=>hb.elim) (vS ht))
  refine ⟨u,_,rfl,SqT.of mu,rfl,_,_,rfl,_,_,rfl,rfl,?_⟩
  dsimp only [zB]
  refine ⟨_,zd (zD (zi z5 (pv 5) zn (zr _)) (zd (zI (yD PySem.F.plainAttrs_list PySem.F.slot_list_append PySem.F.type_list_append zL (pv 4) (ac (zE (ac zn (ac (yE (zo zx (yC (pv 0) FK.cl mP GP hr1 bP .nil yh) (pv 6) (fun _ _=>rfl)) rfl) zb))) zb))))
   (zd (zI (yD PySem.F.plainAttrs_list PySem.F.slot_list_append PySem.F.type_list_append zL (pv 4) (ac (zE (ac zn (ac (zo zx (pv 3) (pv 6) (fun _ _=>rfl)) zb))) zb))))),?_⟩
  refine ⟨_,rfl,rfl,_,rfl,?_⟩
  rcases atM mm (List.mem_of_getElem? hm) with ⟨el,r,hr'⟩ | ⟨el,hlt⟩
  ·refine yU (decide_eq_true (by rw [el])) ?_
   refine ⟨_,rfl,.inl ⟨rfl,_,SqL.of hlc9⟩,_,rfl,f,dx,fs,rfl,s9 _ _ h1,h2.no _ (by decide +kernel),f,rows,bars,rfl,(hF.same s9).at_,fun lp ps H10 s10 nlp hlp hps=>?_⟩
   have hpl:mm.2 < ps.length:=by rw [hps.length]; exact (List.getElem?_eq_some_iff.mp hr').1
   obtain ⟨r2,hr2,dxp,hdx⟩:=yw hps (List.getElem?_eq_getElem hpl)
   rw [hr'] at hr2
   cases hr2
   have rok:=hF.ok r (List.mem_of_getElem? hr')
   have C:=PP r.k rok.1
   refine ⟨_,rfl,lp,_,_,.ref ps[mm.2],rfl,rfl,SqL.of hlp,y8 (by rw [List.getElem?_map,List.getElem?_eq_getElem hpl]; rfl),ps[mm.2],_,dxp,_,_,rfl,hdx,C.cl,C.nN,wx,zz2,fun tt htt=>?_⟩
   have s11:=zc htt (.tup ((cIn r.z).map V.str))
   refine ⟨lc,_,_,rfl,rfl,(s10.trans s11) _ _ hlc9,zG (by omega),?_⟩
   exact put _ tt (cIn r.z) (s10.trans s11) za (by unfold mtC; rw [if_pos el,hr']; rfl)
  ·refine yp (decide_eq_false (fun e=>el (V.str.inj e))) ?_
   refine ⟨_,rfl,.inl ⟨rfl,_,SqL.of hlc9⟩,_,rfl,_,rfl,a,_,_,.str (names.getD mm.2 ""),rfl,rfl,SqL.of (s9 _ _ ha),y8 (by rw [List.getElem?_map,List.getElem?_eq_getElem hlt,List.getD_eq_getElem?_getD,List.getElem?_eq_getElem hlt]; rfl),zz2,fun tt htt=>?_⟩
   have s11:=zc htt (.tup ((za6 (names.getD mm.2 "")).map V.str))
   refine ⟨lc,_,_,rfl,rfl,s11 _ _ hlc9,zG (by omega),?_⟩
   exact put _ tt (za6 (names.getD mm.2 "")) s11 za (by unfold mtC; rw [if_neg el])
 ·rintro σ H9 ⟨v5,v6,vs,rfl,s9,hlm9,hms9,hlc9,pv9⟩
  rw [List.length_map,lu,List.take_length,<- eM] at pv9
  exact ⟨_,zd (zp (pv 4)),_,rfl,q lc H9 s9 ⟨nlc,vs,hlc9,pv9⟩⟩
end
def ChL (K:Frag) (H0 H:Hp) (D:Addr) (x:V) (cs:List (List Str)):Prop:=∃ (l:Addr) (vs:List V),x = .ref l/\(l ≠ D/\H0 l = none)/\H l = some (.lst vs)/\Paired (zO K F' H 1) vs (cs.map chD)
theorem j6 {K:Frag} {H0 H:Hp} {D:Addr}:∀ {zs:List V} {css:List (List (List Str))},Paired (ChL K H0 H D) zs css->∃ yss:List (List V),Paired (zhe H) zs yss/\∀ (i:Nat) (x:V) (ys:List V),zs[i]? = some x->yss[i]? = some ys->∃ (cs:List (List Str)) (l:Addr),css[i]? = some cs/\x = .ref l/\H0 l = none/\H l = some (.lst ys)/\Paired (zO K F' H 1) ys (cs.map chD)
 | [],_,.nil=>⟨[],.nil,fun i x ys h=>by simp at h⟩
 | _ :: _,_,.cons ⟨l,vs,e1,e0,e2,e3⟩ t=>by
  obtain ⟨yss,p,q⟩:=j6 t
  refine ⟨vs :: yss,.cons ⟨l,e1,e2⟩ p,fun i x ys hx hy=>?_⟩
  cases i with
  | zero=>
   rw [List.getElem?_cons_zero] at hx hy
   cases hx
   cases hy
   exact ⟨_,l,rfl,e1,e0.2,e2,e3⟩
  | succ i=>exact q i x ys (by simpa using hx) (by simpa using hy)
theorem zgz {a n i:Nat} {x:V} (h:((L2.xj a n).map V.int)[i]? = some x):i < n/\x = .int ((a + i:Nat):Int):=by
 unfold L2.xj at h
 rw [List.map_map,List.getElem?_map] at h
 cases e:(List.range n)[i]? with
 | none=>rw [e] at h; cases h
 | some j=>
  rw [e] at h
  have hi:i < n:=by have:=(List.getElem?_eq_some_iff.mp e).1; rwa [List.length_range] at this
  rw [List.getElem?_range hi] at e
  cases e
  exact ⟨hi,(Option.some.inj h).symm⟩
def zdI (rows:List Rw) (bars:List Str) (many:Nat) (names:List Str) (w:Nat):Prop:=yA rows<=w/\w<=ya rows many/\∀ w',yA rows<=w'->w'<=ya rows many->(mtF rows bars w many names).length<=(mtF rows bars w' many names).length
def zb7 (K:Frag) (H:Hp) (a:Addr) (c:List xo):Prop:=∃ xs,SqL K H a xs/\Paired (zO K T' H 3) xs (c.map xO)
def zch (K:Frag) (c:C5) (CF:Addr):Sp:=fun vs H Q _=>∃ (f a:Addr) (it:List xo) (rows:List Rw) (bars:List Str),vs = [.ref f,.ref a]/\wC c CF H f rows bars/\rows.length<=24/\bars.length<=60/\zb7 K H a it/\(z8 it).length<=100/\(yf it).length<=100/\
 ∀ (w:Nat) (l:Addr) (H':Hp),zm H H'->zdI rows bars (z8 it).length (zQ it) w->zhd K H H' l (mtF rows bars w (z8 it).length (zQ it))->Q (.ref l) H'
def zdZ (K:Frag) (c:C5) (CF:Addr):Sp:=fun vs H Q _=>∃ (f a:Addr) (it:List xo) (rows:List Rw) (bars:List Str),vs = [.ref f,.ref a]/\wC c CF H f rows bars/\rows.length<=24/\bars.length<=60/\zb7 K H a it/\(z8 it).length<=100/\(yf it).length<=100/\
 ∀ (w:Nat) (H':Hp),zm H H'->zdI rows bars (z8 it).length (zQ it) w->Q (.int ((mtF rows bars w (z8 it).length (zQ it)).length:Nat)) H'
section
variable {P:Program} {w:World} {K:Frag} {mg:Str->Option Value} {base:Heap} {f CF:Addr} {fd:FuncData} {c:C5} {m:MA}
theorem zh8:([Str.ofString "wanted",Str.ofString "names",Str.ofString "many",Str.ofString "form"]:List Str).Nodup:=by decide +kernel
theorem qt:zt ["form","call","many","names"] ["form","call"] (zh zbq):=⟨rfl,rfl,rfl,by decide +kernel,rfl,by decide +kernel,by decide +kernel⟩
theorem zhw:zt ["form","call"] ["form","call"] (zh uT):=⟨rfl,rfl,rfl,by decide +kernel,rfl,by decide +kernel,by decide +kernel⟩
theorem zeJ {g1 g2 g3:Addr} {e1 e2 e3:FuncData} (F:Fun K "mends" "mends" zbq f fd) (U:zin mg) (cS:zC P w K mg base 2 "shape" g1 e1 ["call"] (zcf K)) (cW:zC P w K mg base 3 "wanted_numbers" g2 e2 ["form","many"] (zak c CF)) (cM:zC P w K mg base 5 "mends_to" g3 e3 ["form","wanted","many","names"] (zg0 K c CF)):zA P w K mg base CX0 6 f fd ["form","call"] (zch K c CF):=by
 refine F.ok qt (fun vs H Q E h=>?_) (fun cdv A outer s H vs Q E hr h=>?_)
 ·obtain ⟨f,a,it,rows,bars,rfl,_⟩:=h
  rfl
 obtain ⟨f,a,it,rows,bars,rfl,hF,l24,l60,⟨xs,hxs,hp⟩,t1,p1,q⟩:=h
 have hr2:yq 2 _:=hr.mono (by decide)
 have hr3:yq 3 _:=hr.mono (by decide)
 have ln:(zQ it).length<=100:=by unfold zQ; rw [List.length_map]; exact p1
 refine zv (wv (cF cS hr2 (ac (pv 1) zb)) (yH rfl (zz (zk (i:=2) qt.nd rfl (Or.inr rfl)) (zz (zk (i:=3) qt.nd rfl (Or.inr rfl)) yo)))) ?_
 refine ⟨_,rfl,a,it,xs,rfl,hxs,hp,by omega,by omega,fun p l H1 s1 nl hpt hl=>?_⟩
 refine ⟨p,_,rfl,SqT.of hpt,rfl,_,_,rfl,_,_,rfl,rfl,?_⟩
 dsimp only [zB]
 generalize (z8 it).length = many at *
 generalize zQ it = names at *
 have lpl:plN rows<=24:=Nat.le_trans (List.length_filter_le _ _) l24
 have hm:ya rows many<=100/\plN rows<=ya rows many:=by
  unfold ya
  split <;> omega
 have hfp:yA rows<=plN rows:=ud (nms rows) rows (plN rows)
 have okw:∀ w,w<=ya rows many->((zy 2 0 rows).isSome = true\/w<=plN rows):=fun w h=>by
  unfold ya at h
  split at h
  next e=>exact .inl e
  ·exact .inr h
 refine ⟨_,zd (zp (zdb rfl rfl U.min rfl U.len (ac (xz ["names","many","form"] ["wanted","names","many","form"] [none,some 3,some 2,some 0] rfl ⟨rfl,rfl,rfl,rfl⟩ (zU (cF cW hr3 (ac (pv 0) (ac (pv 2) zb)))) (zM 0) rfl rfl rfl
  (fun pins fp s H C=>⟨zk (i:=0) zh8 rfl (Or.inl rfl) (.inr rfl),yB,cF cM hr (ac (pv 3) (ac (pv 0) (ac (pv 2) (ac (pv 1) zb))))⟩)) zb))),?_⟩
 refine ⟨_,rfl,_,rfl,f,many,rows,bars,rfl,hF.same s1,l24,by omega,fun lw H2 s2 nlw hlw=>?_⟩
 have s02:=s1.trans s2
 refine ⟨lw,rfl,⟨_,SqL.of hlw⟩,fun D hD=>?_⟩
 have lx:((L2.xj (yA rows) (ya rows many + 1 - yA rows)).map V.int).length = ya rows many + 1 - yA rows:=by unfold L2.xj; rw [List.length_map,List.length_map,List.length_range]
 have hl2:=s2 _ _ hl
 refine xF (K:=K) (xs:=(L2.xj (yA rows) (ya rows many + 1 - yA rows)).map V.int) (fun i zs H'=>zm H2 H'/\H' D = some (.lst zs)/\Paired (ChL K H H' D) zs ((List.range i).map fun k=>mtF rows bars (yA rows + k) many names)) ⟨zc hD _,za,.nil⟩ (fun i zs H' h=>h.1.seq (SqL.of hlw)) ?_ ?_
 ·rintro i x zs H3 hlt hx ⟨s3,hD3,pz⟩
  obtain ⟨hi,rfl⟩:=zgz hx
  have lz:zs.length = i:=by rw [pz.length,List.length_map,List.length_range]
  have hwm:yA rows + i<=ya rows many:=by omega
  refine ⟨fun _=>?_,fun e=>by cases e⟩
  refine ⟨_,rfl,_,rfl,_,rfl,_,rfl,f,l,yA rows + i,many,rows,bars,names,rfl,hF.same (s02.trans s3),l24,l60,by omega,by omega,ln,s3 _ _ hl2,okw _ hwm,fun lm H4 s4 ⟨nlm,vs,hlm,hvs⟩=>?_⟩
  have hD4:=s4 _ _ hD3
  have nD:lm ≠ D:=fun e=>by rw [e,hD3] at nlm; cases nlm
  refine lcN.mk hlt (by rw [lx]; exact zY (by omega)) hD4 (by omega) ⟨z9 (s3.trans s4) hD _,za,?_⟩
  rw [List.range_succ,List.map_append]
  refine Paired.snoc (Paired.imp' (fun x cs ⟨l,vs,e1,e2,e3,e4⟩=>⟨l,vs,e1,e2,by rw [zg e2.1]; exact s4 _ _ e3,Paired.imp' (fun _ _ z=>wk (.inr ⟨_,hD4⟩) (fun b (hb:F' b) _=>hb.elim) (z.same s4)) e4⟩) pz) ⟨lm,vs,rfl,⟨nD,(s02.trans s3).free nlm⟩,by rw [zg nD]; exact hlm,Paired.imp' (fun _ _ z=>wk (.inr ⟨_,hD4⟩) (fun b (hb:F' b) _=>hb.elim) z) hvs⟩
 ·rintro zs H3 ⟨s3,hD3,pz⟩
  rw [lx] at pz
  obtain ⟨yss,py,at_⟩:=j6 pz
  have lz:zs.length = ya rows many + 1 - yA rows:=by rw [pz.length,List.length_map,List.length_range]
  refine ⟨D,zs,yss,rfl,SqL.of hD3,py,by omega,fun i x ys hx hy hb=>?_⟩
  obtain ⟨cs,lm,hc,rfl,nlm,hlm,hys⟩:=at_ i x ys hx hy
  have hi:i < ya rows many + 1 - yA rows:=by rw [<- lz]; exact (List.getElem?_eq_some_iff.mp hx).1
  rw [List.getElem?_map,List.getElem?_range hi] at hc
  have hc:mtF rows bars (yA rows + i) many names = cs:=Option.some.inj hc
  subst hc
  have len:∀ (j:Nat) (ys':List V),yss[j]? = some ys'->ys'.length = (mtF rows bars (yA rows + j) many names).length/\j < ya rows many + 1 - yA rows:=fun j ys' hj=>by
   have hjl:j < zs.length:=by rw [py.length]; exact (List.getElem?_eq_some_iff.mp hj).1
   obtain ⟨cs,lm,hc,_,_,_,hys⟩:=at_ j _ ys' (List.getElem?_eq_getElem hjl) hj
   rw [lz] at hjl
   rw [List.getElem?_map,List.getElem?_range hjl] at hc
   have hc:mtF rows bars (yA rows + j) many names = cs:=Option.some.inj hc
   subst hc
   exact ⟨by rw [hys.length,List.length_map],hjl⟩
  refine q (yA rows + i) lm H3 (s02.trans s3) ⟨Nat.le_add_right _ _,by omega,fun w' h1 h2=>?_⟩ ⟨nlm,ys,hlm,hys⟩
  have hj:w' - yA rows < yss.length:=by rw [<- py.length,lz]; omega
  have h3:=hb (w' - yA rows) _ (List.getElem?_eq_getElem hj)
  rw [(len _ _ (List.getElem?_eq_getElem hj)).1,(len i ys hy).1,show yA rows + (w' - yA rows) = w' by omega] at h3
  exact h3.1
theorem zge {g1:Addr} {e1:FuncData} (F:Fun K "nearest" "nearest" uT f fd) (hln:mg "len" = none) (cM:zC P w K mg base 6 "mends" g1 e1 ["form","call"] (zch K c CF)):zA P w K mg base CX0 7 f fd ["form","call"] (zdZ K c CF):=by
 refine F.ok zhw (fun vs H Q E h=>?_) (fun cdv A outer s H vs Q E hr h=>?_)
 ·obtain ⟨f,a,it,rows,bars,rfl,_⟩:=h
  rfl
 obtain ⟨f,a,it,rows,bars,rfl,hF,l24,l60,hc,t1,p1,q⟩:=h
 refine ⟨_,zd (zp (cB zH hln PySem.boot_len (ac (cF cM hr (ac (pv 0) (ac (pv 1) zb))) zb))),?_⟩
 refine ⟨_,rfl,_,rfl,f,a,it,rows,bars,rfl,hF,l24,l60,hc,t1,p1,fun w l H1 s1 hm ⟨nl,vs,hl,hp⟩=>?_⟩
 refine ⟨l,vs,rfl,.inl (SqL.of hl),?_⟩
 rw [hp.length,List.length_map]
 exact q w H1 s1 hm
end
end K33
namespace L2
open PySem PySem.Spec PyProof.Rows
def zjc (P:Program) (w:World) (a:Addr) (S:Str->Bool) (n:Nat) (h:Heap):Prop:=xU P w h a S n
abbrev vt (P:Program) (w:World) (a:Addr) (S:Str->Bool) (n:Nat):HO:=.ext (zjc P w a S n)
theorem zd8 {P:Program} {w:World} {H:Hp} {h:Heap} {a:Addr} {S:Str->Bool} {n:Nat} (e:xU P w h a S n):yy P w H h a (vt P w a S n):=
 ⟨e,let ⟨o,_,_,_,h1,_⟩:=e; ⟨o,h1⟩,fun g1 g2 q k=>let ⟨o,es,ep,t,h1,c⟩:=q; ⟨o,es,ep,t,k o h1,c⟩⟩
theorem uO {P:Program} {w:World} {h:Heap} {a:Addr} {zs:List Str} {n:Nat} (hS:xU P w h a (fun z=>decide (z ∈ zs)) n):n<=zs.length:=by
 obtain ⟨o,es,ep,t,ho,hex,hd,hel,hmem,hb,hf,hn,hnd,_⟩:=hS
 have:=vV (es.toList.map fun e=>uu e.2) zs hnd fun z hz=>by
  obtain ⟨e,he,e1⟩:=List.mem_map.mp hz
  obtain ⟨⟨k,hk,_⟩,_⟩:=hel e he
  have:=(hmem k).mpr ⟨e,he,hk⟩
  obtain ⟨tk,e2⟩:=Value.isStrOf_shape hk
  rw [e2] at e1
  have e1:k = z:=e1
  rw [<- e1]
  exact of_decide_eq_true this
 rw [List.length_map,Array.length_toList] at this
 omega
theorem Inv.drew {X:Cx} {pins:List (Addr × Obj)} {σ : St} {H:Hp} {s:Shared} (I:Inv X pins σ H s) (d:Drawn):Inv X pins σ H { s with drawn:=d }:=
 ⟨I.ok,I.os,I.bare,I.base,I.loc,I.cell,I.free,I.freeC,I.pin,I.hok,I.len⟩
section
variable {X:Cx}
theorem ug (hc:X.calm = true):yN X (.type "set") (fun xs H Q=>∃ (p:Addr) (zs:List Str),xs = [.ref p]/\SqL X.K H p (zs.map V.str)/\zs.length<=900/\∀ (l:Addr) (n:Nat),H l = none->Q (.ref l) (upd H l (vt X.prog X.w l (fun z=>decide (z ∈ zs)) n))):=by
 intro pins s σ H xs us Q I r h
 obtain ⟨p,zs,rfl,hS,lz,q⟩:=h
 obtain ⟨u,rfl,ru⟩:=xt r
 cases ru
 obtain ⟨its,rv,hp,hz⟩:=I.list hS
 have hl:its.length = zs.length:=by rw [<- rv.length,List.length_map]
 have hb:its.toArray.size + 1 < scanBound:=by
  rw [List.size_toArray,hl]
  have : 1000 < scanBound:=by unfold scanBound; decide
  omega
 refine za3 (I.ok.hd hc) hp.isList (fun i v e=>rv.strs_at i v (by simpa using e)) hb fun h' tk c hS' hk=>?_
 have hsz:its.toArray.size = zs.length:=by rw [List.size_toArray,hl]
 rw [hsz] at hS'
 have eS:seen (fun i=>zs.getD i "") (fun _=>false) 0 zs.length = fun z=>decide (z ∈ zs):=funext (zao zs)
 rw [eS] at hS'
 refine ⟨.ref s.heap.objs.size,_,I.laid (t':=tk) (fun b ob e=>hk b ob (Heap.lt_size e) e) (Nat.le_refl _) (zd8 hS'),rfl,q _ c (I.hok.fresh (Nat.le_refl _))⟩
theorem qX (hc:X.calm = true):yN X (.builtin "sorted") (fun xs H Q=>∃ (a:Addr) (zs:List Str) (n:Nat),xs = [.ref a]/\H a = some (vt X.prog X.w a (fun z=>decide (z ∈ zs)) n)/\zs.length < 64/\∀ (l:Addr) (ys:List Str),H l = none->ys.Nodup->(∀ z,z ∈ ys ↔ z ∈ zs)->Q (.ref l) (upd H l (.lst ((uN ys).map V.str)))):=by
 intro pins s σ H xs us Q I r h
 obtain ⟨a,zs,n,rfl,e,h64,q⟩:=h
 obtain ⟨u,rfl,ru⟩:=xt r
 cases ru
 have hS:xU X.prog X.w s.heap a (fun z=>decide (z ∈ zs)) n:=(I.hok a _ e).1
 have hn:=uO hS
 refine zam (I.ok.hd hc) hS (by omega) fun l out ys h' d tk ep k1 hsz he hys hnd hmem hso hl=>?_
 have en:=zd5 (List.Perm.refl ys) hso
 refine ⟨.ref l,_,(I.drew d).laid (t':=tk) (o:=.lst ((uN ys).map V.str)) k1 hsz ⟨?_,out.toList,ep,?_,by simpa using he⟩,rfl,q l ys (I.hok.fresh hsz) hnd fun z=>?_⟩
 ·rw [List.length_map,<- en,hl]
  have : 1000<=sizeLine:=by decide
  omega
 ·rw [<- en]
  exact StrsAre.vals hys
 ·rw [hmem z]
  exact decide_eq_true_iff
end
theorem xU.setOf {P:Program} {w:World} {h:Heap} {a:Addr} {S:Str->Bool} {n:Nat} (hS:xU P w h a S n):h.SetOf (PySem.strKind P w) a S n:=by
 obtain ⟨o,es,ep,t,h1,h2,h3,h4,h5,h6,h7,h8,_⟩:=hS
 exact ⟨o,es,ep,t,h1,h2,h3,h4,h5,h6,h7,h8⟩
theorem zij {zs:List Str} (h:¬ zs.Nodup):∃ z ∈ zs,z ∈ zs.erase z:=by
 induction zs with
 | nil=>exact absurd List.nodup_nil h
 | cons x xs ih=>
  by_cases hx:x ∈ xs
  ·exact ⟨x,List.mem_cons_self,by rw [List.erase_cons_head]; exact hx⟩
  ·obtain ⟨z,h1,h2⟩:=ih fun c=>h (List.nodup_cons.mpr ⟨hx,c⟩)
   refine ⟨z,List.mem_cons_of_mem _ h1,?_⟩
   have:x ≠ z:=fun e=>hx (by rw [e]; exact h1)
   rw [List.erase_cons_tail (by simpa using this)]
   exact List.mem_cons_of_mem _ h2
theorem zd7 {P:Program} {w:World} {h:Heap} {a:Addr} {zs:List Str} {n:Nat} (hS:xU P w h a (fun z=>decide (z ∈ zs)) n) (hd:¬ zs.Nodup):n < zs.length:=by
 obtain ⟨z,h1,h2⟩:=zij hd
 have e:(fun y=>decide (y ∈ zs)) = fun y=>decide (y ∈ zs.erase z):=funext fun y=>by
  refine decide_eq_decide.mpr ⟨fun hy=>?_,fun hy=>List.mem_of_mem_erase hy⟩
  by_cases c:y = z
  ·rw [c]; exact h2
  ·exact (List.mem_erase_of_ne c).mpr hy
 rw [e] at hS
 have:=uO hS
 rw [List.length_erase_of_mem h1] at this
 have:=List.length_pos_of_mem h1
 omega
theorem zdF {X:Cx}:yN X (.builtin "len") (fun xs H Q=>∃ (a:Addr) (zs:List Str) (n:Nat),xs = [.ref a]/\H a = some (vt X.prog X.w a (fun z=>decide (z ∈ zs)) n)/\((decide (n < zs.length) = !decide zs.Nodup)->Q (.int n) H)):=by
 intro pins s σ H xs us Q I r h
 obtain ⟨a,zs,n,rfl,e,q⟩:=h
 obtain ⟨u,rfl,ru⟩:=xt r
 cases ru
 have hS:xU X.prog X.w s.heap a (fun z=>decide (z ∈ zs)) n:=(I.hok a _ e).1
 have hq:decide (n < zs.length) = !decide zs.Nodup:=by
  by_cases c:zs.Nodup
  ·rw [decide_eq_true c,decide_eq_false]
   ·rfl
   ·have:=zan hS.setOf c
    omega
  ·rw [decide_eq_false c,decide_eq_true (zd7 hS c)]
   rfl
 obtain ⟨o,es,ep,t,ho,hx,hd,_,_,hb,hf,hn⟩:=hS.setOf
 have h63:(es.size:Int) < 2 ^ 63:=by
  have:scanBound < 2 ^ 63:=by unfold scanBound; decide
  omega
 refine call_len_set ho hx hd hf h63 ?_
 exact ⟨.int es.size,H,I.tok _,⟨_,rfl⟩,by rw [hn]; exact q hq⟩
end L2
namespace K33
open PySem L2 PyProof.Rows
def zbS (rows:List Rw) (k:Nat):Bool:=rows.any fun r=>r.k == k
theorem wM {k:Nat} (hk:k < 5):∀ {rows:List Rw},(∀ r ∈ rows,r.ok)->decide (kw k ∈ rows.map fun r=>kw r.k) = zbS rows k
 | [],_=>rfl
 | r :: rows,h=>by
  have ih:=wM hk (rows:=rows) fun r hr=>h r (List.mem_cons_of_mem _ hr)
  have e:=ze8 k hk r.k (h r List.mem_cons_self).1
  have e':decide (kw k = kw r.k) = (r.k == k):=by
   rw [<- e]
   by_cases z:kw k = kw r.k
   ·rw [decide_eq_true z,z,decide_eq_true rfl]
   ·rw [decide_eq_false z,decide_eq_false (fun c=>z (V.str.inj c).symm)]
  unfold zbS at ih |-
  rw [List.any_cons,<- ih,<- e',List.map_cons]
  by_cases a:kw k = kw r.k
  ·rw [a,decide_eq_true List.mem_cons_self,decide_eq_true rfl]; rfl
  ·by_cases b:kw k ∈ rows.map fun r=>kw r.k
   ·rw [decide_eq_true b,decide_eq_true (List.mem_cons_of_mem _ b),Bool.or_true]
   ·rw [decide_eq_false b,decide_eq_false a,decide_eq_false (fun c=>(List.mem_cons.mp c).elim a b)]; rfl
theorem uw {kk:Nat}:∀ (rows:List Rw) (i:Nat),(zy kk i rows).isSome = rows.any fun r=>r.k == kk
 | [],_=>rfl
 | r :: rs,i=>by
  unfold zy
  rw [List.any_cons]
  by_cases e:r.k = kk
  ·rw [if_pos e,e]; simp
  ·rw [if_neg e,uw rs (i + 1)]
   simp [e]
theorem jP {rows:List Rw} {bars names:List Str} {many:Nat}:z7 rows bars many names = [] ↔ names.Nodup/\((zy 2 0 rows).isSome = true\/many<=plN rows)/\(∀ z ∈ names,z3 rows bars many z = none)/\∀ i r,rows[i]? = some r->(yr names r && !(y0 r.k && decide (i < many))) = false:=by
 unfold z7
 rw [List.append_eq_nil_iff,List.append_eq_nil_iff,List.append_eq_nil_iff,zcR,wJ,zca,vZ]
 constructor
 ·rintro ⟨⟨⟨h1,h2⟩,h3⟩,h4⟩
  exact ⟨h1,h2,h3,fun i r hi=>by have:=h4 i r hi; rw [Nat.zero_add,wz] at this; exact this⟩
 ·rintro ⟨h1,h2,h3,h4⟩
  exact ⟨⟨⟨h1,h2⟩,h3⟩,fun i r hi=>by rw [Nat.zero_add,wz]; exact h4 i r hi⟩
theorem zb0:∀ {rows:List Rw},(∀ r ∈ rows,r.ok)->((rows.map fun r=>V.str (kw r.k)).countP fun z=>eqV z (.str "seat")) + ((rows.map fun r=>V.str (kw r.k)).countP fun z=>eqV z (.str "both")) = plN rows
 | [],_=>rfl
 | r :: rs,h=>by
  have ih:=zb0 (rows:=rs) fun x hx=>h x (List.mem_cons_of_mem _ hx)
  have hk:=(h r List.mem_cons_self).1
  have e:∀ k:Nat,k < 5->(if eqV (.str (kw k)) (.str "seat") = true then 1 else 0) + (if eqV (.str (kw k)) (.str "both") = true then 1 else 0) = (if y0 k = true then 1 else 0):=by decide +kernel
  have ek:=e r.k hk
  have ep:plN (r :: rs) = plN rs + (if y0 r.k = true then 1 else 0):=by
   unfold plN
   rw [List.filter_cons]
   split <;> simp
  rw [List.map_cons,List.countP_cons,List.countP_cons,ep]
  omega
theorem qZ {rows:List Rw} {k:Nat}:zbS rows k = (zy k 0 rows).isSome:=by rw [uw]; rfl
theorem wR {rows:List Rw} {bars:List Str} {many:Nat} {z:Str} (V1:xR rows bars):(z3 rows bars many z = none) ↔ (z ∉ bars/\((zJ (yk 0 [] rows) (.inr z) = none/\(zy 4 0 rows).isSome = true)\/∃ l r,zJ (yk 0 [] rows) (.inr z) = some (.int (l:Nat))/\rows[l]? = some r/\yl r.k = true/\¬ (r.k = 1/\l < many))):=by
 have nd:(nms rows).Nodup:=(List.nodup_append.mp V1.nd).1
 unfold z3
 by_cases hb:z ∈ bars
 ·rw [if_pos hb]
  simp [hb]
 rw [if_neg hb]
 by_cases hk:z ∈ nms rows
 ·obtain ⟨l,r,hl,hbn,he⟩:=jd hk
  have hv:=xQ hbn rows 0 l [] hl nd
  rw [he,Nat.zero_add] at hv
  have hd:z3.lastD' z rows = some l:=by
   unfold z3.lastD'
   rw [hv]
   rfl
  rw [hd]
  have hp:=up V1.ok V1.ord hl
  have rok:=V1.ok r (List.mem_of_getElem? hl)
  have hk1:(l < plN rows) ↔ r.k = 1:=by
   have e:∀ k:Nat,k < 5->yl k = true->(y0 k = true ↔ k = 1):=by decide +kernel
   rw [<- e r.k rok.1 hbn,hp]
   exact decide_eq_true_iff.symm
  dsimp only
  constructor
  ·intro h
   split at h
   ·cases h
   next hn=>exact ⟨hb,.inr ⟨l,r,hv,hl,hbn,fun c=>hn ⟨hk1.mpr c.1,c.2⟩⟩⟩
  ·rintro ⟨_,⟨h1,_⟩ | ⟨l',r',h1,h2,_,h3⟩⟩
   ·rw [hv] at h1; cases h1
   ·rw [hv] at h1
    have:l = l':=by have:=V.int.inj (Option.some.inj h1); omega
    subst this
    rw [hl] at h2
    cases h2
    rw [if_neg (fun c=>h3 ⟨hk1.mp c.1,c.2⟩)]
 ·have hv:=xP rows 0 [] hk
  have hv0:zJ (yk 0 [] rows) (.inr z) = none:=by rw [hv]; rfl
  have hd:z3.lastD' z rows = none:=by
   unfold z3.lastD'
   rw [hv0]
  rw [hd]
  dsimp only
  constructor
  ·intro h
   split at h
   next e=>exact ⟨hb,.inl ⟨hv0,e⟩⟩
   ·cases h
  ·rintro ⟨_,⟨_,h2⟩ | ⟨l',r',h1,_⟩⟩
   ·rw [if_pos h2]
   ·rw [hv0] at h1; cases h1
theorem zaM {names:List Str} {r:Rw} {i many:Nat} (hk:r.k < 5):(yr names r && !(y0 r.k && decide (i < many))) = ((!(decide (r.k = 2) || decide (r.k = 4)) && !r.b) && (!(!decide (r.k = 3) && decide (i < many)) && (decide (r.k = 0) || !decide (r.z ∈ names)))):=by
 unfold yr yL fr
 have:r.k = 0\/r.k = 1\/r.k = 2\/r.k = 3\/r.k = 4:=by omega
 rcases this with e | e | e | e | e <;> rw [e] <;> cases r.b <;> cases decide (i < many) <;> cases decide (r.z ∈ names) <;> rfl
def zck:Sp:=fun vs H Q _=>∃ (la lb ln:Addr) (many:Nat) (us:List Addr) (rows:List Rw) (bars names:List Str),vs = [.ref la,.ref lb,.int (many:Nat),.ref ln]/\H la = some (.lst (us.map V.ref))/\Paired (TAt H) us rows/\xR rows bars/\H lb = some (.lst (bars.map V.str))/\H ln = some (.lst (names.map V.str))/\names.length<=800/\∀ H',zm H H'->Q (.bl (decide (z7 rows bars many names = []))) H'
theorem zcv {r:Rw} (h:r.k = 0\/r.k = 1\/r.k = 3):atI (rv r) 2 = some (.bl r.b):=by
 obtain ⟨k,z,b⟩:=r
 rcases h with rfl | rfl | rfl <;> rfl
structure zjV (mg:Str->Option Value):Prop where
 len:mg "len" = none
 set:mg "set" = none
 range:mg "range" = none
section
variable {P:Program} {w:World} {K:Frag} {mg:Str->Option Value} {base:Heap} {f CF:Addr} {fd:FuncData} {c:C5} {m:MA}
theorem zeY:([Str.ofString "_law_one"]:List Str).Nodup:=by decide +kernel
theorem xY:zt ["_law_specs_here","_law_shut","_law_many","_law_names","_law_words","_law_places","_law_told","_law_p","_law_name_here","_law_by_place"] ["_law_specs_here","_law_shut","_law_many","_law_names"] (zh zbt):=⟨rfl,rfl,rfl,by decide +kernel,rfl,by decide +kernel,by decide +kernel⟩
theorem zeK (F:Fun K "_law_fits" "_law_fits" zbt f fd) (U:zjV mg):zA P w K mg base CX0 1 f fd ["_law_specs_here","_law_shut","_law_many","_law_names"] zck:=by
 refine F.ok xY (fun vs H Q E h=>?_) (fun cdv A outer s H vs Q E hr h=>?_)
 ·obtain ⟨la,lb,ln,many,us,rows,bars,names,rfl,_⟩:=h
  rfl
 obtain ⟨la,lb,ln,many,us,rows,bars,names,rfl,hla,hu,V1,hlb,hln,n8,q⟩:=h
 have hu1:=jU hr
 have l24:=V1.l24
 have hok:=V1.ok
 have lu:us.length = rows.length:=hu.length
 have no:∀ H',zm H H'->¬ z7 rows bars many names = []->Q (.bl false) H':=fun H' s h=>by
  have:=q H' s
  rw [decide_eq_false h] at this
  exact this
 refine zv (vg (i:=4) [] ["_law_one"] [none] xY.nd rfl (Or.inl rfl) rfl ⟨rfl,rfl,rfl,rfl⟩ (zU (pv 0)) (zM 0) rfl rfl rfl
   (fun pins fp s H C=>⟨zk (i:=0) zeY rfl (Or.inl rfl) (.inr rfl),yB,zo (r:=jy K) zF (pv 0) ze (fun _ _=>rfl)⟩)) ?_
 refine ⟨_,rfl,la,rfl,⟨_,SqL.of hla⟩,fun D hD=>?_⟩
 refine jg (K:=K) TAt (fun _=>true) (fun _ r=>.str (kw r.k)) hD hla hu (by omega) (fun i u r H' N S hu' hr' tr sH n1 s1=>?_) (fun H1 s1 e1=>?_)
 ·exact ⟨fun _=>⟨_,rfl,u,_,0,_,rfl,rfl,SqT.of (sH _ _ tr),qD (hok r (List.mem_of_getElem? hr')),n1 _ (zm.refl _) rfl⟩,fun e=>Bool.noConfusion e⟩
 rw [uB hu (fun _=>true) (fun r=>V.str (kw r.k)),List.filter_eq_self.mpr (fun _ _=>rfl)] at e1
 have eW:rows.map (fun r=>V.str (kw r.k)) = (rows.map fun r=>kw r.k).map V.str:=by rw [List.map_map]; rfl
 have flW:(rows.map (fun r=>V.str (kw r.k))).all yZ = true:=by rw [eW]; exact yi
 have wAt:∀ {p:Nat} {r:Rw},rows[p]? = some r->atI (rows.map (fun r=>V.str (kw r.k))) (p:Int) = some (.str (kw r.k)):=fun {p r} h=>y8 (by rw [List.getElem?_map,h]; rfl)
 dsimp only [zB]
 refine zv (zw (i:=5) xY.nd rfl (Or.inl rfl) (zq yc (yD PySem.F.plainAttrs_list PySem.F.slot_list_count PySem.F.type_list_count wY (pv 4) (ac zn zb)) (yD PySem.F.plainAttrs_list PySem.F.slot_list_count PySem.F.type_list_count wY (pv 4) (ac zn zb)))) ?_
 refine ⟨_,rfl,.inl ⟨rfl,_,SqL.of e1⟩,D,_,_,rfl,rfl,e1,rfl,flW,_,rfl,.inl ⟨rfl,_,SqL.of e1⟩,D,_,_,rfl,rfl,e1,rfl,flW,_,_,rfl,rfl,?_⟩
 have cp:=zb0 hok
 have ec:(((rows.map fun r=>V.str (kw r.k)).countP fun z=>eqV z (.str "seat"):Nat):Int) + (((rows.map fun r=>V.str (kw r.k)).countP fun z=>eqV z (.str "both"):Nat):Int) = ((plN rows:Nat):Int):=by omega
 rw [ec]
 clear ec cp
 dsimp only [zB]
 refine zv (zD (PW.pt (wI (zi xZ (cB zdF U.len PySem.boot_len (ac (cTy (ug rfl) U.set PyProof.Rows.boot_set (ac (pv 3) zb)) zb)) (cB zH U.len PySem.boot_len (ac (pv 3) zb)) (zr _))
    (x6 (PW.pt (yb (zi jN (pv 2) (pv 5) (zr _)) (z4 (zi zP zn (pv 4) (by with_unfolding_all rfl)))))))) (zd (zp xw)) zu) ?_
 refine y6 (fun σ' H'=>σ' = [some (.ref la),some (.ref lb),some (.int (many:Nat)),some (.ref ln),some (.ref D),some (.int (plN rows:Nat)),none,none,none,none]/\zm H1 H'/\names.Nodup/\((zy 2 0 rows).isSome = true\/many<=plN rows)) ?_ (fun key=>?_)
 rotate_left
 ·refine ⟨_,rfl,ln,names,rfl,SqL.of (s1 _ _ hln),by omega,fun l4 n4 hl4=>?_⟩
  have s4:=zc hl4 (vt P w l4 (fun z=>decide (z ∈ names)) n4)
  refine ⟨l4,names,n4,rfl,za,fun hn=>?_⟩
  refine ⟨_,rfl,ln,_,rfl,.inl (SqL.of ((s1.trans s4) _ _ hln)),_,_,rfl,rfl,_,rfl,?_⟩
  have hn':decide (((n4:Nat):Int) < ((names.map V.str).length:Nat)) = !decide names.Nodup:=by
   rw [List.length_map,<- hn]
   exact decide_eq_decide.mpr (by omega)
  by_cases nd:names.Nodup
  rotate_left
  ·refine yU (by rw [hn',decide_eq_false nd]; rfl) ?_
   refine yT ?_
   exact no _ (s1.trans s4) fun h=>nd (jP.mp h).1
  refine yp (by rw [hn',decide_eq_true nd]; rfl) ?_
  refine ⟨_,rfl,_,rfl,_,_,rfl,rfl,_,rfl,?_⟩
  by_cases hm:plN rows < many
  ·refine dT (by show ((plN rows:Nat):Int) < (many:Nat); omega) ?_
   refine ⟨_,rfl,D,_,rfl,.inl (SqL.of (s4 _ _ e1)),rfl,flW,_,rfl,?_⟩
   have e2:(if true = true then !inV (.str "tail") (rows.map fun r=>V.str (kw r.k)) else inV (.str "tail") (rows.map fun r=>V.str (kw r.k))) = !(zy 2 0 rows).isSome:=by
    rw [if_pos rfl,eW,yd,show decide (Str.ofString "tail" ∈ rows.map fun r=>kw r.k) = zbS rows 2 from wM (k:=2) (by decide) hok,qZ]
   cases ht:(zy 2 0 rows).isSome with
   | true=>
    refine yp (by rw [e2,ht]; rfl) ?_
    exact key _ _ ⟨rfl,s4,nd,.inl ht⟩
   | false=>
    refine yU (by rw [e2,ht]; rfl) ?_
    refine no _ (s1.trans s4) fun h=>?_
    rcases (jP.mp h).2.1 with h | h
    ·rw [ht] at h; cases h
    ·omega
  ·refine dF (by show ¬ ((plN rows:Nat):Int) < (many:Nat); omega) ?_
   refine ym ?_
   exact key _ _ ⟨rfl,s4,nd,.inr (by omega)⟩
 rintro σ H2 ⟨rfl,s2,nd,tl⟩
 have s02:=s1.trans s2
 refine zv (zw (i:=6) xY.nd rfl (Or.inl rfl) zav) ?_
 intro sd hsd
 have s3:=zc hsd (.dK [])
 have e3:upd H2 sd (.dK []) sd = some (.dK []):=za
 have nsd:H sd = none:=s02.free hsd
 have s03:=s02.trans s3
 have e1:=(s2.trans s3) _ _ e1
 dsimp only [zB]
 generalize upd H2 sd (.dK []) = H3 at s3 e3 s03 e1 |-
 have hus3:∀ {p:Nat} {r:Rw} {H':Hp},rows[p]? = some r->zm H H'->∃ u,atI (us.map V.ref) (p:Int) = some (.ref u)/\SqT K H' u (rv r):=fun {p r H'} hp s=>by
  have hpu:p < us.length:=by rw [lu]; exact (List.getElem?_eq_some_iff.mp hp).1
  obtain ⟨r',hr',tr⟩:=yw hu (List.getElem?_eq_getElem hpu)
  rw [hp] at hr'
  cases hr'
  exact ⟨us[p],y8 (by rw [List.getElem?_map,List.getElem?_eq_getElem hpu]; rfl),SqT.of (s _ _ tr)⟩
 refine zv (yn PassesOwn.never rfl (yv rfl U.range (ac (cB zH U.len PySem.boot_len (ac (pv 0) zb)) zb)) (zk (i:=7) xY.nd rfl (Or.inl rfl)) y7) ?_
 refine ⟨_,rfl,la,_,rfl,.inl (SqL.of (s03 _ _ hla)),((rows.length:Nat):Int),(by rw [List.length_map,lu]),by omega,by omega,?_⟩
 rw [show ((rows.length:Nat):Int).toNat = rows.length from rfl]
 refine xH (n:=rows.length) (fun i σ H'=>∃ v7,σ = [some (.ref la),some (.ref lb),some (.int (many:Nat)),some (.ref ln),some (.ref D),some (.int (plN rows:Nat)),some (.ref sd),v7,none,none]/\zm H H'/\H' D = some (.lst (rows.map fun r=>V.str (kw r.k)))/\H' sd = some (.dK (yk 0 [] (rows.take i)))) ⟨_,rfl,s03,e1,e3⟩ ?_ ?_
 ·rintro i σ H4 hi ⟨v7,rfl,s4,eD,eS⟩
  rw [Int.zero_add]
  dsimp only [zB]
  obtain ⟨r,hr'⟩:∃ r,rows[i]? = some r:=⟨_,List.getElem?_eq_getElem hi⟩
  have rok:=hok r (List.mem_of_getElem? hr')
  obtain ⟨u,au,tu⟩:=hus3 hr' s4
  have et:=wN rows 0 i [] hr'
  rw [Nat.zero_add] at et
  refine ⟨_,zd (zD (zi yK (zo zx (pv 4) (pv 7) (fun _ _=>rfl)) (zE (ac zn (ac zn zb))) (by with_unfolding_all rfl)) (zd (zcw hu1 (pv 6) (zo zF (zo zx (pv 0) (pv 7) (fun _ _=>rfl)) ze (fun _ _=>rfl)) (pv 7) rfl)) zu),?_⟩
  refine ⟨_,rfl,_,rfl,D,_,_,_,rfl,rfl,SqL.of eD,wAt hr',zz2,fun tt htt=>?_⟩
  have s5:=zc htt (.tup [.str "both",.str "tag"])
  have g5:upd H4 tt (.tup [.str "both",.str "tag"]) tt = some (.tup [.str "both",.str "tag"]):=za
  have s05:=s4.trans s5
  have eD5:=s5 _ _ eD
  have eS5:=s5 _ _ eS
  have tu5:=s5.sqT tu
  generalize upd H4 tt (.tup [.str "both",.str "tag"]) = H5 at s5 g5 s05 eD5 eS5 tu5 |-
  refine ⟨tt,_,rfl,.inr (SqT.of g5),rfl,rfl,_,rfl,?_⟩
  rw [if_neg Bool.false_ne_true,zfb rok.1]
  cases hb:yl r.k with
  | false=>
   refine ym ?_
   rw [hb,if_neg Bool.false_ne_true] at et
   exact ⟨_,rfl,s05,eD5,by rw [et]; exact eS5⟩
  | true=>
   refine yT ?_
   rw [hb,if_pos rfl] at et
   refine ⟨_,rfl,_,rfl,_,rfl,_,rfl,la,_,_,_,rfl,rfl,SqL.of (s05 _ _ hla),au,u,_,1,_,rfl,rfl,tu5,xq rok,sd,_,rfl,zfw.k (k:=.inr r.z) eS5 (zG (by have:=ue (rows.take i) 0 []; rw [List.length_take] at this; simp at this; omega)),?_⟩
   refine ⟨_,rfl,z9 s05 nsd _,by rw [zg (fun e=>by rw [e,eS5] at eD5; cases eD5)]; exact eD5,by rw [za,et]⟩
 rintro σ H4 ⟨v7,rfl,s4,eD,eS⟩
 rw [List.take_length] at eS
 refine zv (yn PassesOwn.never rfl (zU (pv 3)) (zk (i:=8) xY.nd rfl (Or.inl rfl)) y7) ?_
 refine ⟨_,rfl,ln,rfl,⟨_,SqL.of (s4 _ _ hln)⟩,yJ (K:=K) (a:=ln) (xs:=names.map V.str) (fun i σ H'=>∃ v8,σ = [some (.ref la),some (.ref lb),some (.int (many:Nat)),some (.ref ln),some (.ref D),some (.int (plN rows:Nat)),some (.ref sd),v7,v8,none]/\zm H4 H'/\∀ z ∈ names.take i,z3 rows bars many z = none) ⟨_,rfl,zm.refl _,fun z hz=>by rw [List.take_zero] at hz; cases hz⟩ (fun i σ H' _ ⟨_,_,s,_⟩=>SqL.of ((s4.trans s) _ _ hln)) ?_ ?_⟩
 ·rintro i x σ H5 hx ⟨v8,rfl,s5,hz5⟩
  obtain ⟨z,hz,rfl⟩:=strs_at hx
  have hzn:=List.mem_of_getElem? hz
  have s05:=s4.trans s5
  have eD5:=s5 _ _ eD
  have eS5:=s5 _ _ eS
  have bad:¬ z3 rows bars many z = none->¬ z7 rows bars many names = []:=fun h e=>h ((jP.mp e).2.2.1 z hzn)
  dsimp only [zB]
  have eB:(if true = true then !inV (.str "bag") (rows.map fun r=>V.str (kw r.k)) else inV (.str "bag") (rows.map fun r=>V.str (kw r.k))) = !(zy 4 0 rows).isSome:=by
   rw [if_pos rfl,eW,yd,show decide (Str.ofString "bag" ∈ rows.map fun r=>kw r.k) = zbS rows 4 from wM (k:=4) (by decide) hok,qZ]
  refine zv (zD (PW.pt (wI (zi yK (pv 8) (pv 1) (by with_unfolding_all rfl)) (x6 (PW.pt (yb (x8 (jL hu1 (pv 8) (pv 6))) (z4 (zi zP zn (pv 4) (by with_unfolding_all rfl)))))))) (zd (zp xw)) zu) ?_
  refine ⟨_,rfl,_,rfl,lb,_,rfl,.inl (SqL.of (s05 _ _ hlb)),rfl,yi,_,rfl,?_⟩
  by_cases hb:z ∈ bars
  ·refine yU (by rw [if_neg Bool.false_ne_true,yd,decide_eq_true hb]) ?_
   refine yT ?_
   exact no _ s05 (bad fun h=>((wR V1).mp h).1 hb)
  refine yp (by rw [if_neg Bool.false_ne_true,yd,decide_eq_false hb]) ?_
  refine ⟨_,rfl,_,rfl,sd,_,rfl,vp.k (k:=.inr z) eS5,_,rfl,?_⟩
  cases hv:zJ (yk 0 [] rows) (.inr z) with
  | none=>
   refine yT ?_
   refine ⟨_,rfl,D,_,rfl,.inl (SqL.of eD5),rfl,flW,_,rfl,?_⟩
   cases h4:(zy 4 0 rows).isSome with
   | false=>
    refine yU (by rw [eB,h4]; rfl) ?_
    refine no _ s05 (bad fun h=>?_)
    rcases ((wR V1).mp h).2 with ⟨_,h⟩ | ⟨l,r,h,_⟩
    ·rw [h4] at h; cases h
    ·rw [hv] at h; cases h
   | true=>
    refine yp (by rw [eB,h4]; rfl) ?_
    have hgood:z3 rows bars many z = none:=(wR V1).mpr ⟨hb,.inl ⟨hv,h4⟩⟩
    refine ⟨_,zd (zD (PW.pt (yb (x8 (zbG hu1 (pv 8) (pv 6))) (yb (zi z5 (zo zx (pv 4) (wW hu1 (pv 6) (pv 8) (fun _ _=>rfl)) (fun _ _=>rfl)) zn (zr _)) (z4 (zi xZ (wW hu1 (pv 6) (pv 8) (fun _ _=>rfl)) (pv 2) (zr _)))))) (zd (zp xw)) zu),?_⟩
    refine ⟨_,rfl,_,rfl,sd,_,rfl,vp.k (k:=.inr z) eS5,_,rfl,?_⟩
    rw [hv]
    refine ym ?_
    refine ym ?_
    exact ⟨_,rfl,s5,fun y hy=>by
     rw [wp hz] at hy
     rcases List.mem_append.mp hy with hy | hy
     ·exact hz5 y hy
     ·rw [List.mem_singleton.mp hy]; exact hgood⟩
  | some v=>
   refine ym ?_
   have nd':(nms rows).Nodup:=(List.nodup_append.mp V1.nd).1
   have hk:z ∈ nms rows:=Classical.byContradiction fun c=>by
    rw [xP rows 0 [] c] at hv
    cases hv
   obtain ⟨l,r,hl,hbn,he⟩:=jd hk
   have hv2:=xQ hbn rows 0 l [] hl nd'
   rw [he,Nat.zero_add,hv] at hv2
   have rok:=hok r (List.mem_of_getElem? hl)
   refine ⟨_,zd (zD (PW.pt (yb (x8 (zbG hu1 (pv 8) (pv 6))) (yb (zi z5 (zo zx (pv 4) (wW hu1 (pv 6) (pv 8) (fun _ _=>rfl)) (fun _ _=>rfl)) zn (zr _)) (z4 (zi xZ (wW hu1 (pv 6) (pv 8) (fun _ _=>rfl)) (pv 2) (zr _)))))) (zd (zp xw)) zu),?_⟩
   have hv3:v = .int ((l:Nat):Int):=Option.some.inj hv2
   subst hv3
   have dg:vp H5 sd (.str z) (some (.int (l:Nat))):=by
    have:=vp.k (k:=.inr z) eS5
    rw [hv] at this
    exact this
   refine ⟨_,rfl,_,rfl,sd,_,rfl,dg,_,rfl,?_⟩
   refine yT ?_
   refine ⟨_,rfl,_,rfl,_,rfl,sd,_,rfl,dg,D,_,_,_,rfl,rfl,SqL.of eD5,wAt hl,rfl,_,rfl,?_⟩
   have good:(¬ (r.k = 1/\l < many))->∀ y ∈ names.take (i + 1),z3 rows bars many y = none:=fun h y hy=>by
    rw [wp hz] at hy
    rcases List.mem_append.mp hy with hy | hy
    ·exact hz5 y hy
    ·rw [List.mem_singleton.mp hy]; exact (wR V1).mpr ⟨hb,.inr ⟨l,r,hv,hl,hbn,h⟩⟩
   have ek:decide (V.str (kw r.k) = V.str "both") = decide (r.k = 1):=by
    have e:∀ k:Nat,k < 5->decide (V.str (kw k) = V.str "both") = decide (k = 1):=by decide +kernel
    exact e r.k rok.1
   by_cases h1:r.k = 1
   rotate_left
   ·refine yp (by rw [ek,decide_eq_false h1]) ?_
    refine ym ?_
    exact ⟨_,rfl,s5,good fun c=>h1 c.1⟩
   refine yU (by rw [ek,decide_eq_true h1]) ?_
   refine ⟨_,rfl,_,rfl,sd,_,rfl,dg,_,rfl,_,_,rfl,rfl,_,rfl,?_⟩
   by_cases h2:l < many
   ·refine dT (by show ((l:Nat):Int) < (many:Nat); omega) ?_
    refine no _ s05 (bad fun h=>?_)
    rcases ((wR V1).mp h).2 with ⟨h,_⟩ | ⟨l',r',h,h',_,h''⟩
    ·rw [hv] at h; cases h
    ·rw [hv] at h
     have:l = l':=by have:=V.int.inj (Option.some.inj h); omega
     subst this
     rw [hl] at h'
     cases h'
     exact h'' ⟨h1,h2⟩
   ·refine dF (by show ¬ ((l:Nat):Int) < (many:Nat); omega) ?_
    exact ⟨_,rfl,s5,good fun c=>h2 c.2⟩
 rintro σ H5 ⟨v8,rfl,s5,hz5⟩
 rw [List.length_map,List.take_length] at hz5
 have s05:=s4.trans s5
 have eD5:=s5 _ _ eD
 refine zv (yn PassesOwn.never rfl (yv rfl U.range (ac (cB zH U.len PySem.boot_len (ac (pv 0) zb)) zb)) (zk (i:=7) xY.nd rfl (Or.inl rfl)) y7) ?_
 refine ⟨_,rfl,la,_,rfl,.inl (SqL.of (s05 _ _ hla)),((rows.length:Nat):Int),(by rw [List.length_map,lu]),by omega,by omega,?_⟩
 rw [show ((rows.length:Nat):Int).toNat = rows.length from rfl]
 refine xH (n:=rows.length) (fun i σ H'=>∃ v7 v9,σ = [some (.ref la),some (.ref lb),some (.int (many:Nat)),some (.ref ln),some (.ref D),some (.int (plN rows:Nat)),some (.ref sd),v7,v8,v9]/\zm H5 H'/\∀ j r,j < i->rows[j]? = some r->(yr names r && !(y0 r.k && decide (j < many))) = false) ⟨_,_,rfl,zm.refl _,fun j r hj=>absurd hj (Nat.not_lt_zero _)⟩ ?_ ?_
 ·rintro i σ H6 hi ⟨v7',v9,rfl,s6,hz6⟩
  rw [Int.zero_add]
  dsimp only [zB]
  obtain ⟨r,hr'⟩:∃ r,rows[i]? = some r:=⟨_,List.getElem?_eq_getElem hi⟩
  have rok:=hok r (List.mem_of_getElem? hr')
  have s06:=s05.trans s6
  obtain ⟨u,au,tu⟩:=hus3 hr' s06
  have eD6:=s6 _ _ eD5
  have ll:=zaM (names:=names) (i:=i) (many:=many) rok.1
  have bad:(yr names r && !(y0 r.k && decide (i < many))) = true->¬ z7 rows bars many names = []:=fun h e=>by
   have:=(jP.mp e).2.2.2 i r hr'
   rw [h] at this
   cases this
  have good:∀ (H':Hp) (v9:Option V),zm H5 H'->(yr names r && !(y0 r.k && decide (i < many))) = false->∃ v7 v9',([some (.ref la),some (.ref lb),some (.int (many:Nat)),some (.ref ln),some (.ref D),some (.int (plN rows:Nat)),some (.ref sd),some (.int (i:Nat)),v8,v9]:List (Option V)) = [some (.ref la),some (.ref lb),some (.int (many:Nat)),some (.ref ln),some (.ref D),some (.int (plN rows:Nat)),some (.ref sd),v7,v8,v9']/\zm H5 H'/\∀ j r,j < i + 1->rows[j]? = some r->(yr names r && !(y0 r.k && decide (j < many))) = false:=fun H' v9 s h=>⟨_,_,rfl,s,fun j r2 hj hr2=>by
   rcases Nat.lt_or_ge j i with c | c
   ·exact hz6 j r2 c hr2
   ·have:j = i:=by omega
    subst this
    rw [hr'] at hr2
    cases hr2
    exact h⟩
  refine ⟨_,zd (zD (PW.pt (yb (zi zP (zo zx (pv 4) (pv 7) (fun _ _=>rfl)) (zE (ac zn (ac zn zb))) (by with_unfolding_all rfl)) (z4 (xy (yz (zo zF (zo zx (pv 0) (pv 7) (fun _ _=>rfl)) ze (fun _ _=>rfl))))))) (zj (zw (i:=9) xY.nd rfl (Or.inl rfl) (qH (yM zey (zo zx (pv 4) (pv 7) (fun _ _=>rfl)) zn (zr _)) (zbD (yM xZ (pv 7) (pv 2) (zr _))))) (zd (zD (PW.pt (yb (xy (yz (pv 9))) (z4 (PW.pt (wI (zi z5 (zo zx (pv 4) (pv 7) (fun _ _=>rfl)) zn (zr _)) (x6 (zi zP (zo zF (zo zx (pv 0) (pv 7) (fun _ _=>rfl)) ze (fun _ _=>rfl)) (pv 3) (by with_unfolding_all rfl)))))))) (zd (zp xw)) zu))) zu),?_⟩
  refine ⟨_,rfl,_,rfl,D,_,_,_,rfl,rfl,SqL.of eD6,wAt hr',zz2,fun tt htt=>?_⟩
  have s7:=zc htt (.tup [.str "tail",.str "bag"])
  have g7:upd H6 tt (.tup [.str "tail",.str "bag"]) tt = some (.tup [.str "tail",.str "bag"]):=za
  have s07:=s06.trans s7
  have s57:=s6.trans s7
  have eD7:=s7 _ _ eD6
  have tu7:=s7.sqT tu
  generalize upd H6 tt (.tup [.str "tail",.str "bag"]) = H7 at s7 g7 s07 s57 eD7 tu7 |-
  refine ⟨tt,_,rfl,.inr (SqT.of g7),rfl,rfl,_,rfl,?_⟩
  have e1':(if true = true then !inV (.str (kw r.k)) [.str "tail",.str "bag"] else inV (.str (kw r.k)) [.str "tail",.str "bag"]) = !(decide (r.k = 2) || decide (r.k = 4)):=by
   have e:∀ k:Nat,k < 5->(!inV (.str (kw k)) [.str "tail",.str "bag"]) = !(decide (k = 2) || decide (k = 4)):=by decide +kernel
   rw [if_pos rfl]
   exact e r.k rok.1
  rw [e1']
  clear e1'
  by_cases hk:(decide (r.k = 2) || decide (r.k = 4)) = true
  ·refine yp (by rw [hk]; rfl) ?_
   refine ym ?_
   exact good _ _ s57 (by rw [ll,hk]; rfl)
  have hk':(decide (r.k = 2) || decide (r.k = 4)) = false:=by simpa using hk
  have hk3:r.k = 0\/r.k = 1\/r.k = 3:=by
   have:=rok.1
   simp only [Bool.or_eq_false_iff,decide_eq_false_iff_not] at hk'
   omega
  rw [hk'] at ll
  refine yU (by rw [hk']; rfl) ?_
  refine ⟨_,rfl,_,rfl,la,_,_,_,rfl,rfl,SqL.of (s07 _ _ hla),au,u,_,2,_,rfl,rfl,tu7,zcv hk3,_,rfl,?_⟩
  cases hb:r.b with
  | true=>
   refine ym ?_
   exact good _ _ s57 (by rw [ll,hb]; rfl)
  | false=>
   rw [hb] at ll
   refine yT ?_
   refine ⟨_,rfl,_,rfl,D,_,_,_,rfl,rfl,SqL.of eD7,wAt hr',rfl,_,rfl,?_⟩
   have ek3:(!decide (V.str (kw r.k) = V.str "tag")) = !decide (r.k = 3):=by
    have e:∀ k:Nat,k < 5->decide (V.str (kw k) = V.str "tag") = decide (k = 3):=by decide +kernel
    rw [e r.k rok.1]
   have ek0:decide (V.str (kw r.k) = V.str "seat") = decide (r.k = 0):=by
    have e:∀ k:Nat,k < 5->decide (V.str (kw k) = V.str "seat") = decide (k = 0):=by decide +kernel
    exact e r.k rok.1
   by_cases h3:r.k = 3
   ·refine yp (by rw [ek3,decide_eq_true h3]; rfl) ?_
    have hbp:(!decide (r.k = 3) && decide (i < many)) = false:=by rw [decide_eq_true h3]; rfl
    dsimp only [zB]
    refine ⟨_,rfl,_,rfl,?_⟩
    refine yT ?_
    refine ⟨_,rfl,_,rfl,D,_,_,_,rfl,rfl,SqL.of eD7,wAt hr',rfl,_,rfl,?_⟩
    by_cases h0:r.k = 0
    ·refine yU (by rw [ek0,decide_eq_true h0]) ?_
     refine yT ?_
     exact no _ s07 (bad (by rw [ll,hbp,decide_eq_true h0]; rfl))
    ·refine yp (by rw [ek0,decide_eq_false h0]) ?_
     refine ⟨_,rfl,_,rfl,la,_,_,_,rfl,rfl,SqL.of (s07 _ _ hla),au,u,_,1,_,rfl,rfl,tu7,xq rok,_,rfl,ln,_,rfl,.inl (SqL.of (s07 _ _ hln)),rfl,yi,_,rfl,?_⟩
     by_cases hn:r.z ∈ names
     ·refine yp (by rw [if_pos rfl,yd,decide_eq_true hn]; rfl) ?_
      exact good _ _ s57 (by rw [ll,hbp,decide_eq_false h0,decide_eq_true hn]; rfl)
     ·refine yU (by rw [if_pos rfl,yd,decide_eq_false hn]; rfl) ?_
      exact no _ s07 (bad (by rw [ll,hbp,decide_eq_false h0,decide_eq_false hn]; rfl))
   refine yU (by rw [ek3,decide_eq_false h3]; rfl) ?_
   refine ⟨_,rfl,_,rfl,_,_,rfl,rfl,?_⟩
   by_cases hm:i < many
   ·rw [show decide (((i:Nat):Int) < ((many:Nat):Int)) = true from decide_eq_true (by omega)]
    dsimp only [zB]
    refine ⟨_,rfl,_,rfl,?_⟩
    refine ym ?_
    refine ym ?_
    exact good _ _ s57 (by rw [ll,decide_eq_true hm,decide_eq_false h3]; rfl)
   ·rw [show decide (((i:Nat):Int) < ((many:Nat):Int)) = false from decide_eq_false (by omega)]
    have hbp:(!decide (r.k = 3) && decide (i < many)) = false:=by rw [decide_eq_false hm,Bool.and_false]
    dsimp only [zB]
    refine ⟨_,rfl,_,rfl,?_⟩
    refine yT ?_
    refine ⟨_,rfl,_,rfl,D,_,_,_,rfl,rfl,SqL.of eD7,wAt hr',rfl,_,rfl,?_⟩
    by_cases h0:r.k = 0
    ·refine yU (by rw [ek0,decide_eq_true h0]) ?_
     refine yT ?_
     exact no _ s07 (bad (by rw [ll,hbp,decide_eq_true h0]; rfl))
    ·refine yp (by rw [ek0,decide_eq_false h0]) ?_
     refine ⟨_,rfl,_,rfl,la,_,_,_,rfl,rfl,SqL.of (s07 _ _ hla),au,u,_,1,_,rfl,rfl,tu7,xq rok,_,rfl,ln,_,rfl,.inl (SqL.of (s07 _ _ hln)),rfl,yi,_,rfl,?_⟩
     by_cases hn:r.z ∈ names
     ·refine yp (by rw [if_pos rfl,yd,decide_eq_true hn]; rfl) ?_
      exact good _ _ s57 (by rw [ll,hbp,decide_eq_false h0,decide_eq_true hn]; rfl)
     ·refine yU (by rw [if_pos rfl,yd,decide_eq_false hn]; rfl) ?_
      exact no _ s07 (bad (by rw [ll,hbp,decide_eq_false h0,decide_eq_false hn]; rfl))
 ·rintro σ H6 ⟨v7',v9,rfl,s6,hz6⟩
  refine ⟨_,zd (zp xw),?_⟩
  have:=q H6 (s05.trans s6)
  rw [decide_eq_true (jP.mpr ⟨nd,tl,hz5,fun i r hr'=>hz6 i r (List.getElem?_eq_some_iff.mp hr').1 hr'⟩)] at this
  exact this
end
theorem j3 {xs:List V} {n:Nat}:wB xs none (some (n:Int)) = xs.take n:=by
 unfold wB
 rw [HT.zje,HT.ziP,List.drop_zero,Nat.sub_zero]
 by_cases h:n<=xs.length
 ·rw [Nat.min_eq_left h]
 ·rw [Nat.min_eq_right (by omega),List.take_of_length_le (Nat.le_refl _),List.take_of_length_le (by omega)]
theorem zdw {xs:List V} {n:Nat}:wB xs (some (n:Int)) none = xs.drop n:=by
 unfold wB
 rw [HT.zje,HT.ziP]
 by_cases h:n<=xs.length
 ·rw [Nat.min_eq_left h]
  exact List.take_of_length_le (by rw [List.length_drop]; exact Nat.le_refl _)
 ·rw [Nat.min_eq_right (by omega),List.drop_of_length_le (Nat.le_refl _),List.drop_of_length_le (by omega)]
  simp
def zdV (K:Frag):Sp:=fun vs H Q _=>∃ (many:Nat) (ln t:Addr) (names c:List Str),vs = [.int (many:Nat),.ref ln,.ref t]/\H ln = some (.lst (names.map V.str))/\SqT K H t (c.map V.str)/\names.length<=800/\
 ((c = wO/\∀ (u:Addr) (H':Hp),zm H H'->H' u = some (.tup [.int (((many:Nat):Int) - 1),.ref ln])->Q (.ref u) H')\/
  (c = wo/\∀ (u:Addr) (H':Hp),zm H H'->H' u = some (.tup [.int (((many:Nat):Int) + 1),.ref ln])->Q (.ref u) H')\/
  (∃ z,c = cIn z/\∀ (u l:Addr) (H':Hp),zm H H'->H l = none->H' l = some (.lst ((names ++ [z]).map V.str))->H' u = some (.tup [.int (many:Nat),.ref l])->Q (.ref u) H')\/
  (∃ z,c = za6 z/\z ∈ names/\∀ (u l:Addr) (i:Nat) (H':Hp),zm H H'->H l = none->names[i]? = some z->H' l = some (.lst ((names.eraseIdx i).map V.str))->H' u = some (.tup [.int (many:Nat),.ref l])->Q (.ref u) H'))
structure zjU (mg:Str->Option Value):Prop where
 len:mg "len" = none
 max:mg "max" = none
 range:mg "range" = none
section
variable {P:Program} {w:World} {K:Frag} {mg:Str->Option Value} {base:Heap} {f CF:Addr} {fd:FuncData} {c:C5} {m:MA}
theorem ziY:([Str.ofString "_law_j",Str.ofString "_law_names",Str.ofString "_law_change"]:List Str).Nodup:=by decide +kernel
theorem zd9:zt ["_law_many","_law_names","_law_change","_law_at"] ["_law_many","_law_names","_law_change"] (zh qv):=⟨rfl,rfl,rfl,by decide +kernel,rfl,by decide +kernel,by decide +kernel⟩
theorem zf6 (F:Fun K "_law_turned" "_law_turned" qv f fd) (U:zjU mg):zA P w K mg base CX0 1 f fd ["_law_many","_law_names","_law_change"] (zdV K):=by
 refine F.ok zd9 (fun vs H Q E h=>?_) (fun cdv A outer s H vs Q E hr h=>?_)
 ·obtain ⟨many,ln,t,names,c,rfl,_⟩:=h
  rfl
 obtain ⟨many,ln,t,names,c,rfl,hln,ht,n8,q⟩:=h
 refine zv (zD (zi z5 (zo zF (pv 2) ze (fun _ _=>rfl)) zn (zr _)) (zd (zp (zE (ac (zq xL (pv 0) ze) (ac (pv 1) zb))))) zu) ?_
 rcases q with ⟨rfl,q⟩ | ⟨rfl,q⟩ | ⟨z,rfl,q⟩ | ⟨z,rfl,hz,q⟩
 ·refine ⟨_,rfl,t,_,0,.str "less",rfl,rfl,ht,rfl,rfl,_,rfl,?_⟩
  refine yU (by decide +kernel) ?_
  refine ⟨_,rfl,_,_,rfl,rfl,_,rfl,zz2,fun u hu=>?_⟩
  exact q u _ (zc hu _) za
 ·refine ⟨_,rfl,t,_,0,.str "more",rfl,rfl,ht,rfl,rfl,_,rfl,?_⟩
  refine yp (by decide +kernel) ?_
  refine zv (zD (zi z5 (zo zF (pv 2) ze (fun _ _=>rfl)) zn (zr _)) (zd (zp (zE (ac (zq yc (pv 0) ze) (ac (pv 1) zb))))) zu) ?_
  refine ⟨_,rfl,t,_,0,.str "more",rfl,rfl,ht,rfl,rfl,_,rfl,?_⟩
  refine yU (by decide +kernel) ?_
  refine ⟨_,rfl,_,_,rfl,rfl,_,rfl,zz2,fun u hu=>?_⟩
  exact q u _ (zc hu _) za
 ·refine ⟨_,rfl,t,_,0,.str "in",rfl,rfl,ht,rfl,rfl,_,rfl,?_⟩
  refine yp (by decide +kernel) ?_
  refine zv (zD (zi z5 (zo zF (pv 2) ze (fun _ _=>rfl)) zn (zr _)) (zd (zp (zE (ac (zq yc (pv 0) ze) (ac (pv 1) zb))))) zu) ?_
  refine ⟨_,rfl,t,_,0,.str "in",rfl,rfl,ht,rfl,rfl,_,rfl,?_⟩
  refine yp (by decide +kernel) ?_
  refine zv (zD (zi z5 (zo zF (pv 2) ze (fun _ _=>rfl)) zn (zr _)) (zd (zp (zE (ac (pv 0) (ac (zq yG (pv 1) (zT (ac (zo zF (pv 2) ze (fun _ _=>rfl)) zb))) zb))))) zu) ?_
  refine ⟨_,rfl,t,_,0,.str "in",rfl,rfl,ht,rfl,rfl,_,rfl,?_⟩
  refine yU (by decide +kernel) ?_
  refine ⟨_,rfl,_,rfl,_,rfl,t,_,1,.str z,rfl,rfl,ht,rfl,zz1,fun l1 hl1=>?_⟩
  have s1:=zc hl1 (.lst [.str z])
  refine ⟨ln,l1,_,_,rfl,rfl,s1 _ _ hln,za,(by rw [List.length_map]; exact zY (by show names.length + 1<=1000; omega)),fun l hl=>?_⟩
  have s2:=zc hl (.lst (names.map V.str ++ [.str z]))
  refine ⟨zz2,fun u hu=>?_⟩
  have s3:=zc hu (.tup [.int (many:Nat),.ref l])
  exact q u l _ (s1.trans (s2.trans s3)) (s1.free hl) (by rw [List.map_append]; exact s3 _ _ za) za
 ·refine ⟨_,rfl,t,_,0,.str "out",rfl,rfl,ht,rfl,rfl,_,rfl,?_⟩
  refine yp (by decide +kernel) ?_
  refine zv (zD (zi z5 (zo zF (pv 2) ze (fun _ _=>rfl)) zn (zr _)) (zd (zp (zE (ac (zq yc (pv 0) ze) (ac (pv 1) zb))))) zu) ?_
  refine ⟨_,rfl,t,_,0,.str "out",rfl,rfl,ht,rfl,rfl,_,rfl,?_⟩
  refine yp (by decide +kernel) ?_
  refine zv (zD (zi z5 (zo zF (pv 2) ze (fun _ _=>rfl)) zn (zr _)) (zd (zp (zE (ac (pv 0) (ac (zq yG (pv 1) (zT (ac (zo zF (pv 2) ze (fun _ _=>rfl)) zb))) zb))))) zu) ?_
  refine ⟨_,rfl,t,_,0,.str "out",rfl,rfl,ht,rfl,rfl,_,rfl,?_⟩
  refine yp (by decide +kernel) ?_
  refine zv (zD (zi zP (zo zF (pv 2) ze (fun _ _=>rfl)) (pv 1) (by with_unfolding_all rfl)) (zd (zp (zE (ac (zg6 zdR ze) (ac (pv 1) zb))))) zu) ?_
  refine ⟨_,rfl,t,_,1,.str z,rfl,rfl,ht,rfl,_,rfl,ln,_,rfl,.inl (SqL.of hln),rfl,yi,_,rfl,?_⟩
  refine yp (by rw [if_pos rfl,yd,decide_eq_true hz]; rfl) ?_
  refine zv (zw (i:=3) zd9.nd rfl (Or.inl rfl) (cB (zdE rfl) U.max boot_max (ac (xz ["_law_names","_law_change"] ["_law_j","_law_names","_law_change"] [none,some 1,some 2] rfl ⟨rfl,rfl,rfl,rfl⟩ (yv rfl U.range (ac (cB zH U.len PySem.boot_len (ac (pv 1) zb)) zb)) (zM 0) rfl rfl rfl
   (fun pins fp s H C=>⟨zk (i:=0) ziY rfl (Or.inl rfl) (.inr rfl),xr (zi z5 (zo (r:=zbB K) zx (pv 1) (pv 0) (fun _ _=>rfl)) (zo (r:=jy K) zF (pv 2) ze (fun _ _=>rfl)) (zr _)),pv 0⟩)) zb))) ?_
  refine ⟨_,rfl,ln,_,rfl,.inl (SqL.of hln),((names.length:Nat):Int),(by rw [List.length_map]),by omega,by omega,fun D hD=>?_⟩
  rw [show ((names.length:Nat):Int).toNat = names.length from rfl]
  refine qK (n:=names.length) (fun i=>decide (names.getD i "" = z)) (fun i=>.int (i:Nat)) hD (by omega) (fun i H' N S hi sH n1 s1=>?_) (fun H1 s1 e1=>?_)
  ·rw [Int.zero_add]
   refine ⟨_,rfl,_,rfl,ln,_,_,.str (names.getD i ""),rfl,rfl,SqL.of (sH _ _ hln),y8 (by rw [List.getElem?_map,List.getElem?_eq_getElem hi,List.getD_eq_getElem?_getD,List.getElem?_eq_getElem hi]; rfl),_,rfl,t,_,1,.str z,rfl,rfl,sH.sqT ht,rfl,rfl,_,rfl,?_⟩
   have e:decide (V.str (names.getD i "") = V.str z) = decide (names.getD i "" = z):=decide_eq_decide.mpr ⟨fun h=>V.str.inj h,fun h=>by rw [h]⟩
   rw [e]
   exact ⟨fun e=>⟨_,rfl,n1 _ (zm.refl _) e⟩,fun e=>s1 _ (zm.refl _) e⟩
  have e1:H1 D = some (.lst ((((List.range names.length).filter fun i=>decide (names.getD i "" = z)).map fun (i:Nat)=>(i:Int)).map V.int)):=by rw [e1,List.map_map]; rfl
  obtain ⟨j,hj,ej⟩:=List.mem_iff_getElem.mp hz
  have hne:((List.range names.length).filter fun i=>decide (names.getD i "" = z)).map (fun (i:Nat)=>(i:Int)) ≠ []:=fun c=>by
   have hm:(j:Int) ∈ ((List.range names.length).filter fun i=>decide (names.getD i "" = z)).map (fun (i:Nat)=>(i:Int)):=List.mem_map.mpr ⟨j,List.mem_filter.mpr ⟨List.mem_range.mpr hj,decide_eq_true (by rw [List.getD_eq_getElem?_getD,List.getElem?_eq_getElem hj]; exact ej)⟩,rfl⟩
   rw [c] at hm
   cases hm
  refine ⟨D,_,rfl,SqL.of e1,hne,fun mm hm=>?_⟩
  obtain ⟨i,hi,rfl⟩:=List.mem_map.mp hm
  obtain ⟨hi1,hi2⟩:=List.mem_filter.mp hi
  have hil:=List.mem_range.mp hi1
  have ei:names[i]? = some z:=by
   have:=of_decide_eq_true hi2
   rw [List.getD_eq_getElem?_getD,List.getElem?_eq_getElem hil] at this
   rw [List.getElem?_eq_getElem hil]
   exact congrArg some this
  dsimp only [zB]
  refine ⟨_,zd (zp (zE (ac (pv 0) (ac (zq yG (xv xW (pv 1) qF (yW (pv 3))) (xv xW (pv 1) (yW (zq yc (pv 3) ze)) qF)) zb)))),?_⟩
  have hln1:=s1 _ _ hln
  refine ⟨_,rfl,_,rfl,_,rfl,_,rfl,ln,_,rfl,SqL.of hln1,fun l2 hl2=>?_⟩
  rw [show wB (names.map V.str) none (some (i:Int)) = (names.take i).map V.str from (j3 (n:=i)).trans (List.map_take ..).symm]
  have s2:=zc hl2 (.lst ((names.take i).map V.str))
  refine ⟨_,rfl,_,rfl,_,_,rfl,rfl,_,rfl,ln,_,rfl,SqL.of (s2 _ _ hln1),fun l3 hl3=>?_⟩
  rw [show wB (names.map V.str) (some ((i:Int) + 1)) none = (names.drop (i + 1)).map V.str from (zdw (n:=i + 1)).trans (List.map_drop ..).symm]
  have s3:=zc hl3 (.lst ((names.drop (i + 1)).map V.str))
  refine ⟨l2,l3,_,_,rfl,rfl,s3 _ _ za,za,(by rw [List.length_map,List.length_map,List.length_take,List.length_drop]; exact zY (by omega)),fun l4 hl4=>?_⟩
  have s4:=zc hl4 (.lst ((names.take i).map V.str ++ (names.drop (i + 1)).map V.str))
  refine ⟨zz2,fun u hu=>?_⟩
  have s5:=zc hu (.tup [.int (many:Nat),.ref l4])
  exact q u l4 i _ (s1.trans (s2.trans (s3.trans (s4.trans s5)))) ((s1.trans (s2.trans s3)).free hl4) ei (by rw [List.eraseIdx_eq_take_drop_succ,List.map_append]; exact s5 _ _ za) za
end
def qi (K:Frag):Sp:=fun vs H Q _=>∃ (a:Addr) (ns:List Int) (k:Nat),vs = [.ref a,.int k]/\SqL K H a (ns.map V.int)/\Q (.int (ns.getD k 0)) H
section
variable {P:Program} {w:World} {K:Frag} {mg:Str->Option Value} {base:Heap} {f CF:Addr} {fd:FuncData} {c:C5} {m:MA}
theorem zgd (F:Fun K "_law_nth" "_law_nth" zhI f fd) (T:zio mg):zA P w K mg base CX0 1 f fd ["_law_script","_law_k"] (qi K):=by
 refine F.ok ziM (fun vs H Q E h=>?_) (fun cdv A outer s H vs Q E hr h=>?_)
 ·obtain ⟨a,ns,k,rfl,_⟩:=h
  rfl
 obtain ⟨a,ns,k,rfl,hS,q⟩:=h
 refine ⟨_,zd (zp (zau (zi xZ (pv 1) (cB zH T.len PySem.boot_len (ac (pv 0) zb)) (zr _)) (zo zx (pv 0) (pv 1) (fun _ _=>rfl)) ze)),?_⟩
 refine ⟨_,rfl,_,rfl,a,_,rfl,.inl hS,_,_,rfl,rfl,_,rfl,?_⟩
 rw [List.length_map]
 refine vI (fun c=>?_) (fun c=>?_)
 ·have c':(k:Int) < (ns.length:Int):=of_decide_eq_true c
  have hk:k < ns.length:=by omega
  rw [List.getD_eq_getElem?_getD,List.getElem?_eq_getElem hk] at q
  refine ⟨_,rfl,_,rfl,a,_,(k:Int),.int ns[k],rfl,rfl,hS,y8 (by rw [List.getElem?_map,List.getElem?_eq_getElem hk]; rfl),q⟩
 ·have c':¬ (k:Int) < (ns.length:Int):=fun h=>c (decide_eq_true h)
  rw [List.getD_eq_getElem?_getD,List.getElem?_eq_none (by omega)] at q
  exact q
end
def wa (ns:List Int) (a b:Nat):List Int:=(ns.drop (min a ns.length)).take (min b ns.length - min a ns.length)
theorem zcS (ns:List Int) (a b:Nat):wB (ns.map V.int) (some (a:Int)) (some (b:Int)) = (wa ns a b).map V.int/\(wa ns a b).length<=b - a:=by
 unfold wa
 refine ⟨?_,?_⟩
 ·unfold wB
  rw [HT.zje,HT.zje,List.length_map,List.map_take,List.map_drop]
 ·rw [List.length_take,List.length_drop]
  omega
def zbA (n:Int):List Int:=(List.range 30).map fun (k:Nat)=>xk (n / 8 + (k:Int) * (k:Int))
theorem qS {α : Type} {b:Nat}:∀ (l:List (List α)),(∀ x ∈ l,x.length<=b)->l.flatten.length<=b * l.length
 | [],_=>Nat.le_refl _
 | x :: l,h=>by
  rw [List.flatten_cons,List.length_append,List.length_cons,Nat.mul_succ]
  have:=qS l fun y hy=>h y (List.mem_cons_of_mem _ hy)
  have:=h x List.mem_cons_self
  omega
section
variable {P:Program} {w:World} {K:Frag} {mg:Str->Option Value} {base:Heap} {f CF:Addr} {fd:FuncData} {c:C5} {m:MA}
theorem ur {α β : Type} {R : α->β->Prop}:∀ {xs:List α} {ys:List β} (n:Nat),Paired R xs ys->Paired R (xs.take n) (ys.take n)
 | _,_,0,_=>.nil
 | _,_,_ + 1,.nil=>.nil
 | _,_,n + 1,.cons h t=>.cons h (ur n t)
end
theorem zc7 {H H2:Hp} {l:Addr} {o:HO} (s:zm H H2) (h:H l = none):zm H (upd H2 l o):=fun b u e=>by rw [zg (zf e h)]; exact s b u e
theorem PAt.upd {c:C5} {H:Hp} {v D:Addr} {r:Rw} {ys:List V} {o:HO} (h:PAt c H v r) (hD:H D = some (.lst ys)):PAt c (upd H D o) v r:=by
 obtain ⟨dx,h⟩:=h
 refine ⟨dx,?_⟩
 rw [zg (fun e=>by rw [e,hD] at h; cases h)]
 exact h
def zju (n:Bool):R2:=fun x y H Q=>∃ (a c:Addr) (xs:List V),x = .ref a/\y = .ref c/\H a = some (.lst xs)/\H c = some (.lst [])/\Q (.bl (n != xs.isEmpty)) H
theorem zaD {X:Cx} (hu:X.A.units + 64 < cLine):OpR X (compareOp .Eq) (zju false):=by
 intro pins s σ H x y v u Q I rx ry h
 obtain ⟨a,c,xs,rfl,rfl,ha,hc,q⟩:=h
 cases xs with
 | nil=>exact zhX hu pins s σ H _ _ v u Q I rx ry ⟨a,c,0,.lst [],fun _=>True,fun _=>True,rfl,rfl,by decide,zO.lst True.intro ha .nil,zO.lst True.intro hc .nil,q⟩
 | cons z zs=>exact zeA (by omega) pins s σ H _ _ v u Q I rx ry ⟨a,c,_,_,rfl,rfl,ha,hc,by simp,q⟩
theorem zgs {rows:List Rw} {bars names:List Str} {many:Nat} (V1:xR rows bars) (h:z7 rows bars many names = []):yA rows<=many/\many<=ya rows many/\mtF rows bars many many names = []:=by
 obtain ⟨_,h2,_,h4⟩:=(ze3 V1).mp h
 refine ⟨?_,?_,?_⟩
 ·refine (jq (plN rows)).mpr fun i r hi hr nr=>(jq (plN rows)).mp h4 i r hi hr ?_
  unfold yr yL at nr |-
  rw [Bool.and_eq_true] at nr |-
  refine ⟨nr.1,?_⟩
  cases hb:yl r.k with
  | false=>rfl
  | true=>
   have:r.z ∈ nms rows:=List.mem_map.mpr ⟨r,List.mem_filter.mpr ⟨List.mem_of_getElem? hr,hb⟩,rfl⟩
   have n2:=nr.2
   rw [hb,decide_eq_true this] at n2
   cases n2
 ·unfold ya
  rcases h2 with h2 | h2
  ·rw [if_pos h2]; omega
  ·split <;> omega
 ·unfold mtF
  rw [h,Nat.sub_self]
  rfl
section
variable {P:Program} {w:World} {K:Frag} {mg:Str->Option Value} {base:Heap} {f CF:Addr} {fd:FuncData} {c:C5} {m:MA}
end
theorem vJ {ts:List Int} {i:Nat} {x:V} (h:(ts.map V.int)[i]? = some x):∃ t,ts[i]? = some t/\x = .int t:=by
 rw [List.getElem?_map] at h
 cases e:ts[i]? with
 | none=>rw [e] at h; cases h
 | some it=>rw [e] at h; exact ⟨it,rfl,(Option.some.inj h).symm⟩
theorem zim:∀ m,m < 26->(Str.ofString "abcdefghijklmnopqrstuvwxyz").cps.toList[m]? = some (97 + m):=by decide +kernel
structure Abc (z:Str) (n:Nat):Prop where
 len:z.length = n
 pos : 0 < n
 le:n<=26
 at_:∀ m,m < n->z.cps.toList[m]? = some (97 + m)
theorem zhc:Abc "abcdefghijklmnopqrstuvwxyz" 26:=⟨by decide +kernel,by decide,by decide,zim⟩
end K33
namespace L2
open PySem PySem.Spec PyProof.Rows
section
variable {X:Cx}
theorem jJ {val:Nat->Int} {n:Nat} (h:∀ i,i < n->0<=val i/\val i<=1000):∀ j,j<=n->0<=preSum val j/\preSum val j<=1000 * j
 | 0,_=>⟨Int.le_refl _,Int.le_refl _⟩
 | j + 1,hj=>by
  have ih:=jJ h j (by omega)
  have:=h j (by omega)
  show 0<=preSum val j + val j/\preSum val j + val j<=_
  omega
theorem zdy (hc:X.calm = true):yN X (.builtin "sum") (fun xs H Q=>∃ (p:Addr) (ns:List Int),xs = [.ref p]/\SqL X.K H p (ns.map V.int)/\ns.length<=100/\(∀ n ∈ ns,0<=n/\n<=1000)/\∀ m:Int,0<=m->m<=100000->Q (.int m) H):=by
 intro pins s σ H xs us Q I r h
 obtain ⟨p,ns,rfl,hS,l1,hb,q⟩:=h
 obtain ⟨u,rfl,ru⟩:=xt r
 cases ru
 obtain ⟨its,rv,hp,hz⟩:=I.list hS
 have hlen:its.length = ns.length:=by rw [<- rv.length,List.length_map]
 have hlt:p < s.heap.objs.size:=by obtain ⟨_,e,_⟩:=hp.isList; exact Heap.lt_size e
 have hpne:p ≠ s.heap.objs.size:=Nat.ne_of_lt hlt
 have hval:∀ (i:Nat) (v:Value),its.toArray[i]? = some v->∃ t,v = .int (ns.getD i 0) t:=fun i v hP=>by
  have hv:its[i]? = some v:=by simpa using hP
  have hi:i < ns.length:=by rw [<- hlen]; exact (List.getElem?_eq_some_iff.mp hv).1
  obtain ⟨u',e1,t,e2⟩:=rv.get (i:=i) (x:=V.int ns[i]) (by rw [List.getElem?_map,List.getElem?_eq_getElem hi]; rfl)
  rw [hv] at e1
  cases e1
  refine ⟨t,?_⟩
  rw [e2,List.getD_eq_getElem?_getD,List.getElem?_eq_getElem hi]
  rfl
 have hn:its.toArray.size = ns.length:=by rw [List.size_toArray,hlen]
 have hv2:∀ i,i < ns.length->0<=ns.getD i 0/\ns.getD i 0<=1000:=fun i hi=>by
  rw [List.getD_eq_getElem?_getD,List.getElem?_eq_getElem hi]
  exact hb _ (List.getElem_mem hi)
 have ps:=jJ (val:=fun i=>ns.getD i 0) hv2
 refine call_sum_walkS (wpAny_pyIter_list hp.isList ?_)
 refine ⟨s.heap.objs.size,_,_,_,_,_,_,fun i=>ns.getD i 0,rfl,(Walks.list (A:=X.A.in1) (I.ok.hd hc) s.heap.objs.size p hpne its.toArray).toS,⟨⟨_,Heap.get?_push_size _ rfl,rfl,rfl⟩,hp.isList.push _⟩,fun b hb=>?_,hval,fun j hj=>?_,fun s' t' hm=>?_⟩
 ·show b < (s.heap.push _).objs.size
  rw [Heap.size_push]
  rcases List.mem_cons.mp hb with e | hb
  ·rw [e]; exact Nat.lt_succ_self _
  ·rw [List.mem_singleton.mp hb]; exact Nat.lt_succ_of_lt hlt
 ·rw [hn] at hj
  have h1:=hv2 j hj
  have h2:=ps (j + 1) (by omega)
  have e:(2:Int) ^ 63 = 9223372036854775808:=by decide
  refine ⟨⟨?_,?_⟩,⟨?_,?_⟩⟩ <;> rw [e] <;> (try dsimp only) <;> omega
 ·have hq:=ps ns.length (Nat.le_refl _)
  rw [hn]
  have em:=Moved.eq_with hm
  rw [em]
  refine ⟨.int _,H,I.kept (t':=s'.toks) (fun b o e=>hm.heap b o (fun hmem=>?_) (Heap.get?_push_of_some _ e)),⟨t',rfl⟩,q _ hq.1 (by omega)⟩
  have:=List.mem_singleton.mp hmem
  rw [this] at e
  exact absurd (Heap.lt_size e) (Nat.lt_irrefl _)
theorem zds:∀ (zs:List Str),(PySem.Builtin.Str.glued "" zs).cps.toList = (zs.map fun z=>z.cps.toList).flatten:=by
 intro zs
 have h:∀ (rest:List Str) (acc:Array Nat),(rest.foldl (fun acc p=>acc ++ ("" : Str).cps ++ p.cps) acc).toList = acc.toList ++ (rest.map fun z=>z.cps.toList).flatten:=fun rest=>by
  induction rest with
  | nil=>intro acc; simp
  | cons z rest ih=>
   intro acc
   rw [List.foldl_cons,ih]
   have e:("" : Str).cps = #[]:=by decide +kernel
   rw [e]
   simp
 cases zs with
 | nil=>decide +kernel
 | cons z rest=>
  show (rest.foldl (fun acc p=>acc ++ ("" : Str).cps ++ p.cps) z.cps).toList = _
  rw [h]
  rfl
theorem zcd:∀ {zs:List Str} {us:List Value},zS (zs.map V.str) us->∃ l:List (Str × Tok),us = strValues l/\l.map (·.1) = zs
 | [],_,.nil=>⟨[],rfl,rfl⟩
 | z :: zs,_,.cons r t=>by
  obtain ⟨tk,rfl⟩:=r
  obtain ⟨l,e1,e2⟩:=zcd t
  exact ⟨(z,tk) :: l,by rw [e1]; rfl,by rw [List.map_cons,e2]⟩
def zhQ:V->List V->Hp->VK->Prop:=fun x vs H Q=>∃ (p:Addr) (zs:List Str),x = .str ""/\vs = [.ref p]/\H p = some (.lst (zs.map V.str))/\zs.length<=1000/\(∀ z ∈ zs,z.length<=100)/\∀ y:Str,y.cps.toList = (zs.map fun z=>z.cps.toList).flatten->Q (.str y) H
theorem ze0:MtR X "str.join" zhQ:=by
 intro pins s σ H x vs v us Q I rx rv h
 obtain ⟨p,zs,rfl,rfl,hH,l1,hb,q⟩:=h
 obtain ⟨t,rfl⟩:=rx
 obtain ⟨u,rfl,ru⟩:=xt rv
 cases ru
 obtain ⟨its,rv,hp,hz⟩:=I.list (SqL.of hH)
 obtain ⟨l,e1,e2⟩:=zcd rv
 subst e1
 refine SC.join (x:="") hp.isList e2 ?_ fun t' k=>?_
 ·unfold JoinOk
  rw [PySem.StrLaws.joinFits (B:=100) hb (by
   have e:("" : Str).length = 0:=by decide +kernel
   rw [e]
   omega)]
  rfl
 ·exact ⟨.str _,H,I.tok _,⟨t',rfl⟩,q _ (zds zs)⟩
end
end L2
namespace K33
open PySem L2 PyProof.Rows
def qh:Sp:=fun vs H Q _=>∃ c:Int,vs = [.int c]/\∀ n:Int,Q (.int n) H
def qg (K:Frag):Sp:=fun vs H Q _=>∃ (c:Int) (a:Addr) (ds:List Nat),vs = [.int c,.ref a]/\SqL K H a (ds.map fun d=>V.int (d:Nat))/\(∀ d ∈ ds,0 < d/\d<=64)/\ds.length<=30/\
 ∀ (t l:Addr) (fs:List Nat) (rest:Int) (H':Hp),zm H H'->H l = none->H' t = some (.tup [.ref l,.int rest])->H' l = some (.lst (fs.map fun x=>V.int (x:Nat)))->fs.length = ds.length->(∀ i,i < ds.length->fs.getD i 0 < ds.getD i 0)->Q (.ref t) H'
section
variable {P:Program} {w:World} {K:Frag} {mg:Str->Option Value} {base:Heap} {f CF:Addr} {fd:FuncData} {c:C5} {m:MA}
theorem qr:zt ["_law_cell","_law_number","_law_k"] ["_law_cell"] (zh zef):=⟨rfl,rfl,rfl,by decide +kernel,rfl,by decide +kernel,by decide +kernel⟩
theorem zga {g1:Addr} {e1:FuncData} (F:Fun K "_law_rich" "_law_rich" zef f fd) (hrg:mg "range" = none) (cM:zC P w K mg base 1 "_law_mix" g1 e1 ["_law_cell","_law_k"] zgZ):zA P w K mg base CX0 2 f fd ["_law_cell"] qh:=by
 refine F.ok qr (fun vs H Q E h=>?_) (fun cdv A outer s H vs Q E hr h=>?_)
 ·obtain ⟨c,rfl,_⟩:=h
  rfl
 obtain ⟨c,rfl,q⟩:=h
 refine zv (zw (i:=1) qr.nd rfl (Or.inl rfl) ze) ?_
 refine zv (yn PassesOwn.never rfl (yv rfl hrg (ac ze zb)) (zk (i:=2) qr.nd rfl (Or.inl rfl)) y7) ?_
 refine ⟨9,rfl,by decide,by decide,?_⟩
 refine xH (n:=9) (fun i σ H'=>∃ (n:Int) (v2:Option V),σ = [some (.int c),some (.int n),v2]/\H = H') ⟨0,_,rfl,rfl⟩ ?_ ?_
 ·rintro i σ H' hi ⟨n,v2,rfl,rfl⟩
  rw [Int.zero_add]
  dsimp only [zB]
  refine ⟨_,zd (zw (i:=1) qr.nd rfl (Or.inl rfl) (zq yc (zq zf4 (pv 1) ze) (cF cM hr (ac (pv 0) (ac (pv 2) zb))))),?_⟩
  refine ⟨_,rfl,_,_,rfl,rfl,IntMulOk.of_right (intBits_le_64 (by decide) (by decide)),_,rfl,_,rfl,c,i,rfl,by omega,fun m m0 m1=>?_⟩
  exact ⟨_,_,rfl,rfl,_,_,rfl,rfl⟩
 ·rintro σ H' ⟨n,v2,rfl,rfl⟩
  exact ⟨_,zd (zp (pv 1)),_,rfl,q n⟩
theorem uP:zt ["_law_cell","_law_sizes","_law_found","_law_size"] ["_law_cell","_law_sizes"] (zh zec):=⟨rfl,rfl,rfl,by decide +kernel,rfl,by decide +kernel,by decide +kernel⟩
theorem zf7 {g1:Addr} {e1:FuncData} (F:Fun K "_law_take" "_law_take" zec f fd) (hsm:mg "sum" = none) (hln:mg "len" = none) (cR:zC P w K mg base 2 "_law_rich" g1 e1 ["_law_cell"] qh):zA P w K mg base CX0 3 f fd ["_law_cell","_law_sizes"] (qg K):=by
 refine F.ok uP (fun vs H Q E h=>?_) (fun cdv A outer s H vs Q E hr h=>?_)
 ·obtain ⟨c,a,ds,rfl,_⟩:=h
  rfl
 obtain ⟨c,a,ds,rfl,ha,hd,l30,q⟩:=h
 refine zv (zw (i:=2) uP.nd rfl (Or.inl rfl) (zT zb)) ?_
 refine ⟨zz0,fun lf hlf=>?_⟩
 have s1:=zc hlf (.lst [])
 have g1:upd H lf (.lst []) lf = some (.lst []):=za
 dsimp only [zB]
 generalize upd H lf (.lst []) = H1 at s1 g1 |-
 refine zv (yn PassesOwn.never rfl (zU (pv 1)) (zk (i:=3) uP.nd rfl (Or.inl rfl)) y7) ?_
 refine ⟨_,rfl,a,rfl,⟨_,s1.seq ha⟩,yJ (K:=K) (a:=a) (xs:=ds.map fun d=>V.int (d:Nat)) (fun i σ H'=>∃ (c:Int) (v3:Option V) (fs:List Nat),σ = [some (.int c),some (.ref a),some (.ref lf),v3]/\zm H H'/\H' lf = some (.lst (fs.map fun x=>V.int (x:Nat)))/\fs.length = i/\∀ j,j < i->fs.getD j 0 < ds.getD j 0) ⟨c,_,[],rfl,s1,g1,rfl,fun j hj=>absurd hj (Nat.not_lt_zero _)⟩ (fun i σ H' _ ⟨_,_,_,_,sH,_⟩=>sH.seq ha) ?_ ?_⟩
 ·rintro i x σ H2 hx ⟨c,v3,fs,rfl,s2,hf2,lf2,lt2⟩
  rw [List.getElem?_map] at hx
  obtain ⟨d,hd',rfl⟩:=Option.map_eq_some_iff.mp hx
  have hi:i < ds.length:=(List.getElem?_eq_some_iff.mp hd').1
  obtain ⟨d0,d64⟩:=hd d (List.mem_of_getElem? hd')
  have dsm:∀ j,j < ds.length->ds.getD j 0<=64:=fun j hj=>by
   rw [List.getD_eq_getElem?_getD,List.getElem?_eq_getElem hj]
   exact (hd _ (List.getElem_mem hj)).2
  dsimp only [zB]
  refine zv (zD (PW.pt (wI (zi z5 (pv 0) ze (zr _)) (x6 (zi z5 (pv 0) (zg6 zdR ze) (zr _))))) (zd (zw (i:=0) uP.nd rfl (Or.inl rfl) (cF cR hr (ac (zq yc (cB (zdy rfl) hsm boot_sum (ac (pv 2) zb)) (zq xM ze (cB zH hln PySem.boot_len (ac (pv 2) zb)))) zb)))) zu) ?_
  refine y6 (fun σ' H'=>∃ c':Int,σ' = [some (.int c'),some (.ref a),some (.ref lf),some (.int (d:Nat))]/\H2 = H') ?_ (fun key=>?_)
  rotate_left
  ·refine ⟨_,rfl,rfl,_,rfl,?_⟩
   have e1:H2 lf = some (.lst ((fs.map fun (x:Nat)=>(x:Int)).map V.int)):=by rw [hf2,List.map_map]; rfl
   have hs:∀ n ∈ fs.map (fun (x:Nat)=>(x:Int)),0<=n/\n<=1000:=fun n hn=>by
    obtain ⟨y,hy,rfl⟩:=List.mem_map.mp hn
    obtain ⟨j,hj,ej⟩:=List.mem_iff_getElem.mp hy
    have h1:=lt2 j (by omega)
    have h2:=dsm j (by omega)
    rw [List.getD_eq_getElem?_getD,List.getElem?_eq_getElem hj] at h1
    have h1:fs[j] < ds.getD j 0:=h1
    rw [ej] at h1
    omega
   by_cases h0:V.int c = V.int 0
   ·refine dT h0 ?_
    refine yT ?_
    refine ⟨_,rfl,lf,_,rfl,SqL.of e1,by rw [List.length_map]; omega,hs,fun m m0 m1=>?_⟩
    refine ⟨_,rfl,lf,_,rfl,.inl (SqL.of hf2),_,_,rfl,rfl,.inl ⟨by omega,by omega⟩,_,_,rfl,rfl,_,rfl,fun n=>?_⟩
    exact key _ _ ⟨n,rfl,rfl⟩
   refine dF h0 ?_
   refine ⟨_,rfl,_,rfl,rfl,_,rfl,?_⟩
   by_cases h1:V.int c = V.int (-1)
   ·refine dT h1 ?_
    refine ⟨_,rfl,lf,_,rfl,SqL.of e1,by rw [List.length_map]; omega,hs,fun m m0 m1=>?_⟩
    refine ⟨_,rfl,lf,_,rfl,.inl (SqL.of hf2),_,_,rfl,rfl,.inl ⟨by omega,by omega⟩,_,_,rfl,rfl,_,rfl,fun n=>?_⟩
    exact key _ _ ⟨n,rfl,rfl⟩
   refine dF h1 ?_
   exact key _ _ ⟨c,rfl,rfl⟩
  rintro σ _ ⟨c',rfl,rfl⟩
  have e0:=Int.emod_nonneg c' (show ((d:Nat):Int) ≠ 0 by omega)
  have e1:=Int.emod_lt_of_pos c' (show (0:Int) < ((d:Nat):Int) by omega)
  obtain ⟨x,hx'⟩:=Int.eq_ofNat_of_zero_le e0
  refine zv (zI (yD PySem.F.plainAttrs_list PySem.F.slot_list_append PySem.F.type_list_append zL (pv 2) (ac (zq xm (pv 0) (pv 3)) zb))) ?_
  refine ⟨_,rfl,.inl ⟨rfl,_,SqL.of hf2⟩,_,rfl,_,rfl,_,_,rfl,rfl,(by show (0:Int) < ((d:Nat):Int); omega),lf,_,_,rfl,rfl,hf2,zG (by rw [List.length_map]; omega),?_⟩
  refine ⟨_,zd (zw (i:=0) uP.nd rfl (Or.inl rfl) (zq wX (pv 0) (pv 3))),?_⟩
  refine ⟨_,rfl,_,rfl,_,_,rfl,rfl,⟨by omega,by omega⟩,?_⟩
  refine ⟨_,_,fs ++ [x],rfl,z9 s2 hlf _,by rw [za,hx',List.map_append]; rfl,by rw [List.length_append,lf2]; rfl,fun j hj=>?_⟩
  rcases Nat.lt_or_ge j i with c1 | c1
  ·rw [List.getD_eq_getElem?_getD,List.getElem?_append_left (by omega),<- List.getD_eq_getElem?_getD]
   exact lt2 j c1
  ·have:j = i:=by omega
   subst this
   have e2:(fs ++ [x]).getD j 0 = x:=by
    rw [List.getD_eq_getElem?_getD,List.getElem?_append_right (by omega),lf2,Nat.sub_self]
    rfl
   have e3:ds.getD j 0 = d:=by rw [List.getD_eq_getElem?_getD,hd']; rfl
   rw [e2,e3]
   omega
 ·rintro σ H2 ⟨c,v3,fs,rfl,s2,hf2,lf2,lt2⟩
  rw [List.length_map] at lf2 lt2
  refine ⟨_,zd (zp (zE (ac (pv 2) (ac (pv 0) zb)))),?_⟩
  refine ⟨_,rfl,_,rfl,zz2,fun t ht=>?_⟩
  have s3:=zc ht (.tup [.ref lf,.int c])
  exact q t lf fs c _ (s2.trans s3) hlf za (s3 _ _ hf2) lf2 lt2
end
end K33
namespace L2
open PySem PySem.Spec PyProof.Rows
def zjv:R2:=fun x y H Q=>∃ (a b:Addr) (xs:List V),x = .ref a/\y = .ref b/\H a = some (.lst xs)/\H b = some (.lst [])/\Q (.bl (!decide (xs = []))) H
theorem zhW {X:Cx} (hu:X.A.units < cLine):OpR X (compareOp .NotEq) zjv:=by
 intro pins s σ H x y v u Q I rx ry h
 obtain ⟨a,b,xs,rfl,rfl,ha,hb,q⟩:=h
 cases rx; cases ry
 obtain ⟨ia,va,pa,_⟩:=I.list (SqL.of ha)
 obtain ⟨ib,vb,pb,_⟩:=I.list (SqL.of hb)
 cases vb
 by_cases e:xs = []
 ·subst e
  cases va
  rw [decide_eq_true rfl] at q
  have t2:=SeqAt.RcNeAt.lists (A:=X.A) (s:=s) (e:=fun _=>true) pa.isList pb.isList rfl hu (fun j h1 h2=>absurd h1 (by simp))
  rw [wP] at t2
  exact t2 X.prog X.w X.xe _ ⟨.bl false,H,I,rfl,q⟩
 ·rw [decide_eq_false e] at q
  have l1:=va.length
  have:ia.length ≠ 0:=fun z=>e (List.eq_nil_of_length_eq_zero (by omega))
  exact SeqAt.RcNeAt.lists_lengths pa.isList pb.isList (by simp; exact fun z=>this (by rw [z]; rfl)) hu X.prog X.w X.xe _ ⟨.bl true,H,I,rfl,q⟩
end L2
namespace K33
open PySem L2 PyProof.Rows
def zd3 (K:Frag):Sp:=fun vs H Q _=>∃ (a:Addr) (ns:List Int),vs = [.ref a]/\SqL K H a (ns.map V.int)/\ns.length<=63/\∀ (l:Addr) (cs:List Int) (H':Hp),zm H H'->H l = none->H' l = some (.lst (cs.map V.int))->cs.length = ns.length->Q (.ref l) H'
def uL (K:Frag):Sp:=fun vs H Q _=>∃ (c:Int) (a:Addr) (zs:List Str),vs = [.int c,.ref a]/\H a = some (.lst (zs.map V.str))/\(∀ z ∈ zs,yx z = true)/\zs.length<=500/\
 ∀ (t:Addr) (z:Str) (rest:Int) (H':Hp),zm H H'->H' t = some (.tup [.str z,.int rest])->yx z = true->Q (.ref t) H'
section
variable {P:Program} {w:World} {K:Frag} {mg:Str->Option Value} {base:Heap} {f CF:Addr} {fd:FuncData} {c:C5} {m:MA}
theorem zi0:([Str.ofString "_law_cell"]:List Str).Nodup:=by decide +kernel
theorem zjK:([Str.ofString "_law_letter"]:List Str).Nodup:=by decide +kernel
theorem zhy:zt ["_law_script"] ["_law_script"] (zh zem):=⟨rfl,rfl,rfl,by decide +kernel,rfl,by decide +kernel,by decide +kernel⟩
theorem zgk {g1 g2:Addr} {e1 e2:FuncData} (F:Fun K "_law_half" "_law_half" zem f fd) (hls:mg "list" = none) (cN:zC P w K mg base 1 "_law_nth" g1 e1 ["_law_script","_law_k"] (qi K)) (cR:zC P w K mg base 2 "_law_rich" g2 e2 ["_law_cell"] qh):zA P w K mg base CX0 3 f fd ["_law_script"] (zd3 K):=by
 refine F.ok zhy (fun vs H Q E h=>?_) (fun cdv A outer s H vs Q E hr h=>?_)
 ·obtain ⟨a,ns,rfl,_⟩:=h
  rfl
 obtain ⟨a,ns,rfl,ha,l63,q⟩:=h
 have hr1:yq 1 _:=hr.mono (by decide)
 refine zv (zD (zi jN (cF cN hr1 (ac (pv 0) (ac ze zb))) (zq u9 ze ze) (zr _)) (zd (zp (cTy yX hls PyProof.Rows.boot_list (ac (pv 0) zb)))) zu) ?_
 refine ⟨_,rfl,a,ns,0,rfl,ha,_,_,rfl,rfl,⟨by decide,by decide,by decide⟩,_,_,rfl,rfl,_,rfl,?_⟩
 refine vI (fun _=>?_) (fun _=>?_)
 ·refine ⟨_,rfl,a,_,rfl,.inl ha,fun l hl=>?_⟩
  exact q l ns _ (zc hl _) hl za rfl
 refine ⟨_,zd (zp (xz [] ["_law_cell"] [none] rfl ⟨rfl,rfl,rfl,rfl⟩ (zU (pv 0)) (zM 0) rfl rfl rfl
  (fun pins fp s H C=>⟨zk (i:=0) zi0 rfl (Or.inl rfl) (.inr rfl),yB,cF cR hr (ac (pv 0) zb)⟩))),?_⟩
 refine ⟨_,rfl,a,rfl,⟨_,ha⟩,fun D hD=>?_⟩
 refine xF (K:=K) (xs:=ns.map V.int) (fun i ys H'=>zm H H'/\H' D = some (.lst ys)/\∃ cs:List Int,ys = cs.map V.int/\cs.length = i) ⟨zc hD _,za,[],rfl,rfl⟩ (fun i ys H' h=>h.1.seq ha) ?_ ?_
 ·rintro i x ys H' hi hx ⟨sH,hDy,cs,ey,el⟩
  obtain ⟨k,hk,rfl⟩:=vJ hx
  rw [List.length_map] at hi
  refine ⟨fun _=>⟨_,rfl,k,rfl,fun n=>?_⟩,fun z=>absurd z (by decide)⟩
  exact lcN.mk (by rw [List.length_map]; exact hi) (by rw [List.length_map]; exact zY (by omega)) hDy (by rw [ey,List.length_map]; omega) ⟨z9 sH hD _,za,cs ++ [n],by rw [ey,List.map_append]; rfl,by rw [List.length_append,el]; rfl⟩
 ·rintro ys H' ⟨sH,hDy,cs,ey,el⟩
  rw [List.length_map] at el
  exact q D cs H' sH hD (by rw [hDy,ey]) el
theorem zbh:zt ["_law_cell","_law_known","_law_told","_law_rest"] ["_law_cell","_law_known"] (zh zei):=⟨rfl,rfl,rfl,by decide +kernel,rfl,by decide +kernel,by decide +kernel⟩
theorem zgf {g1:Addr} {e1:FuncData} (F:Fun K "_law_name" "_law_name" zei f fd) (hln:mg "len" = none) (cT:zC P w K mg base 3 "_law_take" g1 e1 ["_law_cell","_law_sizes"] (qg K)):zA P w K mg base CX0 4 f fd ["_law_cell","_law_known"] (uL K):=by
 refine F.ok zbh (fun vs H Q E h=>?_) (fun cdv A outer s H vs Q E hr h=>?_)
 ·obtain ⟨c,a,zs,rfl,_⟩:=h
  rfl
 obtain ⟨c,a,zs,rfl,ha,hz,l5,q⟩:=h
 have hU:=hr.units
 have hU0:_ < cLine:=Nat.lt_of_le_of_lt (Nat.le_add_right _ 64) hU
 refine zv (wv (cF cT hr (ac (pv 0) (ac (zq yG (zT (ac ze (ac ze (ac ze zb)))) (zq qI (zT (ac ze zb)) ze)) zb))) (yH rfl (zz (zk (i:=2) zbh.nd rfl (Or.inl rfl)) (zz (zk (i:=3) zbh.nd rfl (Or.inl rfl)) yo)))) ?_
 refine ⟨_,rfl,zz3,fun l1 hl1=>⟨zz1,fun l2 hl2=>?_⟩⟩
 have s1:=zc hl1 (.lst [.int 2,.int 64,.int 8])
 have s2:=zc hl2 (.lst [.int 26])
 refine ⟨l2,_,_,rfl,rfl,za,by decide,by decide,(by show 1 * 8<=sizeLine; decide),fun l3 hl3=>?_⟩
 have s3:=zc hl3 (.lst (List.replicate (8:Int).toNat [V.int 26]).flatten)
 refine ⟨l1,l3,_,_,rfl,rfl,(s2.trans s3) _ _ za,za,(by show 3 + 8<=sizeLine; decide),fun l4 hl4=>?_⟩
 have s4:=zc hl4 (.lst ([V.int 2,.int 64,.int 8] ++ (List.replicate (8:Int).toNat [V.int 26]).flatten))
 have s04:=s1.trans (s2.trans (s3.trans s4))
 refine ⟨c,l4,[2,64,8,26,26,26,26,26,26,26,26],rfl,SqL.of za,by decide,by decide,fun t lf fs rest H5 s5 nlf ht hlf lfs hfs=>?_⟩
 refine ⟨t,_,rfl,SqT.of ht,rfl,_,_,rfl,_,_,rfl,rfl,?_⟩
 have s05:=s04.trans s5
 clear s04 s5 nlf ht
 have lfs:fs.length = 11:=lfs
 have f0:=hfs 0 (by decide)
 have f1:=hfs 1 (by decide)
 have f2:fs.getD 2 0 < 8:=hfs 2 (by decide)
 have fL:∀ j,3<=j->j < 11->fs.getD j 0 < 26:=fun j h1 h2=>by
  have:=hfs j (by show j < 11; exact h2)
  have e:([2,64,8,26,26,26,26,26,26,26,26]:List Nat).getD j 0 = 26:=by
   have:∀ j:Nat,j < 11->3<=j->([2,64,8,26,26,26,26,26,26,26,26]:List Nat).getD j 0 = 26:=by decide
   exact this j h2 h1
  rw [e] at this
  exact this
 have fAt:∀ j:Nat,j < 11->atI (fs.map fun x=>V.int (x:Nat)) (j:Int) = some (.int (fs.getD j 0:Nat)):=fun j hj=>y8 (by rw [List.getElem?_map,List.getElem?_eq_getElem (by omega),List.getD_eq_getElem?_getD,List.getElem?_eq_getElem (by omega)]; rfl)
 dsimp only [zB]
 refine zv (zD (PW.pt (yb (zi z5 (zo zx (pv 2) ze (fun _ _=>rfl)) ze (zr _)) (z4 (zi (zhW hU0) (pv 1) (zT zb) (zr _))))) (zd (zp (zE (ac (zo zx (pv 1) (zq xm (zo zx (pv 2) ze (fun _ _=>rfl)) (cB zH hln PySem.boot_len (ac (pv 1) zb))) (fun _ _=>rfl)) (ac (pv 3) zb))))) zu) ?_
 refine y6 (fun σ' H'=>σ' = [some (.int c),some (.ref a),some (.ref lf),some (.int rest)]/\zm H H'/\H' lf = some (.lst (fs.map fun x=>V.int (x:Nat)))) ?_ (fun key=>?_)
 rotate_left
 ·refine ⟨_,rfl,lf,_,0,_,rfl,rfl,SqL.of hlf,fAt 0 (by decide),rfl,_,rfl,?_⟩
  refine vI (fun _=>?_) (fun _=>?_)
  rotate_left
  ·exact key _ _ ⟨rfl,s05,hlf⟩
  refine ⟨_,rfl,zz0,fun le hle=>?_⟩
  have s6:=zc hle (.lst [])
  have s06:=s05.trans s6
  refine ⟨a,le,_,rfl,rfl,s06 _ _ ha,za,_,rfl,?_⟩
  by_cases hn:zs.map V.str = []
  ·refine yp (by rw [decide_eq_true hn]; rfl) ?_
   exact key _ _ ⟨rfl,s06,s6 _ _ hlf⟩
  refine yU (by rw [decide_eq_false hn]; rfl) ?_
  have z0 : 0 < zs.length:=by
   rcases Nat.eq_zero_or_pos zs.length with h | h
   ·exact absurd (by rw [List.eq_nil_of_length_eq_zero h]; rfl) hn
   ·exact h
  have m0:=Int.emod_nonneg ((fs.getD 1 0:Nat):Int) (show ((zs.length:Nat):Int) ≠ 0 by omega)
  have m1:=Int.emod_lt_of_pos ((fs.getD 1 0:Nat):Int) (show (0:Int) < ((zs.length:Nat):Int) by omega)
  obtain ⟨j,hj⟩:=Int.eq_ofNat_of_zero_le m0
  have hjz:j < zs.length:=by omega
  refine ⟨_,rfl,_,rfl,lf,_,1,_,rfl,rfl,SqL.of (s6 _ _ hlf),fAt 1 (by decide),_,rfl,a,_,rfl,.inl (SqL.of (s06 _ _ ha)),_,_,rfl,rfl,(by rw [List.length_map]; show (0:Int) < _; omega),a,_,_,.str zs[j],rfl,rfl,SqL.of (s06 _ _ ha),(by rw [List.length_map,hj]; exact y8 (by rw [List.getElem?_map,List.getElem?_eq_getElem hjz]; rfl)),_,rfl,zz2,fun u hu=>?_⟩
  have s7:=zc hu (.tup [.str zs[j],.int rest])
  exact q u _ rest _ (s06.trans s7) za (hz _ (List.getElem_mem hjz))
 rintro σ H6 ⟨rfl,s06,hlf6⟩
 refine ⟨_,zd (zp (zE (ac (yD PySem.F.plainAttrs_str PySem.F.slot_str_join PySem.F.type_str_join ze0 zn (ac (xz [] ["_law_letter"] [none] rfl ⟨rfl,rfl,rfl,rfl⟩ (zU (xv xW (pv 2) (yW ze) (yW (zq yc ze (zo zx (pv 2) ze (fun _ _=>rfl)))))) (zM 0) rfl rfl rfl
  (fun pins fp s H C=>⟨zk (i:=0) zjK rfl (Or.inl rfl) (.inr rfl),yB,zo zie zn (pv 0) (fun _ _=>rfl)⟩)) zb)) (ac (pv 3) zb)))),?_⟩
 refine ⟨rfl,_,rfl,_,rfl,_,rfl,lf,_,2,_,rfl,rfl,SqL.of hlf6,fAt 2 (by decide),_,_,rfl,rfl,_,rfl,lf,_,rfl,SqL.of hlf6,fun l7 hl7=>?_⟩
 have ecut:wB (fs.map fun x=>V.int (x:Nat)) (some 3) (some ((4:Int) + ((fs.getD 2 0:Nat):Int))) = ((fs.drop 3).take (1 + fs.getD 2 0)).map fun x=>V.int (x:Nat):=by
  have h3:(some (3:Int)) = some ((3:Nat):Int):=rfl
  have h4:(some ((4:Int) + ((fs.getD 2 0:Nat):Int))) = some ((4 + fs.getD 2 0:Nat):Int):=rfl
  rw [h3,h4]
  unfold wB
  rw [HT.zje,HT.zje,List.length_map,lfs,List.map_take,List.map_drop]
  congr 1
  omega
 rw [ecut]
 clear ecut
 have s7:=zc hl7 (.lst (((fs.drop 3).take (1 + fs.getD 2 0)).map fun x=>V.int (x:Nat)))
 have g7:upd H6 l7 (.lst (((fs.drop 3).take (1 + fs.getD 2 0)).map fun x=>V.int (x:Nat))) l7 = some (.lst (((fs.drop 3).take (1 + fs.getD 2 0)).map fun x=>V.int (x:Nat))):=za
 have s07:=s06.trans s7
 generalize upd H6 l7 (.lst (((fs.drop 3).take (1 + fs.getD 2 0)).map fun x=>V.int (x:Nat))) = H7 at s7 g7 s07 |-
 have hds:∀ x ∈ (fs.drop 3).take (1 + fs.getD 2 0),x < 26:=fun x hx=>by
  have hx:=List.mem_of_mem_take hx
  obtain ⟨j,hj,ej⟩:=List.mem_iff_getElem.mp hx
  rw [List.length_drop,lfs] at hj
  have h1:=fL (3 + j) (by omega) (by omega)
  rw [List.getD_eq_getElem?_getD,List.getElem?_eq_getElem (by omega)] at h1
  rw [List.getElem_drop] at ej
  rw [<- ej]
  exact h1
 have hdl:((fs.drop 3).take (1 + fs.getD 2 0)).length = 1 + fs.getD 2 0:=by rw [List.length_take,List.length_drop,lfs]; omega
 generalize (fs.drop 3).take (1 + fs.getD 2 0) = gs at g7 hds hdl
 refine ⟨l7,rfl,⟨_,SqL.of g7⟩,fun D hD=>?_⟩
 have sz26:("abcdefghijklmnopqrstuvwxyz" : Str).length<=sizeLine:=by rw [zhc.len]; decide
 refine qL (K:=K) (xs:=gs.map fun x=>V.int (x:Nat)) gs (fun _=>true) (fun x=>.str ⟨#[97 + x]⟩) hD (SqL.of g7) (by rw [List.length_map]) (by rw [List.length_map]; omega) (fun i x y H' N S hx hy sH n1 s1=>?_) (fun H8 s8 e8=>?_)
 ·rw [List.getElem?_map,hy] at hx
  have hx:V.int (y:Nat) = x:=Option.some.inj hx
  subst hx
  refine ⟨fun _=>?_,fun e=>by cases e⟩
  exact ⟨_,rfl,_,_,97 + y,rfl,rfl,sz26,y8 (zhc.at_ y (hds y (List.mem_of_getElem? hy))),n1 _ (zm.refl _) rfl⟩
 have e8:H8 D = some (.lst ((gs.map fun x=>(⟨#[97 + x]⟩:Str)).map V.str)):=by rw [e8,List.filter_eq_self.mpr (fun _ _=>rfl),List.map_map]; rfl
 refine ⟨D,_,rfl,rfl,e8,by rw [List.length_map]; omega,fun z hz=>?_,fun y hy=>?_⟩
 ·obtain ⟨x,_,rfl⟩:=List.mem_map.mp hz
  show 1<=100
  decide
 refine ⟨_,rfl,zz2,fun u hu=>?_⟩
 have s9:=zc hu (.tup [.str y,.int rest])
 refine q u y rest _ (s07.trans (s8.trans s9)) za ?_
 have ey:y.cps.toList = gs.map fun x=>97 + x:=by
  rw [hy,List.map_map]
  have:∀ (l:List Nat),(l.map ((fun z:Str=>z.cps.toList) ∘ fun x=>(⟨#[97 + x]⟩:Str))).flatten = l.map fun x=>97 + x:=fun l=>by
   induction l with
   | nil=>rfl
   | cons x l ih=>
    rw [List.map_cons,List.flatten_cons,ih]
    rfl
  exact this gs
 have el:y.length = gs.length:=by
  show y.cps.size = _
  rw [<- Array.length_toList,ey,List.length_map]
 refine vW.mpr ⟨by omega,by omega,fun ch hc=>?_⟩
 rw [ey] at hc
 obtain ⟨x,hx,rfl⟩:=List.mem_map.mp hc
 have:=hds x hx
 omega
end
variable {H H' H'':Hp} {lg g0 g1 g2 g3 ll u:Addr} {S:FS} {r:Rw} {z:Str} {b:Bool} {us:List Addr}
theorem jf {α : Type} {xs:List α} {y : α} {p : α->Prop} (h:∀ x ∈ xs,p x) (hy:p y):∀ x ∈ xs ++ [y],p x:=fun x hx=>by
 rcases List.mem_append.mp hx with hx | hx
 ·exact h x hx
 ·rw [List.mem_singleton.mp hx]; exact hy
theorem zeW {a b:List Str} {z:Str} (h:(a ++ b).Nodup) (hz:z ∉ a ++ b):(a ++ [z] ++ b).Nodup:=by
 have p:(a ++ [z] ++ b).Perm (z :: (a ++ b)):=by
  rw [List.append_assoc]
  exact List.perm_middle
 exact p.nodup_iff.mpr (List.nodup_cons.mpr ⟨hz,h⟩)
def FS.add (S:FS) (k:Nat) (z:Str) (b:Bool):FS:=match k with
 | 0=>{ S with P:=S.P ++ [⟨0,z,b⟩] }
 | 1=>{ S with P:=S.P ++ [⟨1,z,b⟩],L:=S.L ++ [z] }
 | 2=>{ S with T:=[⟨2,z,b⟩] }
 | 3=>{ S with G:=S.G ++ [⟨3,z,b⟩],L:=S.L ++ [z] }
 | _=>{ S with B:=[⟨4,z,b⟩] }
theorem FM.zero:FM 0 ⟨[],[],[],[],[]⟩:=by
 refine ⟨?_,?_,?_,?_,?_,?_,?_,?_,?_,?_⟩ <;> first | exact (fun _ h=>nomatch h) | exact Nat.zero_le _ | exact List.nodup_nil | exact Nat.le_refl _
theorem FM.add {i:Nat} {S:FS} {k:Nat} {z:Str} {b:Bool} (h:FM i S) (hk:k < 5) (hz:yx z = true) (hn:yl k = true->z ∉ S.L):FM (i + 1) (S.add k z b):=by
 have ln:=h.ln
 have lL:=h.lL
 have lT:=h.lT
 have lB:=h.lB
 match k,hk with
 | 0,_=>
  have e:nms (S.P ++ [⟨0,z,b⟩]) = nms S.P:=by rw [x0,vE]; simp [yl]
  exact ⟨jf h.okP ⟨⟨Nat.lt_of_sub_eq_succ rfl,hz⟩,rfl⟩,h.okT,h.okG,h.okB,h.lT,h.lB,by show (nms (S.P ++ _) ++ nms S.G).Nodup; rw [e]; exact h.nd,by show ∀ y ∈ nms (S.P ++ _) ++ nms S.G,y ∈ S.L; rw [e]; exact h.sn,
   by show (S.P ++ [_]).length + S.T.length + S.G.length + S.B.length<=i + 1; rw [List.length_append,List.length_singleton]; omega,Nat.le_succ_of_le h.lL⟩
 | 1,_=>
  have e:nms (S.P ++ [⟨1,z,b⟩]) = nms S.P ++ [z]:=by rw [x0,vE]; simp [yl]
  have nz:z ∉ nms S.P ++ nms S.G:=fun m=>hn rfl (h.sn z m)
  refine ⟨jf h.okP ⟨⟨Nat.lt_of_sub_eq_succ rfl,hz⟩,rfl⟩,h.okT,h.okG,h.okB,h.lT,h.lB,by show (nms (S.P ++ _) ++ nms S.G).Nodup; rw [e]; exact zeW h.nd nz,?_,
   by show (S.P ++ [_]).length + S.T.length + S.G.length + S.B.length<=i + 1; rw [List.length_append,List.length_singleton]; omega,by show (S.L ++ [_]).length<=i + 1; rw [List.length_append,List.length_singleton]; omega⟩
  show ∀ y ∈ nms (S.P ++ _) ++ nms S.G,y ∈ S.L ++ [z]
  rw [e]
  intro y hy
  rw [List.mem_append,List.mem_append] at hy
  rcases hy with (hy | hy) | hy
  ·exact List.mem_append_left _ (h.sn y (List.mem_append_left _ hy))
  ·exact List.mem_append_right _ hy
  ·exact List.mem_append_left _ (h.sn y (List.mem_append_right _ hy))
 | 2,_=>
  refine ⟨h.okP,fun r hr=>?_,h.okG,h.okB,Nat.le_refl _,h.lB,h.nd,h.sn,?_,Nat.le_succ_of_le h.lL⟩
  ·rw [List.mem_singleton.mp hr]; exact ⟨⟨Nat.lt_of_sub_eq_succ rfl,hz⟩,rfl⟩
  ·show S.P.length + 1 + S.G.length + S.B.length<=i + 1
   omega
 | 3,_=>
  have e:nms (S.G ++ [⟨3,z,b⟩]) = nms S.G ++ [z]:=by rw [x0,vE]; simp [yl]
  have nz:z ∉ nms S.P ++ nms S.G:=fun m=>hn rfl (h.sn z m)
  refine ⟨h.okP,h.okT,jf h.okG ⟨⟨Nat.lt_of_sub_eq_succ rfl,hz⟩,rfl⟩,h.okB,h.lT,h.lB,?_,?_,
   by show S.P.length + S.T.length + (S.G ++ [_]).length + S.B.length<=i + 1; rw [List.length_append,List.length_singleton]; omega,by show (S.L ++ [_]).length<=i + 1; rw [List.length_append,List.length_singleton]; omega⟩
  ·show (nms S.P ++ nms (S.G ++ _)).Nodup
   rw [e,<- List.append_assoc]
   have:=zeW (a:=nms S.P ++ nms S.G) (b:=[]) (z:=z) (by rw [List.append_nil]; exact h.nd) (by rw [List.append_nil]; exact nz)
   rwa [List.append_nil] at this
  ·show ∀ y ∈ nms S.P ++ nms (S.G ++ _),y ∈ S.L ++ [z]
   rw [e]
   intro y hy
   rw [List.mem_append,List.mem_append] at hy
   rcases hy with hy | hy | hy
   ·exact List.mem_append_left _ (h.sn y (List.mem_append_left _ hy))
   ·exact List.mem_append_left _ (h.sn y (List.mem_append_right _ hy))
   ·exact List.mem_append_right _ hy
 | 4,_=>
  refine ⟨h.okP,h.okT,h.okG,fun r hr=>?_,h.lT,Nat.le_refl _,h.nd,h.sn,?_,Nat.le_succ_of_le h.lL⟩
  ·rw [List.mem_singleton.mp hr]; exact ⟨⟨Nat.lt_of_sub_eq_succ rfl,hz⟩,rfl⟩
  ·show S.P.length + S.T.length + S.G.length + 1<=i + 1
   omega
theorem TAt.keep {H:Hp} {v D:Addr} {r:Rw} {o:HO} (h:TAt H v r) (hD:∀ vs,H D ≠ some (.tup vs)):TAt (upd H D o) v r:=by
 show upd H D o v = _
 rw [zg (fun e=>by subst e; exact hD _ h)]
 exact h
def vO (H:Hp) (l:Addr) (rows:List Rw):Prop:=∃ us:List Addr,H l = some (.lst (us.map V.ref))/\Paired (TAt H) us rows
theorem zK {H H':Hp} {us:List Addr} {rows:List Rw} (s:zm H H') (h:Paired (TAt H) us rows):Paired (TAt H') us rows:=Paired.imp' (fun _ _ z=>s _ _ z) h
theorem vO.same {H H':Hp} {l:Addr} {rows:List Rw} (h:vO H l rows) (s:zm H H'):vO H' l rows:=let ⟨us,h1,h2⟩:=h; ⟨us,s _ _ h1,zK s h2⟩
theorem vO.keep {H:Hp} {l D:Addr} {rows:List Rw} {o:HO} (h:vO H l rows) (ne:l ≠ D) (hD:∀ vs,H D ≠ some (.tup vs)):vO (upd H D o) l rows:=
 let ⟨us,h1,h2⟩:=h
 ⟨us,by rw [zg ne]; exact h1,Paired.imp' (fun _ _ z=>z.keep hD) h2⟩
theorem vO.snoc {H:Hp} {l u:Addr} {rows:List Rw} {r:Rw} {us:List Addr} (h1:H l = some (.lst (us.map V.ref))) (h2:Paired (TAt H) us rows) (hu:TAt H u r):vO (upd H l (.lst (us.map V.ref ++ [.ref u]))) l (rows ++ [r]):=by
 have hD:∀ vs,H l ≠ some (.tup vs):=fun vs e=>by rw [h1] at e; cases e
 refine ⟨us ++ [u],by rw [za,List.map_append]; rfl,Paired.snoc (Paired.imp' (fun _ _ z=>z.keep hD) h2) (hu.keep hD)⟩
structure FI (H H':Hp) (lg g0 g1 g2 g3 ll:Addr) (S:FS):Prop where
 sm:zm H H'
 gg:H' lg = some (.lst [.ref g0,.ref g1,.ref g2,.ref g3])
 h0:vO H' g0 S.P
 h1:vO H' g1 S.T
 h2:vO H' g2 S.G
 h3:vO H' g3 S.B
 hl:H' ll = some (.lst (S.L.map V.str))
 nd:[lg,g0,g1,g2,g3,ll].Nodup
 fr:∀ x ∈ [lg,g0,g1,g2,g3,ll],H x = none
theorem FI.same (h:FI H H' lg g0 g1 g2 g3 ll S) (s:zm H' H''):FI H H'' lg g0 g1 g2 g3 ll S:=⟨h.sm.trans s,s _ _ h.gg,h.h0.same s,h.h1.same s,h.h2.same s,h.h3.same s,s _ _ h.hl,h.nd,h.fr⟩
theorem FI.smU (h:FI H H' lg g0 g1 g2 g3 ll S) {l:Addr} (hl:H l = none) {o:HO}:zm H (upd H' l o):=fun b u e=>by rw [zg (zf e hl)]; exact h.sm _ _ e
theorem FI.ne (h:FI H H' lg g0 g1 g2 g3 ll S):lg ≠ g0/\lg ≠ g1/\lg ≠ g2/\lg ≠ g3/\lg ≠ ll/\g0 ≠ g1/\g0 ≠ g2/\g0 ≠ g3/\g0 ≠ ll/\g1 ≠ g2/\g1 ≠ g3/\g1 ≠ ll/\g2 ≠ g3/\g2 ≠ ll/\g3 ≠ ll:=by
 have:=h.nd
 simp only [List.nodup_cons,List.mem_cons,List.not_mem_nil,or_false,not_or] at this
 obtain ⟨⟨a1,a2,a3,a4,a5⟩,⟨b1,b2,b3,b4⟩,⟨c1,c2,c3⟩,⟨d1,d2⟩,e1,_⟩:=this
 exact ⟨a1,a2,a3,a4,a5,b1,b2,b3,b4,c1,c2,c3,d1,d2,e1⟩
theorem FI.addL (h:FI H H' lg g0 g1 g2 g3 ll S):FI H (upd H' ll (.lst (S.L.map V.str ++ [.str z]))) lg g0 g1 g2 g3 ll { S with L:=S.L ++ [z] }:=by
 have hD:∀ vs,H' ll ≠ some (.tup vs):=fun vs e=>by rw [h.hl] at e; cases e
 obtain ⟨a1,a2,a3,a4,a5,b1,b2,b3,b4,c1,c2,c3,d1,d2,e1⟩:=h.ne
 exact ⟨h.smU (h.fr ll (by simp)),by rw [zg a5]; exact h.gg,h.h0.keep b4 hD,h.h1.keep c3 hD,h.h2.keep d2 hD,h.h3.keep e1 hD,by rw [za,List.map_append]; rfl,h.nd,h.fr⟩
theorem FI.add0 (h:FI H H' lg g0 g1 g2 g3 ll S) (hh:H' g0 = some (.lst (us.map V.ref))) (h2:Paired (TAt H') us S.P) (hu:TAt H' u r):FI H (upd H' g0 (.lst (us.map V.ref ++ [.ref u]))) lg g0 g1 g2 g3 ll { S with P:=S.P ++ [r] }:=by
 have hD:∀ vs,H' g0 ≠ some (.tup vs):=fun vs e=>by rw [hh] at e; cases e
 obtain ⟨a1,a2,a3,a4,a5,b1,b2,b3,b4,c1,c2,c3,d1,d2,e1⟩:=h.ne
 exact ⟨h.smU (h.fr g0 (by simp)),by rw [zg a1]; exact h.gg,.snoc hh h2 hu,h.h1.keep b1.symm hD,h.h2.keep b2.symm hD,h.h3.keep b3.symm hD,by rw [zg b4.symm]; exact h.hl,h.nd,h.fr⟩
theorem FI.add2 (h:FI H H' lg g0 g1 g2 g3 ll S) (hh:H' g2 = some (.lst (us.map V.ref))) (h2:Paired (TAt H') us S.G) (hu:TAt H' u r):FI H (upd H' g2 (.lst (us.map V.ref ++ [.ref u]))) lg g0 g1 g2 g3 ll { S with G:=S.G ++ [r] }:=by
 have hD:∀ vs,H' g2 ≠ some (.tup vs):=fun vs e=>by rw [hh] at e; cases e
 obtain ⟨a1,a2,a3,a4,a5,b1,b2,b3,b4,c1,c2,c3,d1,d2,e1⟩:=h.ne
 exact ⟨h.smU (h.fr g2 (by simp)),by rw [zg a3]; exact h.gg,h.h0.keep b2 hD,h.h1.keep c1 hD,.snoc hh h2 hu,h.h3.keep d1.symm hD,by rw [zg d2.symm]; exact h.hl,h.nd,h.fr⟩
theorem FI.add1 (h:FI H H' lg g0 g1 g2 g3 ll S) (hT:S.T = []) (hu:TAt H' u r):FI H (upd H' g1 (.lst [.ref u])) lg g0 g1 g2 g3 ll { S with T:=[r] }:=by
 obtain ⟨us,hh,h2⟩:=h.h1
 rw [hT] at h2
 cases h2
 have hD:∀ vs,H' g1 ≠ some (.tup vs):=fun vs e=>by rw [hh] at e; cases e
 obtain ⟨a1,a2,a3,a4,a5,b1,b2,b3,b4,c1,c2,c3,d1,d2,e1⟩:=h.ne
 have sn:=vO.snoc hh .nil hu
 exact ⟨h.smU (h.fr g1 (by simp)),by rw [zg a2]; exact h.gg,h.h0.keep b1 hD,sn,h.h2.keep c1.symm hD,h.h3.keep c2.symm hD,by rw [zg c3.symm]; exact h.hl,h.nd,h.fr⟩
theorem FI.add3 (h:FI H H' lg g0 g1 g2 g3 ll S) (hT:S.B = []) (hu:TAt H' u r):FI H (upd H' g3 (.lst [.ref u])) lg g0 g1 g2 g3 ll { S with B:=[r] }:=by
 obtain ⟨us,hh,h2⟩:=h.h3
 rw [hT] at h2
 cases h2
 have hD:∀ vs,H' g3 ≠ some (.tup vs):=fun vs e=>by rw [hh] at e; cases e
 obtain ⟨a1,a2,a3,a4,a5,b1,b2,b3,b4,c1,c2,c3,d1,d2,e1⟩:=h.ne
 have sn:=vO.snoc hh .nil hu
 exact ⟨h.smU (h.fr g3 (by simp)),by rw [zg a4]; exact h.gg,h.h0.keep b3 hD,h.h1.keep c2 hD,h.h2.keep d1 hD,sn,by rw [zg e1.symm]; exact h.hl,h.nd,h.fr⟩
structure FKn (H H':Hp) (lg g0 g1 g2 g3 ll lk:Addr) (S:FS) (ks:List Str):Prop where
 fi:FI H H' lg g0 g1 g2 g3 ll S
 hk:H' lk = some (.lst (ks.map V.str))
 hn:lk ∉ [lg,g0,g1,g2,g3,ll]
 hf:H lk = none
section
variable {H H' H'':Hp} {lg g0 g1 g2 g3 ll lk u:Addr} {S S':FS} {ks:List Str} {z:Str}
theorem FKn.same (h:FKn H H' lg g0 g1 g2 g3 ll lk S ks) (s:zm H' H''):FKn H H'' lg g0 g1 g2 g3 ll lk S ks:=⟨h.fi.same s,s _ _ h.hk,h.hn,h.hf⟩
theorem FKn.put (h:FKn H H' lg g0 g1 g2 g3 ll lk S ks) {g:Addr} {o:HO} (J:FI H (upd H' g o) lg g0 g1 g2 g3 ll S') (hg:g ∈ [lg,g0,g1,g2,g3,ll]):FKn H (upd H' g o) lg g0 g1 g2 g3 ll lk S' ks:=
 ⟨J,by
  have n:lk ≠ g:=fun e=>h.hn (by rw [e]; exact hg)
  rw [zg n]; exact h.hk,h.hn,h.hf⟩
theorem FKn.know (h:FKn H H' lg g0 g1 g2 g3 ll lk S ks):FKn H (upd H' lk (.lst (ks.map V.str ++ [.str z]))) lg g0 g1 g2 g3 ll lk S (ks ++ [z]):=by
 have hD:∀ vs,H' lk ≠ some (.tup vs):=fun vs e=>by rw [h.hk] at e; cases e
 have hn:=h.hn
 simp only [List.mem_cons,List.not_mem_nil,or_false,not_or] at hn
 obtain ⟨n1,n2,n3,n4,n5,n6⟩:=hn
 have k:=h.fi
 exact ⟨⟨k.smU h.hf,by rw [zg (Ne.symm n1)]; exact k.gg,k.h0.keep (Ne.symm n2) hD,k.h1.keep (Ne.symm n3) hD,k.h2.keep (Ne.symm n4) hD,k.h3.keep (Ne.symm n5) hD,by rw [zg (Ne.symm n6)]; exact k.hl,k.nd,k.fr⟩,by rw [za,List.map_append]; rfl,h.hn,h.hf⟩
end
def zce (K:Frag):Sp:=fun vs H Q _=>∃ (a:Addr) (cs:List Int),vs = [.ref a]/\SqL K H a (cs.map V.int)/\cs.length<=24/\
 ∀ (la:Addr) (us:List Addr) (rows:List Rw) (H':Hp),zm H H'->H la = none->H' la = some (.lst (us.map V.ref))->Paired (TAt H') us rows->VR rows->Q (.ref la) H'
section
variable {P:Program} {w:World} {K:Frag} {mg:Str->Option Value} {base:Heap} {f CF:Addr} {fd:FuncData} {c:C5} {m:MA}
theorem xB:zt ["_law_cells","_law_groups","_law_known","_law_seen","_law_cell","_law_told","_law_rest","_law_name_here","_law_word"] ["_law_cells"] (zh zbk):=⟨rfl,rfl,rfl,by decide +kernel,rfl,by decide +kernel,by decide +kernel⟩
theorem zeD {t1 t2:Addr} {e1 e2:FuncData} (F:Fun K "_law_specs" "_law_specs" zbk f fd) (hint:mg "int" = none) (cT:zC P w K mg base 3 "_law_take" t1 e1 ["_law_cell","_law_sizes"] (qg K)) (cN:zC P w K mg base 4 "_law_name" t2 e2 ["_law_cell","_law_known"] (uL K)):zA P w K mg base CX0 5 f fd ["_law_cells"] (zce K):=by
 refine F.ok xB (fun vs H Q E h=>?_) (fun cdv A outer s H vs Q E hr h=>?_)
 ·obtain ⟨a,cs,rfl,_⟩:=h
  rfl
 obtain ⟨a,cs,rfl,hS,l24,q⟩:=h
 have hr3:yq 3 _:=hr.mono (by decide)
 have hU:=hr.units
 refine ⟨_,zj (zw (i:=1) xB.nd rfl (Or.inl rfl) (zT (ac (zT zb) (ac (zT zb) (ac (zT zb) (ac (zT zb) zb))))))
  (zj (zw (i:=2) xB.nd rfl (Or.inl rfl) (zT zb))
  (zj (zw (i:=3) xB.nd rfl (Or.inl rfl) (zT zb))
  (zj (yn PassesOwn.never rfl (zU (pv 0)) (zk (i:=4) xB.nd rfl (Or.inl rfl))
   (zj (wv (cF cT hr3 (ac (pv 4) (ac (zT (ac ze (ac ze zb))) zb))) (yH rfl (zz (zk (i:=5) xB.nd rfl (Or.inl rfl)) (zz (zk (i:=6) xB.nd rfl (Or.inl rfl)) yo))))
   (zj (zw (i:=7) xB.nd rfl (Or.inl rfl) (zo zF (cF cN hr (ac (pv 6) (ac (pv 2) zb))) ze (fun _ _=>rfl)))
   (zj (zI (yD PySem.F.plainAttrs_list PySem.F.slot_list_append PySem.F.type_list_append zL (pv 2) (ac (pv 7) zb)))
   (zd (zD (zi xZ (zo zx (pv 5) ze (fun _ _=>rfl)) ze (zr _)) (zd (zI (yD PySem.F.plainAttrs_list PySem.F.slot_list_append PySem.F.type_list_append zL (zo zx (pv 1) ze (fun _ _=>rfl)) (ac (zE (ac zn (ac (pv 7) (ac (yM z5 (zo zx (pv 5) ze (fun _ _=>rfl)) ze (zr _)) zb)))) zb))))
    (zd (zD (PW.pt (yb (zi z5 (zo zx (pv 5) ze (fun _ _=>rfl)) ze (zr _)) (z4 (zi (zaD hU) (zo zx (pv 1) ze (fun _ _=>rfl)) (zT zb) (zr _))))) (zd (zI (yD PySem.F.plainAttrs_list PySem.F.slot_list_append PySem.F.type_list_append zL (zo zx (pv 1) ze (fun _ _=>rfl)) (ac (zE (ac zn (ac (pv 7) zb))) zb))))
     (zd (zD (PW.pt (yb (zi z5 (zo zx (pv 5) ze (fun _ _=>rfl)) ze (zr _)) (z4 (zi (zaD hU) (zo zx (pv 1) ze (fun _ _=>rfl)) (zT zb) (zr _))))) (zd (zI (yD PySem.F.plainAttrs_list PySem.F.slot_list_append PySem.F.type_list_append zL (zo zx (pv 1) ze (fun _ _=>rfl)) (ac (zE (ac zn (ac (pv 7) zb))) zb))))
      (zd (zD (PW.pt (yb (zi zP (zo zx (pv 5) ze (fun _ _=>rfl)) (zE (ac ze (ac ze zb))) (by with_unfolding_all rfl)) (z4 (zi zP (pv 7) (pv 3) (by with_unfolding_all rfl)))))
       (zj (zI (yD PySem.F.plainAttrs_list PySem.F.slot_list_append PySem.F.type_list_append zL (pv 3) (ac (pv 7) zb)))
       (zj (zw (i:=8) xB.nd rfl (Or.inl rfl) (zo zx (zT (ac zn (ac zn zb))) (cTy ui hint PyProof.Rows.boot_int (ac (yM jN (zo zx (pv 5) ze (fun _ _=>rfl)) ze (zr _)) zb)) (fun _ _=>rfl)))
       (zd (zI (yD PySem.F.plainAttrs_list PySem.F.slot_list_append PySem.F.type_list_append zL (zo zx (pv 1) (zq xM (cTy ui hint PyProof.Rows.boot_int (ac (yM z5 (pv 8) zn (zr _)) zb)) ze) (fun _ _=>rfl)) (ac (zE (ac (pv 8) (ac (pv 7) (ac (yM z5 (zo zx (pv 5) ze (fun _ _=>rfl)) ze (zr _)) zb)))) zb)))))) zu))))))))))))
  (zd (zp (zq yG (zq yG (zq yG (zo zx (pv 1) ze (fun _ _=>rfl)) (zo zx (pv 1) ze (fun _ _=>rfl))) (zo zx (pv 1) ze (fun _ _=>rfl))) (zo zx (pv 1) ze (fun _ _=>rfl)))))))),?_⟩
 refine ⟨zz0,fun g0 h0=>?_⟩
 have s0:=zc h0 (.lst [])
 have e0:upd H g0 (.lst []) g0 = some (.lst []):=za
 generalize upd H g0 (.lst []) = H0 at s0 e0 |-
 refine ⟨zz0,fun g1 h1=>?_⟩
 have s1:=zc h1 (.lst [])
 have e1:upd H0 g1 (.lst []) g1 = some (.lst []):=za
 generalize upd H0 g1 (.lst []) = H1 at s1 e1 |-
 refine ⟨zz0,fun g2 h2=>?_⟩
 have s2:=zc h2 (.lst [])
 have e2:upd H1 g2 (.lst []) g2 = some (.lst []):=za
 generalize upd H1 g2 (.lst []) = H2 at s2 e2 |-
 refine ⟨zz0,fun g3 h3=>?_⟩
 have s3:=zc h3 (.lst [])
 have e3:upd H2 g3 (.lst []) g3 = some (.lst []):=za
 generalize upd H2 g3 (.lst []) = H3 at s3 e3 |-
 refine ⟨(by show 4<=sizeLine; decide),fun lg h4=>?_⟩
 have s4:=zc h4 (.lst [.ref g0,.ref g1,.ref g2,.ref g3])
 have e4:upd H3 lg (.lst [.ref g0,.ref g1,.ref g2,.ref g3]) lg = some (.lst [.ref g0,.ref g1,.ref g2,.ref g3]):=za
 dsimp only [zB]
 generalize upd H3 lg (.lst [.ref g0,.ref g1,.ref g2,.ref g3]) = H4 at s4 e4 |-
 refine ⟨zz0,fun lk hk=>?_⟩
 have sk:=zc hk (.lst [])
 have ek:upd H4 lk (.lst []) lk = some (.lst []):=za
 dsimp only [zB]
 generalize upd H4 lk (.lst []) = Hk at sk ek |-
 refine ⟨zz0,fun ll h5=>?_⟩
 have s5:=zc h5 (.lst [])
 have e5:upd Hk ll (.lst []) ll = some (.lst []):=za
 dsimp only [zB]
 generalize upd Hk ll (.lst []) = H5 at s5 e5 |-
 have s01:=s0.trans s1
 have s02:=s01.trans s2
 have s03:=s02.trans s3
 have s04:=s03.trans s4
 have s0k:=s04.trans sk
 have k0:=s4 _ _ (s3 _ _ (s2 _ _ (s1 _ _ e0)))
 have k1:=s4 _ _ (s3 _ _ (s2 _ _ e1))
 have k2:=s4 _ _ (s3 _ _ e2)
 have k3:=s4 _ _ e3
 have I0:FKn H H5 lg g0 g1 g2 g3 ll lk ⟨[],[],[],[],[]⟩ []:=by
  have sk5:=sk.trans s5
  refine ⟨⟨s0k.trans s5,sk5 _ _ e4,⟨[],sk5 _ _ k0,.nil⟩,⟨[],sk5 _ _ k1,.nil⟩,⟨[],sk5 _ _ k2,.nil⟩,⟨[],sk5 _ _ k3,.nil⟩,e5,?_,?_⟩,s5 _ _ ek,?_,s04.free hk⟩
  ·simp only [List.nodup_cons,List.mem_cons,List.not_mem_nil,or_false,not_or,List.nodup_nil,not_false_iff,and_true]
   exact ⟨⟨(zf (s3 _ _ (s2 _ _ (s1 _ _ e0))) h4).symm,(zf (s3 _ _ (s2 _ _ e1)) h4).symm,(zf (s3 _ _ e2) h4).symm,(zf e3 h4).symm,zf (sk _ _ e4) h5⟩,⟨zf e0 h1,zf (s1 _ _ e0) h2,zf (s2 _ _ (s1 _ _ e0)) h3,zf (sk _ _ k0) h5⟩,⟨zf e1 h2,zf (s2 _ _ e1) h3,zf (sk _ _ k1) h5⟩,⟨zf e2 h3,zf (sk _ _ k2) h5⟩,zf (sk _ _ k3) h5⟩
  ·intro x hx
   simp only [List.mem_cons,List.not_mem_nil,or_false] at hx
   rcases hx with rfl | rfl | rfl | rfl | rfl | rfl
   ·exact s03.free h4
   ·exact h0
   ·exact s0.free h1
   ·exact s01.free h2
   ·exact s02.free h3
   ·exact s0k.free h5
  ·simp only [List.mem_cons,List.not_mem_nil,or_false,not_or]
   exact ⟨(zf e4 hk).symm,(zf k0 hk).symm,(zf k1 hk).symm,(zf k2 hk).symm,(zf k3 hk).symm,zf ek h5⟩
 refine ⟨_,rfl,a,rfl,⟨_,I0.fi.sm.seq hS⟩,yJ (K:=K) (a:=a) (xs:=cs.map V.int) (fun i σ H'=>∃ (S:FS) (ks:List Str) (v4 v5 v6 v7 v8:Option V),σ = [some (.ref a),some (.ref lg),some (.ref lk),some (.ref ll),v4,v5,v6,v7,v8]/\FKn H H' lg g0 g1 g2 g3 ll lk S ks/\FM i S/\ks.length = i/\∀ z ∈ ks,yx z = true)
  ⟨_,[],_,_,_,_,_,rfl,I0,FM.zero,rfl,fun _ h=>nomatch h⟩ (fun i σ H' _ ⟨_,_,_,_,_,_,_,_,h,_⟩=>h.fi.sm.seq hS) ?_ ?_⟩
 ·rintro i x σ H6 hx ⟨S,ks,v4,v5,v6,v7,v8,rfl,I6,M6,lks,nks⟩
  obtain ⟨n,hn,rfl⟩:=vJ hx
  have hi:i < cs.length:=(List.getElem?_eq_some_iff.mp hn).1
  dsimp only [zB]
  refine ⟨_,rfl,zz2,fun l1 hl1=>?_⟩
  have s7:=zc hl1 (.lst [.int 9,.int 2])
  refine ⟨n,l1,[9,2],rfl,SqL.of za,by decide,by decide,fun t lf fs rest H8 s8 nlf ht hlf lfs hfs=>?_⟩
  obtain ⟨f0,f1,rfl⟩:∃ f0 f1,fs = [f0,f1]:=by
   match fs,lfs with
   | [x,y],_=>exact ⟨x,y,rfl⟩
  have b0:f0 < 9:=hfs 0 (by decide)
  have hlf:H8 lf = some (.lst [.int (f0:Nat),.int (f1:Nat)]):=hlf
  refine ⟨t,_,rfl,SqT.of ht,rfl,_,_,rfl,_,_,rfl,rfl,?_⟩
  have nlk:lf ≠ lk:=(zf (s7 _ _ I6.hk) nlf).symm
  have nll:lf ≠ ll:=(zf (s7 _ _ I6.fi.hl) nlf).symm
  have I8:=I6.same (s7.trans s8)
  clear I6 s7 s8 nlf ht
  dsimp only [zB]
  refine ⟨_,rfl,_,rfl,rest,lk,ks,rfl,I8.hk,nks,by omega,fun tn z rest' H9 s9 htn hz=>?_⟩
  refine ⟨tn,_,0,.str z,rfl,rfl,SqT.of htn,rfl,?_⟩
  have I9:=I8.same s9
  have hlf:=s9 _ _ hlf
  clear I8 s9 htn
  dsimp only [zB]
  refine ⟨_,rfl,.inl ⟨rfl,_,SqL.of I9.hk⟩,_,rfl,lk,_,_,rfl,rfl,I9.hk,zG (by rw [List.length_map]; omega),?_⟩
  have Ia:=I9.know (z:=z)
  have hlf:upd H9 lk (.lst (ks.map V.str ++ [.str z])) lf = some (.lst [.int (f0:Nat),.int (f1:Nat)]):=by rw [zg nlk]; exact hlf
  clear I9
  generalize upd H9 lk (.lst (ks.map V.str ++ [.str z])) = Ha at Ia hlf |-
  have lks':(ks ++ [z]).length = i + 1:=by rw [List.length_append,lks]; rfl
  have nks':∀ y ∈ ks ++ [z],yx y = true:=fun y hy=>by
   rcases List.mem_append.mp hy with h | h
   ·exact nks y h
   ·rw [List.mem_singleton.mp h]; exact hz
  have lnS:=M6.ln
  have lL:=M6.lL
  have skip:∀ {H':Hp} {v8:Option V},FKn H H' lg g0 g1 g2 g3 ll lk S (ks ++ [z])->∃ (S:FS) (ks:List Str) (v4 v5 v6 v7 v8':Option V),([some (.ref a),some (.ref lg),some (.ref lk),some (.ref ll),some (.int n),some (.ref lf),some (.int rest),some (.str z),v8]:L2.St) = [some (.ref a),some (.ref lg),some (.ref lk),some (.ref ll),v4,v5,v6,v7,v8']/\FKn H H' lg g0 g1 g2 g3 ll lk S ks/\FM (i + 1) S/\ks.length = i + 1/\∀ z ∈ ks,yx z = true:=fun I=>⟨S,_,_,_,_,_,_,rfl,I,⟨M6.okP,M6.okT,M6.okG,M6.okB,M6.lT,M6.lB,M6.nd,M6.sn,Nat.le_succ_of_le M6.ln,Nat.le_succ_of_le M6.lL⟩,lks',nks'⟩
  have fin:∀ {k:Nat} {H':Hp} {b:Bool} {v8:Option V},FKn H H' lg g0 g1 g2 g3 ll lk (S.add k z b) (ks ++ [z])->k < 5->(yl k = true->z ∉ S.L)->∃ (S:FS) (ks:List Str) (v4 v5 v6 v7 v8':Option V),([some (.ref a),some (.ref lg),some (.ref lk),some (.ref ll),some (.int n),some (.ref lf),some (.int rest),some (.str z),v8]:L2.St) = [some (.ref a),some (.ref lg),some (.ref lk),some (.ref ll),v4,v5,v6,v7,v8']/\FKn H H' lg g0 g1 g2 g3 ll lk S ks/\FM (i + 1) S/\ks.length = i + 1/\∀ z ∈ ks,yx z = true:=fun {k H' b v8} I hk hn'=>⟨S.add k z b,_,_,_,_,_,_,rfl,I,M6.add hk hz hn',lks',nks'⟩
  have w0:=Ia.fi.h0
  refine ⟨_,rfl,lf,_,0,.int (f0:Nat),rfl,rfl,SqL.of hlf,rfl,_,_,rfl,rfl,_,rfl,?_⟩
  refine vI (fun _=>?_) (fun hge=>?_)
  ·obtain ⟨us,w1,w2⟩:=Ia.fi.h0
   have hlu:us.length<=24:=by rw [w2.length]; omega
   refine ⟨_,rfl,lg,_,0,.ref g0,rfl,rfl,SqL.of Ia.fi.gg,rfl,.inl ⟨rfl,_,SqL.of w1⟩,_,rfl,_,rfl,lf,_,1,.int (f1:Nat),rfl,rfl,SqL.of hlf,rfl,rfl,zz3,fun u hu=>?_⟩
   generalize decide (V.int ((f1:Nat):Int) = V.int 1) = fb
   have s7:=zc hu (.tup [.str "seat",.str z,.bl fb])
   have tu:TAt (upd Ha u (.tup [.str "seat",.str z,.bl fb])) u ⟨0,z,fb⟩:=za
   refine ⟨g0,_,_,rfl,rfl,s7 _ _ w1,zG (by rw [List.length_map]; omega),?_⟩
   exact fin (k:=0) ((Ia.same s7).put ((Ia.fi.same s7).add0 (s7 _ _ w1) (zK s7 w2) tu) (by simp)) (by decide) (fun e=>by cases e)
  have hge:¬ ((f0:Nat):Int) < 2:=fun e=>hge (decide_eq_true e)
  refine ⟨_,rfl,lf,_,0,.int (f0:Nat),rfl,rfl,SqL.of hlf,rfl,rfl,_,rfl,?_⟩
  by_cases hv:f0 = 5
  ·refine dT (by rw [hv]; rfl) ?_
   obtain ⟨us,w1,w2⟩:=Ia.fi.h1
   refine ⟨_,rfl,lg,_,1,.ref g1,rfl,rfl,SqL.of Ia.fi.gg,rfl,zz0,fun l0 hl0=>?_⟩
   have s7:=zc hl0 (.lst [])
   have e7:upd Ha l0 (.lst []) l0 = some (.lst []):=za
   have I7:=Ia.same s7
   have hlf7:=s7 _ _ hlf
   have w1:=s7 _ _ w1
   have w2:=zK s7 w2
   generalize upd Ha l0 (.lst []) = H7 at s7 e7 I7 w1 w2 hlf7 |-
   refine ⟨g1,l0,_,rfl,rfl,w1,e7,_,rfl,?_⟩
   by_cases hT:S.T = []
   ·rw [hT] at w2
    cases w2
    refine yT ?_
    refine ⟨_,rfl,lg,_,1,.ref g1,rfl,rfl,SqL.of I7.fi.gg,rfl,.inl ⟨rfl,_,SqL.of w1⟩,_,rfl,zz2,fun u hu=>?_⟩
    have s9:=zc hu (.tup [.str "tail",.str z])
    have tu:TAt (upd H7 u (.tup [.str "tail",.str z])) u ⟨2,z,true⟩:=za
    refine ⟨g1,_,_,rfl,rfl,s9 _ _ w1,zG (by show 0<=1000; decide),?_⟩
    exact fin (k:=2) ((I7.same s9).put ((I7.fi.same s9).add1 hT tu) (by simp)) (by decide) (fun e=>by cases e)
   have ne:(false != (us.map V.ref).isEmpty) = false:=by
    cases us with
    | nil=>exact absurd (List.eq_nil_of_length_eq_zero w2.length.symm) hT
    | cons _ _=>rfl
   refine yp ne ?_
   refine ⟨_,rfl,lf,_,0,.int (f0:Nat),rfl,rfl,SqL.of hlf7,rfl,rfl,_,rfl,?_⟩
   refine dF (fun e'=>by have:=V.int.inj e'; omega) ?_
   refine ym ?_
   refine ⟨_,rfl,lf,_,0,.int (f0:Nat),rfl,rfl,SqL.of hlf7,rfl,zz2,fun tt htt=>?_⟩
   have st:=zc htt (.tup [.int 5,.int 8])
   have It:=I7.same st
   refine ⟨tt,_,rfl,.inr (SqT.of za),rfl,rfl,_,rfl,?_⟩
   refine yp (by rw [hv]; decide +kernel) ?_
   refine ym ?_
   exact skip It
  refine dF (fun e'=>by have:=V.int.inj e'; omega) ?_
  refine ym ?_
  refine ⟨_,rfl,lf,_,0,.int (f0:Nat),rfl,rfl,SqL.of hlf,rfl,rfl,_,rfl,?_⟩
  by_cases hv8:f0 = 8
  ·refine dT (by rw [hv8]; rfl) ?_
   obtain ⟨us,w1,w2⟩:=Ia.fi.h3
   refine ⟨_,rfl,lg,_,3,.ref g3,rfl,rfl,SqL.of Ia.fi.gg,rfl,zz0,fun l0 hl0=>?_⟩
   have s7:=zc hl0 (.lst [])
   have e7:upd Ha l0 (.lst []) l0 = some (.lst []):=za
   have I7:=Ia.same s7
   have hlf7:=s7 _ _ hlf
   have w1:=s7 _ _ w1
   have w2:=zK s7 w2
   generalize upd Ha l0 (.lst []) = H7 at s7 e7 I7 w1 w2 hlf7 |-
   refine ⟨g3,l0,_,rfl,rfl,w1,e7,_,rfl,?_⟩
   by_cases hT:S.B = []
   ·rw [hT] at w2
    cases w2
    refine yT ?_
    refine ⟨_,rfl,lg,_,3,.ref g3,rfl,rfl,SqL.of I7.fi.gg,rfl,.inl ⟨rfl,_,SqL.of w1⟩,_,rfl,zz2,fun u hu=>?_⟩
    have s9:=zc hu (.tup [.str "bag",.str z])
    have tu:TAt (upd H7 u (.tup [.str "bag",.str z])) u ⟨4,z,true⟩:=za
    refine ⟨g3,_,_,rfl,rfl,s9 _ _ w1,zG (by show 0<=1000; decide),?_⟩
    exact fin (k:=4) ((I7.same s9).put ((I7.fi.same s9).add3 hT tu) (by simp)) (by decide) (fun e=>by cases e)
   have ne:(false != (us.map V.ref).isEmpty) = false:=by
    cases us with
    | nil=>exact absurd (List.eq_nil_of_length_eq_zero w2.length.symm) hT
    | cons _ _=>rfl
   refine yp ne ?_
   refine ⟨_,rfl,lf,_,0,.int (f0:Nat),rfl,rfl,SqL.of hlf7,rfl,zz2,fun tt htt=>?_⟩
   have st:=zc htt (.tup [.int 5,.int 8])
   have It:=I7.same st
   refine ⟨tt,_,rfl,.inr (SqT.of za),rfl,rfl,_,rfl,?_⟩
   refine yp (by rw [hv8]; decide +kernel) ?_
   refine ym ?_
   exact skip It
  refine dF (fun e'=>by have:=V.int.inj e'; omega) ?_
  refine ym ?_
  refine ⟨_,rfl,lf,_,0,.int (f0:Nat),rfl,rfl,SqL.of hlf,rfl,zz2,fun tt htt=>?_⟩
  have st:=zc htt (.tup [.int 5,.int 8])
  have It:=Ia.same st
  refine ⟨tt,_,rfl,.inr (SqT.of za),rfl,rfl,_,rfl,?_⟩
  have hlft:=st _ _ hlf
  generalize upd Ha tt (.tup [.int 5,.int 8]) = Ht at It hlft |-
  have nin:∀ y:Nat,y < 9->y ≠ 5->y ≠ 8->inV (.int ((y:Nat):Int)) [.int 5,.int 8] = false:=by decide +kernel
  refine yU (by rw [nin f0 b0 hv hv8]; rfl) ?_
  refine ⟨_,rfl,_,rfl,ll,_,rfl,.inl (SqL.of It.fi.hl),rfl,yi,_,rfl,?_⟩
  by_cases hm:z ∈ S.L
  ·refine yp (by rw [if_pos rfl,yd,decide_eq_true hm]; rfl) ?_
   exact skip It
  refine yU (by rw [if_pos rfl,yd,decide_eq_false hm]; rfl) ?_
  refine ⟨_,rfl,.inl ⟨rfl,_,SqL.of It.fi.hl⟩,_,rfl,ll,_,_,rfl,rfl,It.fi.hl,zG (by rw [List.length_map]; omega),?_⟩
  have J:=It.put (It.fi.addL (z:=z)) (by simp)
  have hlfj:upd Ht ll (.lst (S.L.map V.str ++ [.str z])) lf = some (.lst [.int (f0:Nat),.int (f1:Nat)]):=by rw [zg nll]; exact hlft
  dsimp only [zgS]
  generalize upd Ht ll (.lst (S.L.map V.str ++ [.str z])) = Hj at J hlfj |-
  refine ⟨zz2,fun lw hlw=>?_⟩
  have sw:=zc hlw (.lst [.str "both",.str "tag"])
  have hlfw:=sw _ _ hlfj
  have Jw:=J.same sw
  by_cases h5:((f0:Nat):Int) > 5
  ·refine ⟨_,rfl,lf,_,0,.int (f0:Nat),rfl,rfl,SqL.of hlfw,rfl,_,_,rfl,rfl,.inr ⟨_,rfl,lw,_,_,.str "tag",rfl,rfl,SqL.of za,(by rw [decide_eq_true h5]; rfl),?_⟩⟩
   dsimp only [zB]
   generalize upd Hj lw (.lst [.str "both",.str "tag"]) = Hw at sw hlfw Jw |-
   obtain ⟨us,w1,w2⟩:=Jw.fi.h2
   have w2:Paired (TAt Hw) us S.G:=w2
   have hlu:us.length<=24:=by rw [w2.length]; omega
   refine ⟨_,rfl,_,rfl,rfl,.inr ⟨_,rfl,_,_,rfl,rfl,.inl ⟨by decide,by decide⟩,lg,_,_,.ref g2,rfl,rfl,SqL.of Jw.fi.gg,rfl,.inl ⟨rfl,_,SqL.of w1⟩,_,rfl,_,rfl,_,rfl,lf,_,1,.int (f1:Nat),rfl,rfl,SqL.of hlfw,rfl,rfl,zz3,fun u hu=>?_⟩⟩
   generalize decide (V.int ((f1:Nat):Int) = V.int 1) = fb
   have s9:=zc hu (.tup [.str "tag",.str z,.bl fb])
   have tu:TAt (upd Hw u (.tup [.str "tag",.str z,.bl fb])) u ⟨3,z,fb⟩:=za
   refine ⟨g2,_,_,rfl,rfl,s9 _ _ w1,zG (by rw [List.length_map]; omega),?_⟩
   exact fin (k:=3) ((Jw.same s9).put ((Jw.fi.same s9).add2 (s9 _ _ w1) (zK s9 w2) tu) (by simp)) (by decide) (fun _=>hm)
  ·refine ⟨_,rfl,lf,_,0,.int (f0:Nat),rfl,rfl,SqL.of hlfw,rfl,_,_,rfl,rfl,.inr ⟨_,rfl,lw,_,_,.str "both",rfl,rfl,SqL.of za,(by rw [decide_eq_false h5]; rfl),?_⟩⟩
   dsimp only [zB]
   generalize upd Hj lw (.lst [.str "both",.str "tag"]) = Hw at sw hlfw Jw |-
   obtain ⟨us,w1,w2⟩:=Jw.fi.h0
   have w2:Paired (TAt Hw) us S.P:=w2
   have hlu:us.length<=24:=by rw [w2.length]; omega
   refine ⟨_,rfl,_,rfl,rfl,.inr ⟨_,rfl,_,_,rfl,rfl,.inl ⟨by decide,by decide⟩,lg,_,_,.ref g0,rfl,rfl,SqL.of Jw.fi.gg,rfl,.inl ⟨rfl,_,SqL.of w1⟩,_,rfl,_,rfl,_,rfl,lf,_,1,.int (f1:Nat),rfl,rfl,SqL.of hlfw,rfl,rfl,zz3,fun u hu=>?_⟩⟩
   generalize decide (V.int ((f1:Nat):Int) = V.int 1) = fb
   have s9:=zc hu (.tup [.str "both",.str z,.bl fb])
   have tu:TAt (upd Hw u (.tup [.str "both",.str z,.bl fb])) u ⟨1,z,fb⟩:=za
   refine ⟨g0,_,_,rfl,rfl,s9 _ _ w1,zG (by rw [List.length_map]; omega),?_⟩
   exact fin (k:=1) ((Jw.same s9).put ((Jw.fi.same s9).add0 (s9 _ _ w1) (zK s9 w2) tu) (by simp)) (by decide) (fun _=>hm)
 ·rintro σ H6 ⟨S,ks,v4,v5,v6,v7,v8,rfl,I6,M6,_⟩
  rw [List.length_map] at M6
  have lnS:=M6.ln
  obtain ⟨u0,a0,b0⟩:=I6.fi.h0
  obtain ⟨u1,a1,b1⟩:=I6.fi.h1
  obtain ⟨u2,a2,b2⟩:=I6.fi.h2
  obtain ⟨u3,a3,b3⟩:=I6.fi.h3
  have c0:=b0.length
  have c1:=b1.length
  have c2:=b2.length
  have c3:=b3.length
  refine ⟨_,rfl,lg,_,0,.ref g0,rfl,rfl,SqL.of I6.fi.gg,rfl,_,rfl,lg,_,1,.ref g1,rfl,rfl,SqL.of I6.fi.gg,rfl,g0,g1,_,_,rfl,rfl,a0,a1,zY (by rw [List.length_map,List.length_map]; omega),fun p1 hp1=>?_⟩
  have t1:=zc hp1 (.lst (u0.map V.ref ++ u1.map V.ref))
  have f1:upd H6 p1 (.lst (u0.map V.ref ++ u1.map V.ref)) p1 = some (.lst (u0.map V.ref ++ u1.map V.ref)):=za
  generalize upd H6 p1 (.lst (u0.map V.ref ++ u1.map V.ref)) = H7 at t1 f1 |-
  refine ⟨_,rfl,lg,_,2,.ref g2,rfl,rfl,SqL.of (t1 _ _ I6.fi.gg),rfl,p1,g2,_,_,rfl,rfl,f1,t1 _ _ a2,zY (by rw [List.length_append,List.length_map,List.length_map,List.length_map]; omega),fun p2 hp2=>?_⟩
  have t2:=zc hp2 (.lst (u0.map V.ref ++ u1.map V.ref ++ u2.map V.ref))
  have f2:upd H7 p2 (.lst (u0.map V.ref ++ u1.map V.ref ++ u2.map V.ref)) p2 = some (.lst (u0.map V.ref ++ u1.map V.ref ++ u2.map V.ref)):=za
  generalize upd H7 p2 (.lst (u0.map V.ref ++ u1.map V.ref ++ u2.map V.ref)) = H8 at t2 f2 |-
  have t12:=t1.trans t2
  refine ⟨_,rfl,lg,_,3,.ref g3,rfl,rfl,SqL.of (t12 _ _ I6.fi.gg),rfl,p2,g3,_,_,rfl,rfl,f2,t12 _ _ a3,zY (by simp only [List.length_append,List.length_map]; omega),fun p3 hp3=>?_⟩
  have t3:=zc hp3 (.lst (u0.map V.ref ++ u1.map V.ref ++ u2.map V.ref ++ u3.map V.ref))
  have t13:=t12.trans t3
  refine q p3 (u0 ++ u1 ++ u2 ++ u3) S.rows _ (I6.fi.sm.trans t13) (I6.fi.sm.free (t12.free hp3)) ?_ ?_ (M6.vr (by omega))
  ·rw [za]
   simp only [List.map_append]
  ·have paired_app':∀ {α β : Type} {R : α->β->Prop} {a c:List α} {b d:List β},Paired R a b->Paired R c d->Paired R (a ++ c) (b ++ d):=by
    intro α β R a c b d h1 h2
    induction h1 with
    | nil=>exact h2
    | cons r t ih=>exact .cons r ih
   unfold FS.rows
   exact paired_app' (paired_app' (paired_app' (zK t13 b0) (zK t13 b1)) (zK t13 b2)) (zK t13 b3)
end
theorem zgq {R:Addr->Rw->Prop} {us:List Addr} {rows:List Rw} (h:Paired R us rows):((us.zip rows).filter fun p=>yl p.2.k).map (fun p=>V.str p.2.z) = (nms rows).map V.str:=by
 have:=uB h (fun r=>yl r.k) (fun r=>V.str r.z)
 rw [this]
 unfold nms
 rw [List.map_map]
 rfl
theorem zcU {R:Addr->Rw->Prop} {us:List Addr} {rows:List Rw} (h:Paired R us rows):((us.zip rows).filter fun _=>true).map (fun p=>V.str p.2.z) = (rows.map Rw.z).map V.str:=by
 have:=uB h (fun _=>true) (fun r=>V.str r.z)
 rw [this,List.filter_eq_self.mpr (fun _ _=>rfl),List.map_map]
 rfl
theorem zac {rows:List Rw} (V1:VR rows):∀ z ∈ rows.map Rw.z,yx z = true:=fun z hz=>by
 obtain ⟨r,hr,rfl⟩:=List.mem_map.mp hz
 exact (V1.ok r hr).2
def zcl (K:Frag):Sp:=fun vs H Q _=>∃ (a la:Addr) (cs:List Int) (us:List Addr) (rows:List Rw),vs = [.ref a,.ref la]/\SqL K H a (cs.map V.int)/\cs.length<=60/\H la = some (.lst (us.map V.ref))/\Paired (TAt H) us rows/\VR rows/\
 ∀ (l:Addr) (bars:List Str) (H':Hp),zm H H'->H l = none->H' l = some (.lst (bars.map V.str))->xR rows bars->Q (.ref l) H'
section
variable {P:Program} {w:World} {K:Frag} {mg:Str->Option Value} {base:Heap} {f:Addr} {fd:FuncData}
theorem zcG:([Str.ofString "_law_one"]:List Str).Nodup:=by decide +kernel
theorem wT:zt ["_law_cells","_law_specs_here","_law_known","_law_seen","_law_shut","_law_cell","_law_name_here"] ["_law_cells","_law_specs_here"] (zh zer):=⟨rfl,rfl,rfl,by decide +kernel,rfl,by decide +kernel,by decide +kernel⟩
theorem zeM {t1:Addr} {e1:FuncData} (F:Fun K "_law_bars" "_law_bars" zer f fd) (cN:zC P w K mg base 4 "_law_name" t1 e1 ["_law_cell","_law_known"] (uL K)):zA P w K mg base CX0 5 f fd ["_law_cells","_law_specs_here"] (zcl K):=by
 refine F.ok wT (fun vs H Q E h=>?_) (fun cdv A outer s H vs Q E hr h=>?_)
 ·obtain ⟨a,la,cs,us,rows,rfl,_⟩:=h
  rfl
 obtain ⟨a,la,cs,us,rows,rfl,hS,l60,hla,hu,V1,q⟩:=h
 have l24:=V1.l24
 refine zv (vg (i:=2) [] ["_law_one"] [none] wT.nd rfl (Or.inl rfl) rfl ⟨rfl,rfl,rfl,rfl⟩ (zU (pv 1)) (zM 0) rfl rfl rfl
   (fun pins fp s H C=>⟨zk (i:=0) zcG rfl (Or.inl rfl) (.inr rfl),yB,zo (r:=jy K) zF (pv 0) ze (fun _ _=>rfl)⟩)) ?_
 refine ⟨_,rfl,la,rfl,⟨_,SqL.of hla⟩,fun Dk hDk=>?_⟩
 refine jg (K:=K) TAt (fun _=>true) (fun _ r=>.str r.z) hDk hla hu (by omega) (fun i u r H' N S hu' hr' tr sH n1 s1=>?_) (fun Hk sk hk=>?_)
 ·have rk:=V1.ok r (List.mem_of_getElem? hr')
  have tu:=sH _ _ tr
  exact ⟨fun e=>⟨_,rfl,u,_,1,_,rfl,rfl,SqT.of tu,xq rk,n1 _ (zm.refl _) rfl⟩,fun e=>by cases e⟩
 rw [zcU hu] at hk
 have hlak:=sk _ _ hla
 have huk:=zK sk hu
 dsimp only [zB]
 refine ⟨_,zj (vg (i:=3) [] ["_law_one"] [none] wT.nd rfl (Or.inl rfl) rfl ⟨rfl,rfl,rfl,rfl⟩ (zU (pv 1)) (zM 0) rfl rfl rfl
   (fun pins fp s H C=>⟨zk (i:=0) zcG rfl (Or.inl rfl) (.inr rfl),xr (zi (r:=rIn K false) yK (zo (r:=jy K) zF (pv 0) ze (fun _ _=>rfl)) (zE (ac zn (ac zn zb))) (by with_unfolding_all rfl)),zo (r:=jy K) zF (pv 0) ze (fun _ _=>rfl)⟩))
  (zj (zw (i:=4) wT.nd rfl (Or.inl rfl) (zT zb))
  (zj (yn PassesOwn.never rfl (zU (pv 0)) (zk (i:=5) wT.nd rfl (Or.inl rfl))
   (zj (zw (i:=6) wT.nd rfl (Or.inl rfl) (zo zF (cF cN hr (ac (pv 5) (ac (pv 2) zb))) ze (fun _ _=>rfl)))
   (zd (zD (PW.pt (yb (zi zP (pv 6) (pv 3) (by with_unfolding_all rfl)) (z4 (zi zP (pv 6) (pv 4) (by with_unfolding_all rfl))))) (zd (zI (yD PySem.F.plainAttrs_list PySem.F.slot_list_append PySem.F.type_list_append zL (pv 4) (ac (pv 6) zb)))) zu))))
  (zd (zp (pv 4))))),?_⟩
 refine ⟨_,rfl,la,rfl,⟨_,SqL.of hlak⟩,fun D hD=>?_⟩
 refine jg (K:=K) TAt (fun r=>yl r.k) (fun _ r=>.str r.z) hD hlak huk (by omega) (fun i u r H' N S hu' hr' tr sH n1 s1=>?_) (fun H1 s1 hD1=>?_)
 ·have rk:=V1.ok r (List.mem_of_getElem? hr')
  have tu:=sH _ _ tr
  refine ⟨_,rfl,u,_,0,_,rfl,rfl,SqT.of tu,qD rk,zz2,fun l hl=>?_⟩
  have s2:=zc hl (.tup [.str "both",.str "tag"])
  refine ⟨l,_,rfl,.inr (SqT.of za),rfl,rfl,_,rfl,?_⟩
  rw [if_neg Bool.false_ne_true,zfb rk.1]
  exact ⟨fun e=>⟨_,rfl,u,_,1,_,rfl,rfl,SqT.of (s2 _ _ tu),xq rk,n1 _ s2 e⟩,fun e=>s1 _ s2 e⟩
 rw [zgq huk] at hD1
 refine ⟨zz0,fun fo hfo=>?_⟩
 have s2:=zc hfo (.lst [])
 have g2:upd H1 fo (.lst []) fo = some (.lst []):=za
 dsimp only [zB]
 generalize upd H1 fo (.lst []) = H2 at s2 g2 |-
 have s12:=sk.trans (s1.trans s2)
 have nD:=s2 _ _ hD1
 have nfo:H fo = none:=(sk.trans s1).free hfo
 have neD:D ≠ fo:=zf hD1 hfo
 refine ⟨_,rfl,a,rfl,⟨_,s12.seq hS⟩,yJ (K:=K) (a:=a) (xs:=cs.map V.int) (fun i σ H'=>∃ (bars:List Str) (v5 v6:Option V),σ = [some (.ref a),some (.ref la),some (.ref Dk),some (.ref D),some (.ref fo),v5,v6]/\zm H H'/\H' Dk = some (.lst ((rows.map Rw.z).map V.str))/\H' D = some (.lst ((nms rows).map V.str))/\H' fo = some (.lst (bars.map V.str))/\bars.Nodup/\(∀ z ∈ bars,yx z = true)/\(∀ z ∈ bars,z ∉ nms rows)/\bars.length<=i)
  ⟨[],_,_,rfl,s12,(s1.trans s2) _ _ hk,nD,g2,List.nodup_nil,(fun _ h=>nomatch h),(fun _ h=>nomatch h),Nat.le_refl _⟩ (fun i σ H' _ ⟨_,_,_,_,sH,_⟩=>sH.seq hS) ?_ ?_⟩
 ·rintro i x σ H3 hx ⟨bars,v5,v6,rfl,s3,eK,eD,eF,nd,nm,nk,ln⟩
  obtain ⟨n,hn,rfl⟩:∃ n,cs[i]? = some n/\x = .int n:=by
   rw [List.getElem?_map] at hx
   cases e:cs[i]? with
   | none=>rw [e] at hx; cases hx
   | some n=>rw [e] at hx; cases hx; exact ⟨n,rfl,rfl⟩
  have hi:i < cs.length:=(List.getElem?_eq_some_iff.mp hn).1
  dsimp only [zB]
  refine ⟨_,rfl,_,rfl,n,Dk,rows.map Rw.z,rfl,eK,zac V1,by rw [List.length_map]; omega,fun tn z rest' H4 s4 htn hz=>?_⟩
  refine ⟨tn,_,0,.str z,rfl,rfl,SqT.of htn,rfl,?_⟩
  have s3:=s3.trans s4
  have eK:=s4 _ _ eK
  have eD:=s4 _ _ eD
  have eF:=s4 _ _ eF
  have neK:Dk ≠ fo:=zf (s1 _ _ hk) hfo
  refine ⟨_,rfl,_,rfl,D,_,rfl,.inl (SqL.of eD),rfl,yi,_,rfl,?_⟩
  by_cases hk:z ∈ nms rows
  ·refine yp (by rw [if_pos rfl,yd,decide_eq_true hk]; rfl) ?_
   refine ym ?_
   exact ⟨bars,_,_,rfl,s3,eK,eD,eF,nd,nm,nk,Nat.le_succ_of_le ln⟩
  refine yU (by rw [if_pos rfl,yd,decide_eq_false hk]; rfl) ?_
  refine ⟨_,rfl,_,rfl,fo,_,rfl,.inl (SqL.of eF),rfl,yi,_,rfl,?_⟩
  by_cases hb:z ∈ bars
  ·refine yp (by rw [if_pos rfl,yd,decide_eq_true hb]; rfl) ?_
   exact ⟨bars,_,_,rfl,s3,eK,eD,eF,nd,nm,nk,Nat.le_succ_of_le ln⟩
  refine yU (by rw [if_pos rfl,yd,decide_eq_false hb]; rfl) ?_
  refine ⟨_,rfl,.inl ⟨rfl,_,SqL.of eF⟩,_,rfl,fo,_,_,rfl,rfl,eF,zG (by rw [List.length_map]; omega),?_⟩
  refine ⟨bars ++ [z],_,_,rfl,fun b u e=>by rw [zg (zf e nfo)]; exact s3 _ _ e,by rw [zg neK]; exact eK,by rw [zg neD]; exact eD,by rw [za,List.map_append]; rfl,List.nodup_append.mpr ⟨nd,by simp,fun x hx y hy e=>hb (by rw [<- List.mem_singleton.mp hy,<- e]; exact hx)⟩,fun y hy=>?_,fun y hy=>?_,by rw [List.length_append]; exact Nat.succ_le_succ ln⟩
  ·rcases List.mem_append.mp hy with hy | hy
   ·exact nm y hy
   ·rw [List.mem_singleton.mp hy]; exact hz
  ·rcases List.mem_append.mp hy with hy | hy
   ·exact nk y hy
   ·rw [List.mem_singleton.mp hy]; exact hk
 ·rintro σ H3 ⟨bars,v5,v6,rfl,s3,eK,eD,eF,nd,nm,nk,ln⟩
  rw [List.length_map] at ln
  exact ⟨_,rfl,q fo bars H3 s3 nfo eF ⟨V1.ok,V1.l24,by omega,V1.ord,nm,List.nodup_append.mpr ⟨V1.nd,nd,fun x hx y hy e=>nk y hy (e ▸ hx)⟩⟩⟩
end
theorem u5 {K:Frag} {ok:Addr->Prop} {H3:Hp} {o:HO} {l:Addr} (hl:H3 l = none\/(∃ zs,H3 l = some (.lst zs))):∀ {ps:List (Str × Int)} {zs:List V},Paired (zO K ok H3 1) zs (ps.map y4)->Paired (zO K ok (upd H3 l o) 1) zs (ps.map y4)
 | [],_,r=>by cases r; exact .nil
 | p :: ps,_,r=>by
  cases r with
  | cons h r=>
   refine .cons ?_ (u5 hl r)
   obtain ⟨b,ws,rfl,hS',r'⟩:=xu h
   exact .tup (zai hl hS') (Paired.imp' (fun _ _ z=>z) r')
theorem zax {K:Frag} {ok ok':Addr->Prop} {H3:Hp}:∀ {ps:List (Str × Int)} {zs:List V},Paired (zO K ok H3 1) zs (ps.map y4)->Paired (zO K ok' H3 1) zs (ps.map y4)
 | [],_,r=>by cases r; exact .nil
 | p :: ps,_,r=>by
  cases r with
  | cons h r=>
   refine .cons ?_ (zax r)
   obtain ⟨b,ws,rfl,hS',r'⟩:=xu h
   exact .tup hS' (Paired.imp' (fun _ _ z=>z) r')
theorem zfR {K:Frag} {ok ok':Addr->Prop} {H:Hp} (hk:∀ b,ok b->H b ≠ none->ok' b) {n:Nat} {x:V} {d:Dt} (h:zO K ok H n x d):zO K ok' H n x d:=
 h.frame (fun a xs z=>z) fun a xs oa z=>⟨hk a oa (by rw [z]; intro q; cases q),z⟩
def zd6 (it:xo):Prop:=(itT it).length<=4/\(itP it).length<=4/\∀ p ∈ itP it,yx p.1 = true
def zcm (K:Frag):Sp:=fun vs H Q _=>∃ (ca ka:Addr) (ns:List Int) (zs:List Str),vs = [.ref ca,.ref ka]/\SqL K H ca (ns.map V.int)/\ns.length<=63/\H ka = some (.lst (zs.map V.str))/\(∀ z ∈ zs,yx z = true)/\zs.length<=500/\
 ∀ (r:Addr) (xs:List V) (its:List xo) (H':Hp),zm H H'->H r = none->H' r = some (.lst xs)->Paired (zO K T' H' 3) xs (its.map xO)->its.length = ns.length->(∀ it ∈ its,zd6 it)->Q (.ref r) H'
section
variable {P:Program} {w:World} {K:Frag} {mg:Str->Option Value} {base:Heap} {f CF:Addr} {fd:FuncData} {c:C5} {m:MA}
theorem ndK:([Str.ofString "_law_k",Str.ofString "_law_rest"]:List Str).Nodup:=by decide +kernel
theorem xf:zt ["_law_cells","_law_known","_law_items_here","_law_cell","_law_told","_law_rest","_law_k","_law_name_here","_law_pairs"] ["_law_cells","_law_known"] (zh zbu):=⟨rfl,rfl,rfl,by decide +kernel,rfl,by decide +kernel,by decide +kernel⟩
theorem zeP {t1 t2 t3:Addr} {e1 e2 e3:FuncData} (F:Fun K "_law_items" "_law_items" zbu f fd) (hrg:mg "range" = none) (cK:zC P w K mg base 3 "_law_take" t1 e1 ["_law_cell","_law_sizes"] (qg K)) (cN:zC P w K mg base 4 "_law_name" t2 e2 ["_law_cell","_law_known"] (uL K)) (cT:zC P w K mg base 1 "_law_thing" t3 e3 ["_law_cell"] qf):zA P w K mg base CX0 5 f fd ["_law_cells","_law_known"] (zcm K):=by
 refine F.ok xf (fun vs H Q E h=>?_) (fun cdv A outer s H vs Q E hr h=>?_)
 ·obtain ⟨cs,pl,ns,zs,rfl,_⟩:=h
  rfl
 obtain ⟨ca,ka,ns,zs,rfl,hS,h63,hka,hz1,l5,q⟩:=h
 have hr1:yq 1 _:=hr.mono (by decide)
 have hr3:yq 3 _:=hr.mono (by decide)
 refine zv (zw (i:=2) xf.nd rfl (Or.inl rfl) (zT zb)) ?_
 refine ⟨zz0,fun r hrn=>?_⟩
 have sr:=zc hrn (.lst [])
 have g0:upd H r (.lst []) r = some (.lst []):=za
 dsimp only [zB]
 generalize upd H r (.lst []) = H1 at sr g0 |-
 refine zv (yn PassesOwn.never rfl (zU (pv 0)) (zk (i:=3) xf.nd rfl (Or.inl rfl)) y7) ?_
 refine ⟨_,rfl,ca,rfl,⟨_,sr.seq hS⟩,yJ (K:=K) (a:=ca) (xs:=ns.map V.int) (fun i σ H2=>∃ (v3 v4 v5 v6 v7 v8:Option V) (xs:List V) (its:List xo),σ = [some (.ref ca),some (.ref ka),some (.ref r),v3,v4,v5,v6,v7,v8]/\zm H H2/\H2 r = some (.lst xs)/\Paired (zO K (fun b=>b ≠ r) H2 3) xs (its.map xO)/\its.length = i/\∀ it ∈ its,zd6 it)
  ⟨_,_,_,_,_,_,[],[],rfl,sr,g0,.nil,rfl,fun _ h=>nomatch h⟩ (fun i σ H2 _ ⟨_,_,_,_,_,_,_,_,_,s2,_⟩=>s2.seq hS) ?_ ?_⟩
 ·rintro i y σ H2 hi ⟨v3,v4,v5,v6,v7,v8,xs,its,rfl,s2,g,hx,li,si⟩
  obtain ⟨n,hc,rfl⟩:=vJ hi
  have hil:i < ns.length:=(List.getElem?_eq_some_iff.mp hc).1
  have lx:xs.length = i:=by rw [hx.length,List.length_map,li]
  dsimp only [zB]
  refine zv (wv (cF cK hr3 (ac (pv 3) (ac (zT (ac ze (ac ze zb))) zb))) (yH rfl (zz (zk (i:=4) xf.nd rfl (Or.inl rfl)) (zz (zk (i:=5) xf.nd rfl (Or.inr rfl)) yo)))) ?_
  refine ⟨_,rfl,zz2,fun l1 hl1=>?_⟩
  have s7:=zc hl1 (.lst [.int 8,.int 5])
  refine ⟨n,l1,[8,5],rfl,SqL.of za,by decide,by decide,fun t lf fs rest H8 s8 nlf ht hlf lfs hfs=>?_⟩
  obtain ⟨f0,f1,rfl⟩:∃ f0 f1,fs = [f0,f1]:=by
   match fs,lfs with
   | [x,y],_=>exact ⟨x,y,rfl⟩
  have b0:f0 < 8:=hfs 0 (by decide)
  have b1:f1 < 5:=hfs 1 (by decide)
  have hlf:H8 lf = some (.lst [.int (f0:Nat),.int (f1:Nat)]):=hlf
  refine ⟨t,_,rfl,SqT.of ht,rfl,_,_,rfl,_,_,rfl,rfl,?_⟩
  have s28:=s7.trans s8
  have s08:=s2.trans s28
  have g:=s28 _ _ g
  have hx:=Paired.imp' (fun _ _ z=>z.same s28) hx
  have hka8:=s08 _ _ hka
  clear s7 s8 nlf ht s28 lfs hfs s2
  dsimp only [zB]
  have fin:∀ {H3:Hp} {x:V} {it:xo} {v3 v4 v5 v6 v7 v8:Option V},zm H8 H3->zd6 it->zO K (fun b=>b ≠ r) H3 3 x (xO it)->∃ (v3' v4' v5' v6' v7' v8':Option V) (xs':List V) (its':List xo),[some (V.ref ca),some (.ref ka),some (.ref r),v3,v4,v5,v6,v7,v8] = [some (V.ref ca),some (.ref ka),some (.ref r),v3',v4',v5',v6',v7',v8']/\zm H (upd H3 r (.lst (xs ++ [x])))/\upd H3 r (.lst (xs ++ [x])) r = some (.lst xs')/\Paired (zO K (fun b=>b ≠ r) (upd H3 r (.lst (xs ++ [x]))) 3) xs' (its'.map xO)/\its'.length = i + 1/\∀ it ∈ its',zd6 it:=by
   intro H3 x it v3 v4 v5 v6 v7 v8 s3 hsm hsx
   refine ⟨_,_,_,_,_,_,xs ++ [x],its ++ [it],rfl,z9 (s08.trans s3) hrn _,za,?_,by rw [List.length_append,li]; rfl,fun y hy=>?_⟩
   ·rw [List.map_append]
    exact yI (Paired.imp' (fun _ _ z=>wk (.inr ⟨_,s3 _ _ g⟩) (fun b hb _=>⟨hb,hb⟩) (z.same s3)) hx) (.cons (wk (.inr ⟨_,s3 _ _ g⟩) (fun b hb _=>⟨hb,hb⟩) hsx) .nil)
   ·rcases List.mem_append.mp hy with h | h
    ·exact si y h
    ·rw [List.mem_singleton.mp h]; exact hsm
  refine ⟨_,zd (zD (zi xZ (zo zx (pv 4) ze (fun _ _=>rfl)) ze (zr _))
    (zd (zI (yD PySem.F.plainAttrs_list PySem.F.slot_list_append PySem.F.type_list_append zL (pv 2) (ac (zE (ac zn (ac (cF cT hr1 (ac (pv 5) zb)) zb))) zb))))
    (zd (zD (zi z5 (zo zx (pv 4) ze (fun _ _=>rfl)) ze (zr _))
     (zd (zI (yD PySem.F.plainAttrs_list PySem.F.slot_list_append PySem.F.type_list_append zL (pv 2) (ac (zE (ac zn (ac (xz ["_law_rest"] ["_law_k","_law_rest"] [none,some 5] rfl ⟨rfl,rfl,rfl,rfl⟩ (yv rfl hrg (ac (zo zx (pv 4) ze (fun _ _=>rfl)) zb)) (zM 0) rfl rfl rfl
      (fun pins fp s H C=>⟨zk (i:=0) ndK rfl (Or.inl rfl) (.inr rfl),yB,cF cT hr1 (ac (zq yc (pv 1) (zq xM (pv 0) (pv 0))) zb)⟩)) zb))) zb))))
     (zd (zD (zi xZ (zo zx (pv 4) ze (fun _ _=>rfl)) ze (zr _))
      (zj (wv (cF cN hr (ac (pv 5) (ac (pv 1) zb))) (yH rfl (zz (zk (i:=7) xf.nd rfl (Or.inl rfl)) (zz (zk (i:=5) xf.nd rfl (Or.inr rfl)) yo))))
      (zd (zI (yD PySem.F.plainAttrs_list PySem.F.slot_list_append PySem.F.type_list_append zL (pv 2) (ac (zE (ac zn (ac (pv 7) (ac (cF cT hr1 (ac (pv 5) zb)) zb)))) zb)))))
      (zj (zw (i:=8) xf.nd rfl (Or.inl rfl) (zT zb))
      (zj (yn PassesOwn.never rfl (yv rfl hrg (ac (zq xm (zo zx (pv 4) ze (fun _ _=>rfl)) ze) zb)) (zk (i:=6) xf.nd rfl (Or.inl rfl))
       (zj (wv (cF cN hr (ac (pv 5) (ac (pv 1) zb))) (yH rfl (zz (zk (i:=7) xf.nd rfl (Or.inl rfl)) (zz (zk (i:=5) xf.nd rfl (Or.inr rfl)) yo))))
       (zd (zI (yD PySem.F.plainAttrs_list PySem.F.slot_list_append PySem.F.type_list_append zL (pv 8) (ac (zE (ac (pv 7) (ac (cF cT hr1 (ac (zq yc (pv 5) (pv 6)) zb)) zb))) zb))))))
      (zd (zI (yD PySem.F.plainAttrs_list PySem.F.slot_list_append PySem.F.type_list_append zL (pv 2) (ac (zE (ac zn (ac (pv 8) zb))) zb))))))))))),?_⟩
  refine ⟨_,rfl,lf,_,0,.int (f0:Nat),rfl,rfl,SqL.of hlf,rfl,_,_,rfl,rfl,_,rfl,?_⟩
  refine vI (fun _=>?_) (fun c1=>?_)
  ·refine ⟨_,rfl,.inl ⟨rfl,_,SqL.of g⟩,_,rfl,rest,rfl,zz2,fun tp htp=>?_⟩
   have st:=zc htp (.tup [.str "one",.int (xk rest)])
   refine ⟨r,_,_,rfl,rfl,st _ _ g,zG (by omega),?_⟩
   exact fin (it:=.one (xk rest)) st ⟨by show 1<=4; decide,by show 0<=4; decide,fun _ h=>nomatch h⟩ (.tup (SqT.of za) (.cons .str (.cons .int .nil)))
  refine ⟨_,rfl,lf,_,0,.int (f0:Nat),rfl,rfl,SqL.of hlf,rfl,rfl,_,rfl,?_⟩
  refine vI (fun _=>?_) (fun c2=>?_)
  ·refine ⟨_,rfl,.inl ⟨rfl,_,SqL.of g⟩,_,rfl,lf,_,1,.int (f1:Nat),rfl,rfl,SqL.of hlf,rfl,(f1:Nat),rfl,by omega,by omega,fun D hD=>?_⟩
   have ef:((f1:Nat):Int).toNat = f1:=Int.toNat_natCast f1
   rw [ef]
   refine wn (n:=f1) (fun j ys H'=>zm H8 H'/\H' D = some (.lst ys)/\ys = ((List.range j).map fun (k:Nat)=>xk (rest + (k:Int) * (k:Int))).map V.int) ⟨zc hD _,za,rfl⟩ ?_ ?_
   ·rintro j ys H' hj ⟨sH,hDy,ey⟩
    have e0:(0:Int) + (j:Int) = (j:Nat):=by omega
    rw [e0]
    refine ⟨fun _=>⟨_,rfl,_,rfl,_,rfl,_,_,rfl,rfl,.inl ⟨by omega,by omega⟩,_,_,rfl,rfl,_,rfl,lcN.mk hj (zY (by omega)) hDy (by rw [ey,List.length_map,List.length_map,List.length_range]; exact Nat.le_refl _) ⟨z9 sH hD _,za,?_⟩⟩,fun z=>absurd z (by decide)⟩
    rw [ey,List.range_succ,List.map_append,List.map_append]
    rfl
   rintro ys H3 ⟨s3,hDy,ey⟩
   refine ⟨zz2,fun tp htp=>?_⟩
   have st:=zc htp (.tup [.str "row",.ref D])
   refine ⟨r,_,_,rfl,rfl,(s3.trans st) _ _ g,zG (by omega),?_⟩
   have hD3:=st _ _ hDy
   rw [ey] at hD3
   exact fin (it:=.row ((List.range f1).map fun (k:Nat)=>xk (rest + (k:Int) * (k:Int)))) (s3.trans st) ⟨by show ((List.range f1).map _).length<=4; rw [List.length_map,List.length_range]; omega,by show 0<=4; decide,fun _ h=>nomatch h⟩ (.tup (SqT.of za) (.cons .str (.cons (.lst (zf g hD).symm hD3 (uc _)) .nil)))
  refine ⟨_,rfl,lf,_,0,.int (f0:Nat),rfl,rfl,SqL.of hlf,rfl,_,_,rfl,rfl,_,rfl,?_⟩
  refine vI (fun _=>?_) (fun c3=>?_)
  ·refine ⟨_,rfl,_,rfl,rest,ka,zs,rfl,hka8,hz1,l5,fun tn z rest' H9 s9 htn hz=>?_⟩
   refine ⟨tn,_,rfl,SqT.of htn,rfl,_,_,rfl,_,_,rfl,rfl,?_⟩
   dsimp only [zB]
   refine ⟨_,rfl,.inl ⟨rfl,_,SqL.of (s9 _ _ g)⟩,_,rfl,_,rfl,rest',rfl,zz3,fun tp htp=>?_⟩
   have st:=zc htp (.tup [.str "named",.str z,.int (xk rest')])
   refine ⟨r,_,_,rfl,rfl,(s9.trans st) _ _ g,zG (by omega),?_⟩
   exact fin (it:=.named z (xk rest')) (s9.trans st) ⟨by show 0<=4; decide,by show 1<=4; decide,fun p hp=>by rw [List.mem_singleton.mp hp]; exact hz⟩ (.tup (SqT.of za) (.cons .str (.cons .str (.cons .int .nil))))
  refine ⟨zz0,fun lp hlp=>?_⟩
  have sp:=zc hlp (.lst [])
  have gp:upd H8 lp (.lst []) lp = some (.lst []):=za
  dsimp only [zB]
  generalize upd H8 lp (.lst []) = Hp0 at sp gp |-
  have m0 : 0<=((f1:Nat):Int) % 4:=Int.emod_nonneg _ (by decide)
  have m1:((f1:Nat):Int) % 4 < 4:=Int.emod_lt_of_pos _ (by decide)
  refine ⟨_,rfl,lf,_,1,.int (f1:Nat),rfl,rfl,SqL.of (sp _ _ hlf),rfl,_,_,rfl,rfl,(by show (0:Int) < 4; decide),((f1:Nat):Int) % 4,rfl,by omega,by omega,?_⟩
  obtain ⟨kk,hkk⟩:∃ kk:Nat,(((f1:Nat):Int) % 4).toNat = kk:=⟨_,rfl⟩
  rw [hkk]
  have k4:kk<=4:=by omega
  refine xH (n:=kk) (fun j σ H'=>∃ (rest:Int) (v6 v7:Option V) (ys:List V) (ps:List (Str × Int)),σ = [some (.ref ca),some (.ref ka),some (.ref r),some (.int n),some (.ref lf),some (.int rest),v6,v7,some (.ref lp)]/\zm H8 H'/\H' lp = some (.lst ys)/\Paired (zO K T' H' 1) ys (ps.map y4)/\ps.length = j/\∀ p ∈ ps,yx p.1 = true) ⟨rest,_,_,[],[],rfl,sp,gp,.nil,rfl,fun _ h=>nomatch h⟩ ?_ ?_
  ·rintro j σ H' hj ⟨rest,v6,v7,ys,ps,rfl,sH,hy,hp,lps,np⟩
   have e0:(0:Int) + (j:Int) = (j:Nat):=by omega
   rw [e0]
   dsimp only [zB]
   have lys:ys.length = j:=by rw [hp.length,List.length_map,lps]
   refine ⟨_,rfl,_,rfl,rest,ka,zs,rfl,sH _ _ hka8,hz1,l5,fun tn z rest' H9 s9 htn hz=>?_⟩
   refine ⟨tn,_,rfl,SqT.of htn,rfl,_,_,rfl,_,_,rfl,rfl,?_⟩
   dsimp only [zB]
   refine ⟨_,rfl,.inl ⟨rfl,_,SqL.of (s9 _ _ hy)⟩,_,rfl,_,rfl,_,rfl,_,_,rfl,rfl,_,rfl,zz2,fun tp htp=>?_⟩
   have st:=zc htp (.tup [.str z,.int (xk (rest' + (j:Nat)))])
   have hy':=(s9.trans st) _ _ hy
   refine ⟨lp,_,_,rfl,rfl,hy',zG (by omega),?_⟩
   refine ⟨rest',_,_,_,ps ++ [(z,xk (rest' + (j:Nat)))],rfl,z9 (sH.trans (s9.trans st)) hlp _,za,?_,by rw [List.length_append,lps]; rfl,fun p hpp=>?_⟩
   ·rw [List.map_append]
    exact yI (u5 (.inr ⟨_,hy'⟩) (yS (s9.trans st) hp)) (.cons (.tup (xs:=[.str z,.int (xk (rest' + (j:Nat)))]) (SqT.of (by rw [zg (fun e=>by subst e; rw [s9 _ _ hy] at htp; cases htp)]; exact za)) (.cons .str (.cons .int .nil))) .nil)
   ·rcases List.mem_append.mp hpp with h | h
    ·exact np p h
    ·rw [List.mem_singleton.mp h]; exact hz
  rintro σ H4 ⟨rest,v6,v7,ys,ps,rfl,sH,hy,hp,lps,np⟩
  refine ⟨_,rfl,.inl ⟨rfl,_,SqL.of (sH _ _ g)⟩,_,rfl,zz2,fun tp htp=>?_⟩
  have st:=zc htp (.tup [.str "book",.ref lp])
  refine ⟨r,_,_,rfl,rfl,(sH.trans st) _ _ g,zG (by omega),?_⟩
  exact fin (it:=.book ps) (sH.trans st) ⟨by show 0<=4; decide,by show ps.length<=4; omega,np⟩ (.tup (SqT.of za) (.cons .str (.cons (.lst (zf g hlp).symm (st _ _ hy) (zax (yS st hp))) .nil)))
 ·rintro σ H2 ⟨v3,v4,v5,v6,v7,v8,xs,its,rfl,s2,g,hx,li,si⟩
  rw [List.length_map] at li
  exact ⟨_,zd (zp (pv 2)),_,rfl,q r xs its H2 s2 hrn g (Paired.imp' (fun _ _ z=>zfR (fun _ _ _=>True.intro) z) hx) li si⟩
end
def zhq (its:List xo):Prop:=(z8 its).length<=100/\(yf its).length<=60/\∀ p ∈ yf its,yx p.1 = true
theorem zco {its:List xo} (h:∀ it ∈ its,zd6 it) (l:its.length<=14):(z8 its).length<=56/\(yf its).length<=56/\∀ p ∈ yf its,yx p.1 = true:=by
 have h1:=qS (b:=4) (its.map itT) (fun x hx=>by obtain ⟨it,hi,rfl⟩:=List.mem_map.mp hx; exact (h it hi).1)
 have h2:=qS (b:=4) (its.map itP) (fun x hx=>by obtain ⟨it,hi,rfl⟩:=List.mem_map.mp hx; exact (h it hi).2.1)
 rw [List.length_map] at h1 h2
 refine ⟨by unfold z8; omega,by unfold yf; omega,fun p hp=>?_⟩
 unfold yf at hp
 obtain ⟨l,hl,hp⟩:=List.mem_flatten.mp hp
 obtain ⟨it,hi,rfl⟩:=List.mem_map.mp hl
 exact (h it hi).2.2 p hp
def zd2 (K:Frag):Sp:=fun vs H Q _=>∃ (sa pl:Addr) (ns:List Int) (zs:List Str),vs = [.ref sa,.ref pl]/\SqL K H sa (ns.map V.int)/\H pl = some (.lst (zs.map V.str))/\(∀ z ∈ zs,yx z = true)/\zs.length<=500/\
 ∀ (r:Addr) (xs:List V) (its:List xo) (H':Hp),zm H H'->H r = none->H' r = some (.lst xs)->Paired (zO K T' H' 3) xs (its.map xO)->zhq its->Q (.ref r) H'
section
variable {P:Program} {w:World} {K:Frag} {mg:Str->Option Value} {base:Heap} {f CF:Addr} {fd:FuncData} {c:C5} {m:MA}
theorem zia:([Str.ofString "_law_k",Str.ofString "_law_cells"]:List Str).Nodup:=by decide +kernel
theorem zbi:zt ["_law_cells","_law_known","_law_handed_here"] ["_law_cells","_law_known"] (zh qz):=⟨rfl,rfl,rfl,by decide +kernel,rfl,by decide +kernel,by decide +kernel⟩
theorem zgj {g1 g2 g3:Addr} {e1 e2 e3:FuncData} (F:Fun K "_law_handed" "_law_handed" qz f fd) (hrg:mg "range" = none) (cI:zC P w K mg base 5 "_law_items" g1 e1 ["_law_cells","_law_known"] (zcm K)) (cN:zC P w K mg base 1 "_law_nth" g2 e2 ["_law_script","_law_k"] (qi K)) (cT:zC P w K mg base 1 "_law_thing" g3 e3 ["_law_cell"] qf):zA P w K mg base CX0 6 f fd ["_law_cells","_law_known"] (zd2 K):=by
 refine F.ok zbi (fun vs H Q E h=>?_) (fun cdv A outer s H vs Q E hr h=>?_)
 ·obtain ⟨sa,pl,ns,zs,rfl,_⟩:=h
  rfl
 obtain ⟨sa,pl,ns,zs,rfl,hS,hpl,z1,l5,q⟩:=h
 have hr1:yq 1 _:=hr.mono (by decide)
 refine zv (zw (i:=2) zbi.nd rfl (Or.inl rfl) (cF cI hr (ac (xv xW (pv 0) (yW ze) (yW ze)) (ac (pv 1) zb)))) ?_
 refine ⟨_,rfl,_,rfl,_,rfl,sa,_,rfl,hS,fun ca hca=>?_⟩
 obtain ⟨ec,lc⟩:=zcS ns 23 37
 rw [show wB (ns.map V.int) (some 23) (some 37) = (wa ns 23 37).map V.int from ec]
 have s1:=zc hca (.lst ((wa ns 23 37).map V.int))
 refine ⟨_,rfl,ca,pl,wa ns 23 37,zs,rfl,SqL.of za,by omega,s1 _ _ hpl,z1,l5,fun r xs its H2 s2 nr hr' hx lit sit=>?_⟩
 have s02:=s1.trans s2
 have nr0:H r = none:=s1.free nr
 dsimp only [zB]
 refine zv (zD (zi z5 (zq xm (cF cN hr1 (ac (pv 0) (ac ze zb))) ze) ze (zr _)) (zd (zw (i:=2) zbi.nd rfl (Or.inl rfl) (zq yG (xv xW (pv 2) qF (yW ze)) (zT (ac (zE (ac zn (ac (xz ["_law_cells"] ["_law_k","_law_cells"] [none,some 0] rfl ⟨rfl,rfl,rfl,rfl⟩ (yv rfl hrg (ac ze zb)) (zM 0) rfl rfl rfl
  (fun pins fp s H C=>⟨zk (i:=0) zia rfl (Or.inl rfl) (.inr rfl),yB,cF cT hr1 (ac (zq yc (zq wX (cF cN hr1 (ac (pv 1) (ac ze zb))) ze) (zq xM (pv 0) (pv 0))) zb)⟩)) zb))) zb))))) zu) ?_
 refine ⟨_,rfl,sa,ns,2,rfl,s02.seq hS,_,_,rfl,rfl,(by show (0:Int) < 8; decide),rfl,_,rfl,?_⟩
 by_cases h5:V.int (ns.getD 2 0 % 8) = V.int 5
 rotate_left
 ·refine dF h5 ?_
  obtain ⟨a1,a2,a3⟩:=zco sit (by omega)
  exact ⟨_,zd (zp (pv 2)),_,rfl,q r xs its H2 s02 nr0 hr' hx ⟨by omega,by omega,a3⟩⟩
 refine dT h5 ?_
 refine ⟨_,rfl,_,rfl,r,_,rfl,SqL.of hr',fun l3 hl3=>?_⟩
 rw [show wB xs none (some 7) = xs.take 7 from j3 (n:=7)]
 have s3:=zc hl3 (.lst (xs.take 7))
 have g3:upd H2 l3 (.lst (xs.take 7)) l3 = some (.lst (xs.take 7)):=za
 have s03:=s02.trans s3
 have hx3:=Paired.imp' (fun _ _ z=>z.same s3) hx
 generalize upd H2 l3 (.lst (xs.take 7)) = H3 at s3 g3 s03 hx3 |-
 refine ⟨30,rfl,by decide,by decide,fun D hD=>?_⟩
 refine wn (n:=30) (fun j ys H'=>zm H3 H'/\H' D = some (.lst ys)/\ys = ((List.range j).map fun (k:Nat)=>xk (ns.getD 2 0 / 8 + (k:Int) * (k:Int))).map V.int) ⟨zc hD _,za,rfl⟩ ?_ ?_
 ·rintro j ys H' hj ⟨sH,hDy,ey⟩
  have e0:(0:Int) + (j:Int) = (j:Nat):=by omega
  rw [e0]
  refine ⟨fun _=>⟨_,rfl,sa,ns,2,rfl,(s03.trans sH).seq hS,_,_,rfl,rfl,⟨by decide,by decide⟩,_,rfl,_,rfl,_,_,rfl,rfl,.inl ⟨by omega,by omega⟩,_,_,rfl,rfl,_,rfl,lcN.mk hj (zY (by omega)) hDy (by rw [ey,List.length_map,List.length_map,List.length_range]; exact Nat.le_refl _) ⟨z9 sH hD _,za,?_⟩⟩,fun z=>absurd z (by decide)⟩
  rw [ey,List.range_succ,List.map_append,List.map_append]
  rfl
 rintro ys H4 ⟨s4,hDy,ey⟩
 have eD:H4 D = some (.lst ((zbA (ns.getD 2 0)).map V.int)):=by rw [hDy,ey]; rfl
 refine ⟨zz2,fun tp htp=>?_⟩
 have s5:=zc htp (.tup [.str "row",.ref D])
 refine ⟨zz1,fun l6 hl6=>?_⟩
 have s6:=zc hl6 (.lst [.ref tp])
 have s36:=s4.trans (s5.trans s6)
 have lx:(xs.take 7).length<=7:=by rw [List.length_take]; omega
 refine ⟨l3,l6,_,_,rfl,rfl,s36 _ _ g3,za,(by exact zY (by show (xs.take 7).length + 1<=1000; omega)),fun l7 hl7=>?_⟩
 have s7:=zc hl7 (.lst (xs.take 7 ++ [.ref tp]))
 have s37:=s36.trans s7
 have s07:=s03.trans s37
 have n7:H l7 = none:=(s03.trans s36).free hl7
 have gtp:=(s6.trans s7) _ _ (za (H:=H4) (a:=tp) (o:=.tup [.str "row",.ref D]))
 have gD:=(s5.trans (s6.trans s7)) _ _ eD
 dsimp only [zB]
 refine ⟨_,zd (zp (pv 2)),_,rfl,q l7 _ (its.take 7 ++ [.row (zbA (ns.getD 2 0))]) _ s07 n7 za ?_ ?_⟩
 ·rw [List.map_append,List.map_take]
  refine Paired.snoc (ur 7 (Paired.imp' (fun _ _ z=>z.same s37) hx3)) ?_
  exact zO.tup (SqT.of gtp) (.cons .str (.cons (zO.lst trivial gD (uc _)) .nil))
 ·obtain ⟨a1,a2,a3⟩:=zco (its:=its.take 7) (fun it hi=>sit it (List.mem_of_mem_take hi)) (by rw [List.length_take]; omega)
  have e:z8 (its.take 7 ++ [.row (zbA (ns.getD 2 0))]) = z8 (its.take 7) ++ zbA (ns.getD 2 0):=by
   unfold z8
   rw [List.map_append,List.flatten_append]
   simp [itT]
  have e':yf (its.take 7 ++ [.row (zbA (ns.getD 2 0))]) = yf (its.take 7):=by
   unfold yf
   rw [List.map_append,List.flatten_append]
   simp [itP]
  have lr:(zbA (ns.getD 2 0)).length = 30:=by unfold zbA; rw [List.length_map,List.length_range]
  exact ⟨by rw [e,List.length_append,lr]; omega,by rw [e']; omega,by rw [e']; exact a3⟩
end
def xT (rows:List Rw) (bars:List Str) (w:Nat) (ys:List Str):Nat:=ys.countP fun z=>(z3 rows bars w z).isSome
def xi (w:Nat) (names:List Str) (i:Nat) (r:Rw):Bool:=yr names r && !(y0 r.k && decide (i < w))
def yY (w:Nat) (names:List Str):Nat->List Rw->Nat
 | _,[]=>0
 | i,r :: rs=>(if xi w names i r = true then 1 else 0) + yY w names (i + 1) rs
def zab (names ys:List Str):Prop:=ys.Nodup/\∀ z,z ∈ ys ↔ z ∈ names
def Vw (rows:List Rw) (w:Nat):Prop:=(zy 2 0 rows).isSome = true\/w<=plN rows
theorem vH {w:Nat} {names:List Str}:∀ (rows:List Rw) (i:Nat),(xh w (kvP (fpZ names)) i rows).length = yY w names i rows
 | [],_=>rfl
 | r :: rs,i=>by
  show ((if yV r i w (kvP (fpZ names)) = true then [(("lacking" : Str),i)] else []) ++ xh w (kvP (fpZ names)) (i + 1) rs).length = _
  rw [List.length_append,vH rs (i + 1),wz]
  show _ = (if (yr names r && !(y0 r.k && decide (i < w))) = true then 1 else 0) + yY w names (i + 1) rs
  split <;> rfl
theorem zcb {rows:List Rw} {bars:List Str} {w:Nat}:∀ (fp:List (Str × Nat)),(w9 rows bars w fp).length = xT rows bars w (fp.map (·.1))
 | []=>rfl
 | p :: fp=>by
  have ih:=zcb (rows:=rows) (bars:=bars) (w:=w) fp
  unfold w9 xT at ih |-
  rw [List.filterMap_cons,List.map_cons,List.countP_cons]
  cases e:z3 rows bars w p.1 with
  | none=>simp only [Option.map_none,e,Option.isSome_none]; rw [ih]; simp
  | some x=>simp only [Option.map_some,e,Option.isSome_some,List.length_cons]; rw [ih]; simp
theorem zab.perm {names ys ys':List Str} (h:zab names ys) (h':zab names ys'):ys.Perm ys':=(List.perm_ext_iff_of_nodup h.1 h'.1).mpr fun z=>(h.2 z).trans (h'.2 z).symm
theorem vL (names:List Str):zab names ((fpZ names).map (·.1)):=⟨(jZ names).2.1,fun z=>qR⟩
theorem xE {rows:List Rw} {bars names ys:List Str} {w:Nat} (hd:zab names ys) (tl:Vw rows w):(z7 rows bars w names).length + ys.length = names.length + xT rows bars w ys + yY w names 0 rows:=by
 have hp:=hd.perm (vL names)
 have h1:=(jZ names).1.length_eq
 rw [List.length_append,List.length_map] at h1
 have h2:wK rows w = []:=wJ.mpr tl
 have h3:xT rows bars w ys = xT rows bars w ((fpZ names).map (·.1)):=hp.countP_eq _
 unfold z7
 rw [h2,List.append_nil,List.length_append,List.length_append,zcb,vH,h3,hp.length_eq]
 omega
theorem jl {w:Nat} {names names':List Str} (h:∀ z,z ∈ names ↔ z ∈ names'):∀ (rows:List Rw) (i:Nat),yY w names i rows = yY w names' i rows
 | [],_=>rfl
 | r :: rs,i=>by
  unfold yY
  rw [jl h rs (i + 1)]
  have:xi w names i r = xi w names' i r:=by
   unfold xi yr yL
   rw [decide_eq_decide.mpr (h r.z)]
  rw [this]
theorem zaN {w:Nat} {names:List Str} {z:Str}:∀ (rows:List Rw) (i:Nat),(nms rows).Nodup->yY w (names ++ [z]) i rows<=yY w names i rows/\yY w names i rows<=yY w (names ++ [z]) i rows + (if z ∈ nms rows then 1 else 0)
 | [],_,_=>⟨Nat.le_refl _,Nat.zero_le _⟩
 | r :: rs,i,nd=>by
  have en:nms (r :: rs) = (if yl r.k = true then [r.z] else []) ++ nms rs:=by
   rw [show r :: rs = [r] ++ rs from rfl,x0,vE]
  rw [en] at nd |-
  have nd2:=List.nodup_append.mp nd
  obtain ⟨a,b⟩:=zaN (w:=w) (names:=names) (z:=z) rs (i + 1) nd2.2.1
  unfold yY
  by_cases hb:yl r.k = true
  ·rw [if_pos hb] at nd2 |-
   by_cases hz:r.z = z
   ·have nz:z ∉ nms rs:=fun c=>nd2.2.2 r.z (List.mem_singleton.mpr rfl) z c hz
    rw [if_neg nz] at b
    rw [if_pos (List.mem_append_left _ (List.mem_singleton.mpr hz.symm))]
    have e:xi w (names ++ [z]) i r = false:=by
     unfold xi yr yL
     rw [hb,decide_eq_true (show r.z ∈ names ++ [z] by rw [hz]; exact List.mem_append_right _ (List.mem_singleton.mpr rfl))]
     cases fr r.k r.b <;> rfl
    rw [e]
    refine ⟨?_,?_⟩
    ·rw [if_neg Bool.false_ne_true]; omega
    ·rw [if_neg Bool.false_ne_true]; split <;> omega
   ·have e:xi w (names ++ [z]) i r = xi w names i r:=by
     unfold xi yr yL
     rw [decide_eq_decide.mpr (show r.z ∈ names ++ [z] ↔ r.z ∈ names by rw [List.mem_append,List.mem_singleton]; exact ⟨fun h=>h.elim id (fun c=>absurd c hz),.inl⟩)]
    have e2:(if z ∈ [r.z] ++ nms rs then 1 else 0) = (if z ∈ nms rs then 1 else 0):=by
     have:z ∈ [r.z] ++ nms rs ↔ z ∈ nms rs:=by rw [List.mem_append,List.mem_singleton]; exact ⟨fun h=>h.elim (fun c=>absurd c.symm hz) id,.inr⟩
     simp only [this]
    rw [e,e2]
    omega
  ·rw [if_neg hb,List.nil_append]
   have e:xi w (names ++ [z]) i r = xi w names i r:=by
    unfold xi yr yL
    rw [Bool.eq_false_iff.mpr hb]
    rfl
   rw [e]
   omega
theorem zdi {rows:List Rw} {bars names names':List Str} {w:Nat} (hp:names.Perm names') (tl:Vw rows w):(z7 rows bars w names).length = (z7 rows bars w names').length:=by
 have d:=vL names
 have d':zab names' ((fpZ names).map (·.1)):=⟨d.1,fun z=>(d.2 z).trans hp.mem_iff⟩
 have h1:=xE (bars:=bars) d tl
 have h2:=xE (bars:=bars) d' tl
 rw [jl (fun z=>hp.mem_iff) rows 0,hp.length_eq] at h1
 omega
theorem zcH {rows:List Rw} {bars names:List Str} {w:Nat} {z:Str} (nd:(nms rows).Nodup) (tl:Vw rows w):(z7 rows bars w (names ++ [z])).length<=(z7 rows bars w names).length + 1/\(z7 rows bars w names).length<=(z7 rows bars w (names ++ [z])).length + 1:=by
 have d:=vL names
 have h1:=xE (bars:=bars) d tl
 by_cases hz:z ∈ names
 ·have m:∀ y,y ∈ names ++ [z] ↔ y ∈ names:=fun y=>by
   rw [List.mem_append,List.mem_singleton]
   exact ⟨fun h=>h.elim id (fun e=>by rw [e]; exact hz),.inl⟩
  have d':zab (names ++ [z]) ((fpZ names).map (·.1)):=⟨d.1,fun y=>(d.2 y).trans (m y).symm⟩
  have h2:=xE (bars:=bars) d' tl
  rw [jl m rows 0,List.length_append,List.length_singleton] at h2
  omega
 ·have d':zab (names ++ [z]) ((fpZ names).map (·.1) ++ [z]):=⟨List.nodup_append.mpr ⟨d.1,List.nodup_cons.mpr ⟨List.not_mem_nil,List.nodup_nil⟩,fun a ha b hb e=>hz ((d.2 z).mp (by rw [<- List.mem_singleton.mp hb,<- e]; exact ha))⟩,fun y=>by rw [List.mem_append,List.mem_append,d.2 y]⟩
  have h2:=xE (bars:=bars) d' tl
  obtain ⟨a,b⟩:=zaN (w:=w) (names:=names) (z:=z) rows 0 nd
  have hb:xT rows bars w ((fpZ names).map (·.1) ++ [z]) = xT rows bars w ((fpZ names).map (·.1)) + xT rows bars w [z]:=List.countP_append
  have hb1:xT rows bars w [z]<=1:=List.countP_le_length
  rw [List.length_append,List.length_append,List.length_singleton,hb] at h2
  have:(if z ∈ nms rows then 1 else 0)<=1:=by split <;> omega
  omega
theorem ze1 {rows:List Rw} {bars names:List Str} {w i:Nat} {z:Str} (nd:(nms rows).Nodup) (tl:Vw rows w) (hi:names[i]? = some z):(z7 rows bars w (names.eraseIdx i)).length<=(z7 rows bars w names).length + 1/\(z7 rows bars w names).length<=(z7 rows bars w (names.eraseIdx i)).length + 1:=by
 obtain ⟨hl,e⟩:=List.getElem?_eq_some_iff.mp hi
 have hp:(names.eraseIdx i ++ [z]).Perm names:=(List.perm_append_singleton z _).trans (by rw [<- e]; exact L2.x9 names i hl)
 have h:=zcH (rows:=rows) (bars:=bars) (names:=names.eraseIdx i) (w:=w) (z:=z) nd tl
 rw [zdi hp tl] at h
 exact ⟨h.2,h.1⟩
def LB (rows:List Rw) (bars:List Str) (many:Nat) (names:List Str) (n:Nat):Prop:=∀ w,yA rows<=w->Vw rows w->n<=(mtF rows bars w many names).length
theorem vm {rows:List Rw} {bars names:List Str} {w many:Nat}:(mtF rows bars w many names).length = (many - w) + (w - many) + (z7 rows bars w names).length:=by
 unfold mtF
 rw [List.length_append,List.length_append,List.length_replicate,List.length_replicate,List.length_map]
section
variable {rows:List Rw} {bars names:List Str} {many n:Nat} {z:Str}
theorem LB.less (h:LB rows bars many names n):LB rows bars (many - 1) names (n - 1):=fun w h1 h2=>by
 have:=h w h1 h2
 rw [vm] at this |-
 omega
theorem LB.more (h:LB rows bars many names n):LB rows bars (many + 1) names (n - 1):=fun w h1 h2=>by
 have:=h w h1 h2
 rw [vm] at this |-
 omega
theorem LB.in_ (h:LB rows bars many names n) (nd:(nms rows).Nodup):LB rows bars many (names ++ [z]) (n - 1):=fun w h1 h2=>by
 have:=h w h1 h2
 have m:=(zcH (bars:=bars) (names:=names) (z:=z) nd h2).2
 rw [vm] at this |-
 omega
theorem LB.out {i:Nat} (h:LB rows bars many names n) (nd:(nms rows).Nodup) (hi:names[i]? = some z):LB rows bars many (names.eraseIdx i) (n - 1):=fun w h1 h2=>by
 have:=h w h1 h2
 have m:=(ze1 (bars:=bars) nd h2 hi).2
 rw [vm] at this |-
 omega
theorem LB.miss (V1:xR rows bars) (h:LB rows bars many names n) (h0 : 0 < n):¬ z7 rows bars many names = []:=fun e=>by
 obtain ⟨h1,_,h3⟩:=zgs V1 e
 have:=h many h1 (jP.mp e).2.1
 rw [h3] at this
 have:n<=0:=this
 omega
theorem ze4 {w w':Nat} (V1:xR rows bars) (tl:(zy 2 0 rows).isSome = true) (h:plN rows<=w) (h':plN rows<=w'):(z7 rows bars w names).length = (z7 rows bars w' names).length:=by
 have d:=vL names
 have h1:=xE (bars:=bars) (w:=w) d (.inl tl)
 have h2:=xE (bars:=bars) (w:=w') d (.inl tl)
 have e1:xT rows bars w ((fpZ names).map (·.1)) = xT rows bars w' ((fpZ names).map (·.1)):=by
  unfold xT
  refine List.countP_congr fun z _=>?_
  have:z3 rows bars w z = z3 rows bars w' z:=by
   unfold z3
   split
   ·rfl
   ·cases z3.lastD' z rows with
    | none=>rfl
    | some l=>
     dsimp only
     have:(l < plN rows/\l < w) ↔ (l < plN rows/\l < w'):=by omega
     simp only [this]
  rw [this]
 have e2:∀ (rs:List Rw) (i:Nat),(∀ j r,rs[j]? = some r->y0 r.k = true->i + j < plN rows)->yY w names i rs = yY w' names i rs:=by
  intro rs
  induction rs with
  | nil=>intro i _; rfl
  | cons r rs ih=>
   intro i hh
   unfold yY
   rw [ih (i + 1) fun j r' hj hb=>by have:=hh (j + 1) r' (by simpa using hj) hb; omega]
   have:xi w names i r = xi w' names i r:=by
    unfold xi
    cases hb:y0 r.k with
    | false=>rfl
    | true=>
     have:=hh 0 r rfl hb
     rw [decide_eq_true (show i < w by omega),decide_eq_true (show i < w' by omega)]
   rw [this]
 rw [e1] at h1
 rw [e2 rows 0 fun j r hj hb=>by have:=up V1.ok V1.ord hj; rw [hb] at this; have:=of_decide_eq_true this.symm; omega] at h1
 omega
theorem zdI.lb {w:Nat} (V1:xR rows bars) (h:zdI rows bars many names w):LB rows bars many names (mtF rows bars w many names).length:=fun w' h1 h2=>by
 by_cases c:w'<=ya rows many
 ·exact h.2.2 w' h1 c
 rcases h2 with tl | h2
 ·have em:ya rows many = max (plN rows) many:=by unfold ya; rw [if_pos tl]
  have hf:yA rows<=plN rows:=ud _ rows _
  have:=h.2.2 (ya rows many) (by rw [em]; omega) (Nat.le_refl _)
  have e:=ze4 (names:=names) V1 tl (w:=ya rows many) (w':=w') (by rw [em]; omega) (by rw [em] at c; omega)
  rw [vm (w:=ya rows many)] at this
  rw [vm (w:=w')]
  rw [e] at this
  rw [em] at this c
  omega
 ·exfalso
  unfold ya at c
  split at c <;> omega
theorem zdI.vw {w:Nat} (h:zdI rows bars many names w) (hm:many<=100):yA rows<=w/\Vw rows w/\w<=plN rows + many:=by
 refine ⟨h.1,?_,?_⟩
 ·have:=h.2.1
  unfold ya at this
  unfold Vw
  split at this
  ·exact .inl (by assumption)
  ·exact .inr this
 ·have:=h.2.1
  unfold ya at this
  split at this <;> omega
end
end K33
namespace L2
open PySem PySem.Spec PyProof.Rows
theorem zdG {X:Cx}:yN X (.builtin "len") (fun xs H Q=>∃ (a:Addr) (zs:List Str) (n:Nat),xs = [.ref a]/\H a = some (vt X.prog X.w a (fun z=>decide (z ∈ zs)) n)/\((∀ ys:List Str,ys.Nodup->(∀ z,z ∈ ys ↔ z ∈ zs)->n = ys.length)->Q (.int n) H)):=by
 intro pins s σ H xs us Q I r h
 obtain ⟨a,zs,n,rfl,e,q⟩:=h
 obtain ⟨u,rfl,ru⟩:=xt r
 cases ru
 have hS:xU X.prog X.w s.heap a (fun z=>decide (z ∈ zs)) n:=(I.hok a _ e).1
 have hq:∀ ys:List Str,ys.Nodup->(∀ z,z ∈ ys ↔ z ∈ zs)->n = ys.length:=fun ys nd hm=>by
  have e:(fun y=>decide (y ∈ zs)) = fun y=>decide (y ∈ ys):=funext fun y=>decide_eq_decide.mpr (hm y).symm
  rw [e] at hS
  have h1:=uO hS
  have h2:=zan hS.setOf nd
  omega
 obtain ⟨o,es,ep,t,ho,hx,hd,_,_,hb,hf,hn⟩:=hS.setOf
 have h63:(es.size:Int) < 2 ^ 63:=by
  have:scanBound < 2 ^ 63:=by unfold scanBound; decide
  omega
 refine call_len_set ho hx hd hf h63 ?_
 exact ⟨.int es.size,H,I.tok _,⟨_,rfl⟩,by rw [hn]; exact q hq⟩
end L2
namespace K33
open PySem L2 PyProof.Rows
def rzA (rows:List Rw) (i:Nat):Str:=(rows[i]?.map Rw.z).getD ""
def rkA (rows:List Rw) (i:Nat):Nat:=(rows[i]?.map Rw.k).getD 9
def uK (rows:List Rw) (many:Nat):List Str:=((List.range rows.length).filter fun i=>decide (rkA rows i = 3) || (decide (rkA rows i = 1) && decide (many<=i))).map (rzA rows)
def jE (rows:List Rw) (many:Nat):List Str:=((List.range (plN rows)).filter fun i=>decide (rkA rows i = 1) && decide (i < many)).map (rzA rows)
theorem vT {rows:List Rw} {i:Nat} {r:Rw} (h:rows[i]? = some r):rzA rows i = r.z:=by unfold rzA; rw [h]; rfl
theorem wG {rows:List Rw} {i:Nat} {r:Rw} (h:rows[i]? = some r):rkA rows i = r.k:=by unfold rkA; rw [h]; rfl
theorem wZ {rows:List Rw} {many:Nat} {z:Str}:z ∈ uK rows many ↔ ∃ i r,rows[i]? = some r/\r.z = z/\(r.k = 3\/r.k = 1/\many<=i):=by
 unfold uK
 constructor
 ·intro h
  obtain ⟨i,hi,e⟩:=List.mem_map.mp h
  obtain ⟨h1,h2⟩:=List.mem_filter.mp hi
  have hl:i < rows.length:=List.mem_range.mp h1
  have hr:rows[i]? = some rows[i]:=List.getElem?_eq_getElem hl
  rw [vT hr] at e
  rw [wG hr] at h2
  simp only [Bool.or_eq_true,Bool.and_eq_true,decide_eq_true_eq] at h2
  exact ⟨i,_,hr,e,h2⟩
 ·rintro ⟨i,r,hr,e,h⟩
  refine List.mem_map.mpr ⟨i,List.mem_filter.mpr ⟨List.mem_range.mpr (List.getElem?_eq_some_iff.mp hr).1,?_⟩,by rw [vT hr]; exact e⟩
  rw [wG hr]
  simp only [Bool.or_eq_true,Bool.and_eq_true,decide_eq_true_eq]
  exact h
theorem zcx {rows:List Rw}:plN rows<=rows.length:=List.length_filter_le _ _
theorem vX {rows:List Rw} {bars:List Str} {many:Nat} {z:Str} (V1:xR rows bars):z ∈ jE rows many ↔ ∃ i r,rows[i]? = some r/\r.z = z/\r.k = 1/\i < many:=by
 unfold jE
 constructor
 ·intro h
  obtain ⟨i,hi,e⟩:=List.mem_map.mp h
  obtain ⟨h1,h2⟩:=List.mem_filter.mp hi
  have hl:i < rows.length:=Nat.lt_of_lt_of_le (List.mem_range.mp h1) zcx
  have hr:rows[i]? = some rows[i]:=List.getElem?_eq_getElem hl
  rw [vT hr] at e
  rw [wG hr] at h2
  simp only [Bool.and_eq_true,decide_eq_true_eq] at h2
  exact ⟨i,_,hr,e,h2.1,h2.2⟩
 ·rintro ⟨i,r,hr,e,h1,h2⟩
  have hp:=up V1.ok V1.ord hr
  rw [h1] at hp
  have hp:i < plN rows:=of_decide_eq_true hp.symm
  refine List.mem_map.mpr ⟨i,List.mem_filter.mpr ⟨List.mem_range.mpr hp,?_⟩,by rw [vT hr]; exact e⟩
  rw [wG hr]
  simp only [Bool.and_eq_true,decide_eq_true_eq]
  exact ⟨h1,h2⟩
theorem zgJ {rows:List Rw} {bars:List Str} {many:Nat} {z:Str} (V1:xR rows bars):(z3 rows bars many z).isSome = (decide (z ∈ bars) || (decide (z ∈ jE rows many) || (!decide (z ∈ uK rows many) && !(zy 4 0 rows).isSome))):=by
 have nd:(nms rows).Nodup:=(List.nodup_append.mp V1.nd).1
 have ul:=wR (many:=many) (z:=z) V1
 have one:∀ {i:Nat} {r:Rw},rows[i]? = some r->r.z = z->yl r.k = true->zJ (yk 0 [] rows) (.inr z) = some (.int (i:Nat)):=fun {i r} h e hb=>by
  have:=xQ hb rows 0 i [] h nd
  rw [e,Nat.zero_add] at this
  exact this
 have no:∀ b:Bool,(z3 rows bars many z = none ↔ b = false)->(z3 rows bars many z).isSome = b:=fun b h=>by
  cases e:z3 rows bars many z with
  | none=>rw [h.mp e]; rfl
  | some x=>
   cases b with
   | true=>rfl
   | false=>rw [h.mpr rfl] at e; cases e
 refine no _ (ul.trans ?_)
 simp only [Bool.or_eq_false_iff,Bool.and_eq_false_imp,decide_eq_false_iff_not,Bool.not_eq_true',Bool.not_eq_false']
 constructor
 ·rintro ⟨hb,⟨h1,h2⟩ | ⟨l,r,h1,h2,h3,h4⟩⟩
  ·refine ⟨hb,fun c=>?_,fun _=>h2⟩
   obtain ⟨i,r,hr,e,hk,_⟩:=(vX V1).mp c
   rw [one hr e (by rw [hk]; rfl)] at h1
   cases h1
  ·have hz:r.z = z:=by
    obtain ⟨l',r',hl',hb',he'⟩:=jd (show z ∈ nms rows from Classical.byContradiction fun c=>by rw [xP rows 0 [] c] at h1; cases h1)
    have:=one hl' he' hb'
    rw [h1] at this
    have:l = l':=by have:=V.int.inj (Option.some.inj this); omega
    subst this
    rw [h2] at hl'
    cases hl'
    exact he'
   refine ⟨hb,fun c=>?_,fun c=>?_⟩
   ·obtain ⟨i,r',hr,e,hk,hi⟩:=(vX V1).mp c
    have:=one hr e (by rw [hk]; rfl)
    rw [h1] at this
    have:l = i:=by have:=V.int.inj (Option.some.inj this); omega
    subst this
    rw [h2] at hr
    cases hr
    exact absurd ⟨hk,hi⟩ h4
   ·exfalso
    refine c (wZ.mpr ⟨l,r,h2,hz,?_⟩)
    have:r.k = 1\/r.k = 3:=by
     unfold yl at h3
     simpa using h3
    rcases this with h | h
    ·exact .inr ⟨h,Nat.le_of_not_lt fun c=>h4 ⟨h,c⟩⟩
    ·exact .inl h
 ·rintro ⟨hb,h1,h2⟩
  refine ⟨hb,?_⟩
  by_cases c:z ∈ uK rows many
  ·obtain ⟨i,r,hr,e,hk⟩:=wZ.mp c
   have hbn:yl r.k = true:=by rcases hk with h | h <;> (try rw [h]) <;> (try rw [h.1]) <;> rfl
   exact .inr ⟨i,r,one hr e hbn,hr,hbn,fun d=>by rcases hk with h | h <;> omega⟩
  ·refine .inl ⟨?_,h2 c⟩
   have:z ∉ nms rows:=fun hm=>by
    obtain ⟨l,r,hl,hbn,he⟩:=jd hm
    have:r.k = 1\/r.k = 3:=by
     unfold yl at hbn
     simpa using hbn
    rcases this with h | h
    ·by_cases d:l < many
     ·exact h1 ((vX V1).mpr ⟨l,r,hl,he,h,d⟩)
     ·exact c (wZ.mpr ⟨l,r,hl,he,.inr ⟨h,Nat.le_of_not_lt d⟩⟩)
    ·exact c (wZ.mpr ⟨l,r,hl,he,.inl h⟩)
   rw [xP rows 0 [] this]
   rfl
theorem zbO {w:Nat} {names:List Str} {r:Rw} {rows:List Rw} {i:Nat} (h:rows[i]? = some r):yY w names 0 (rows.take (i + 1)) = yY w names 0 (rows.take i) + (if xi w names i r = true then 1 else 0):=by
 have:=vn (many:=w) (fk:=kvP (fpZ names)) rows 0 i h
 rw [<- vH,<- vH,this,List.length_append,Nat.zero_add,wz]
 unfold xi
 split <;> rfl
theorem zcM {rows:List Rw} {many:Nat} (hok:∀ r ∈ rows,r.ok) (ho:yF 0 rows = true):yA rows<=many ↔ ∀ i r,rows[i]? = some r->r.k = 0->r.b = false->i < many:=by
 unfold yA
 rw [jq]
 constructor
 ·intro h i r hr hk hb
  have hp:=up hok ho hr
  rw [hk] at hp
  refine h i r (of_decide_eq_true hp.symm) hr ?_
  unfold yr yL fr
  rw [hk,hb]
  rfl
 ·intro h i r hi hr nr
  have hp:=up hok ho hr
  rw [decide_eq_true hi] at hp
  unfold yr yL at nr
  rw [Bool.and_eq_true] at nr
  by_cases hk:r.k = 0
  ·refine h i r hr hk ?_
   have:=nr.1
   unfold fr at this
   rw [hk] at this
   cases hb:r.b with
   | false=>rfl
   | true=>rw [hb] at this; cases this
  ·exfalso
   have h1:r.k = 1:=by
    have e:∀ k:Nat,k < 5->y0 k = true->k = 0\/k = 1:=by decide +kernel
    exact (e r.k (hok r (List.mem_of_getElem? hr)).1 hp).resolve_left hk
   have hm:r.z ∈ nms rows:=List.mem_map.mpr ⟨r,List.mem_filter.mpr ⟨List.mem_of_getElem? hr,by rw [h1]; rfl⟩,rfl⟩
   have:=nr.2
   rw [h1,decide_eq_true hm] at this
   cases this
def zcn:Sp:=fun vs H Q _=>∃ (la lb ln:Addr) (many:Nat) (us:List Addr) (rows:List Rw) (bars names:List Str),vs = [.ref la,.ref lb,.int (many:Nat),.ref ln]/\H la = some (.lst (us.map V.ref))/\Paired (TAt H) us rows/\xR rows bars/\H lb = some (.lst (bars.map V.str))/\H ln = some (.lst (names.map V.str))/\names.length<=60/\
 (¬ (yA rows<=many/\Vw rows many)->∀ H',zm H H'->Q .non H')/\((yA rows<=many/\Vw rows many)->∀ H',zm H H'->Q (.int ((z7 rows bars many names).length:Nat)) H')
structure zjW (mg:Str->Option Value):Prop where
 len:mg "len" = none
 set:mg "set" = none
 range:mg "range" = none
 sorted:mg "sorted" = none
section
variable {P:Program} {w:World} {K:Frag} {mg:Str->Option Value} {base:Heap} {f CF:Addr} {fd:FuncData} {c:C5} {m:MA}
theorem zeX:([Str.ofString "_law_p",Str.ofString "_law_many",Str.ofString "_law_specs_here",Str.ofString "_law_words"]:List Str).Nodup:=by decide +kernel
theorem zjJ:([Str.ofString "_law_name_here",Str.ofString "_law_names"]:List Str).Nodup:=by decide +kernel
theorem xg:zt ["_law_specs_here","_law_shut","_law_many","_law_names","_law_words","_law_places","_law_wanted","_law_p","_law_here","_law_takers","_law_taken","_law_bad","_law_name_here"] ["_law_specs_here","_law_shut","_law_many","_law_names"] (zh zbz):=⟨rfl,rfl,rfl,by decide +kernel,rfl,by decide +kernel,by decide +kernel⟩
theorem zeU (F:Fun K "_law_count" "_law_count" zbz f fd) (U:zjW mg):zA P w K mg base CX0 1 f fd ["_law_specs_here","_law_shut","_law_many","_law_names"] zcn:=by
 refine F.ok xg (fun vs H Q E h=>?_) (fun cdv A outer s H vs Q E hr h=>?_)
 ·obtain ⟨la,lb,ln,many,us,rows,bars,names,rfl,_⟩:=h
  rfl
 obtain ⟨la,lb,ln,many,us,rows,bars,names,rfl,hla,hu,V1,hlb,hln,n60,qn,qy⟩:=h
 have l24:=V1.l24
 have hok:=V1.ok
 have lu:us.length = rows.length:=hu.length
 have lpl:plN rows<=rows.length:=zcx
 refine zv (zw (i:=4) xg.nd rfl (Or.inr rfl) (xz [] ["_law_one"] [none] rfl ⟨rfl,rfl,rfl,rfl⟩ (zU (pv 0)) (zM 0) rfl rfl rfl
   (fun pins fp s H C=>⟨zk (i:=0) zeY rfl (Or.inl rfl) (.inr rfl),yB,zo (r:=jy K) zF (pv 0) ze (fun _ _=>rfl)⟩))) ?_
 refine ⟨_,rfl,la,rfl,⟨_,SqL.of hla⟩,fun D hD=>?_⟩
 refine jg (K:=K) TAt (fun _=>true) (fun _ r=>.str (kw r.k)) hD hla hu (by omega) (fun i u r H' N S hu' hr' tr sH n1 s1=>?_) (fun H1 s1 e1=>?_)
 ·exact ⟨fun _=>⟨_,rfl,u,_,0,_,rfl,rfl,SqT.of (sH _ _ tr),qD (hok r (List.mem_of_getElem? hr')),n1 _ (zm.refl _) rfl⟩,fun e=>Bool.noConfusion e⟩
 rw [uB hu (fun _=>true) (fun r=>V.str (kw r.k)),List.filter_eq_self.mpr (fun _ _=>rfl)] at e1
 have eW:rows.map (fun r=>V.str (kw r.k)) = (rows.map fun r=>kw r.k).map V.str:=by rw [List.map_map]; rfl
 have flW:(rows.map (fun r=>V.str (kw r.k))).all yZ = true:=by rw [eW]; exact yi
 have wAt:∀ {p:Nat} {r:Rw},rows[p]? = some r->atI (rows.map (fun r=>V.str (kw r.k))) (p:Int) = some (.str (kw r.k)):=fun {p r} h=>y8 (by rw [List.getElem?_map,h]; rfl)
 have hus3:∀ {p:Nat} {r:Rw} {H':Hp},rows[p]? = some r->zm H H'->∃ u,atI (us.map V.ref) (p:Int) = some (.ref u)/\SqT K H' u (rv r):=fun {p r H'} hp s=>by
  have hpu:p < us.length:=by rw [lu]; exact (List.getElem?_eq_some_iff.mp hp).1
  obtain ⟨r',hr',tr⟩:=yw hu (List.getElem?_eq_getElem hpu)
  rw [hp] at hr'
  cases hr'
  exact ⟨us[p],y8 (by rw [List.getElem?_map,List.getElem?_eq_getElem hpu]; rfl),SqT.of (s _ _ tr)⟩
 have ekb:∀ k:Nat,k < 5->decide (V.str (kw k) = V.str "both") = decide (k = 1):=by decide +kernel
 have ekt:∀ k:Nat,k < 5->decide (V.str (kw k) = V.str "tag") = decide (k = 3):=by decide +kernel
 have eks:∀ k:Nat,k < 5->decide (V.str (kw k) = V.str "seat") = decide (k = 0):=by decide +kernel
 have esb:∀ k:Nat,k < 5->inV (.str (kw k)) [.str "seat",.str "both"] = (decide (k = 0) || decide (k = 1)):=by decide +kernel
 have etb:∀ k:Nat,k < 5->(!inV (.str (kw k)) [.str "tail",.str "bag"]) = !(decide (k = 2) || decide (k = 4)):=by decide +kernel
 dsimp only [zB]
 refine zv (zw (i:=5) xg.nd rfl (Or.inl rfl) (zq yc (yD PySem.F.plainAttrs_list PySem.F.slot_list_count PySem.F.type_list_count wY (pv 4) (ac zn zb)) (yD PySem.F.plainAttrs_list PySem.F.slot_list_count PySem.F.type_list_count wY (pv 4) (ac zn zb)))) ?_
 refine ⟨_,rfl,.inl ⟨rfl,_,SqL.of e1⟩,D,_,_,rfl,rfl,e1,rfl,flW,_,rfl,.inl ⟨rfl,_,SqL.of e1⟩,D,_,_,rfl,rfl,e1,rfl,flW,_,_,rfl,rfl,?_⟩
 have cp:=zb0 hok
 have ec:(((rows.map fun r=>V.str (kw r.k)).countP fun z=>eqV z (.str "seat"):Nat):Int) + (((rows.map fun r=>V.str (kw r.k)).countP fun z=>eqV z (.str "both"):Nat):Int) = ((plN rows:Nat):Int):=by omega
 rw [ec]
 clear ec cp
 dsimp only [zB]
 refine zv (zw (i:=6) xg.nd rfl (Or.inl rfl) (zT zb)) ?_
 refine ⟨zz0,fun lw hlw=>?_⟩
 have s2:=zc hlw (.lst [])
 have g2:upd H1 lw (.lst []) lw = some (.lst []):=za
 have nlw:H lw = none:=s1.free hlw
 have s02:=s1.trans s2
 have e2:=s2 _ _ e1
 have nDw:D ≠ lw:=zf e1 hlw
 dsimp only [zB]
 generalize upd H1 lw (.lst []) = H2 at s2 g2 s02 e2 |-
 refine zv (yn PassesOwn.never rfl (yv rfl U.range (ac (cB zH U.len PySem.boot_len (ac (pv 0) zb)) zb)) (zk (i:=7) xg.nd rfl (Or.inl rfl)) y7) ?_
 refine ⟨_,rfl,la,_,rfl,.inl (SqL.of (s02 _ _ hla)),((rows.length:Nat):Int),(by rw [List.length_map,lu]),by omega,by omega,?_⟩
 rw [show ((rows.length:Nat):Int).toNat = rows.length from rfl]
 refine xH (n:=rows.length) (fun i σ H'=>∃ (v7 v8:Option V) (ws:List Str),σ = [some (.ref la),some (.ref lb),some (.int (many:Nat)),some (.ref ln),some (.ref D),some (.int (plN rows:Nat)),some (.ref lw),v7,v8,none,none,none,none]/\zm H H'/\H' D = some (.lst (rows.map fun r=>V.str (kw r.k)))/\H' lw = some (.lst (ws.map V.str))/\ws.length<=i/\(ws.countP fun z=>!decide (z ∈ names)) = yY many names 0 (rows.take i)/\∀ j r,j < i->rows[j]? = some r->r.k = 0->r.b = false->j < many) ⟨_,_,[],rfl,s02,e2,g2,Nat.le_refl _,rfl,fun j r hj=>absurd hj (Nat.not_lt_zero _)⟩ ?_ ?_
 ·rintro i σ H3 hi ⟨v7,v8,ws,rfl,s3,eD,ew,lw',cw,fw⟩
  rw [Int.zero_add]
  dsimp only [zB]
  obtain ⟨r,hr'⟩:∃ r,rows[i]? = some r:=⟨_,List.getElem?_eq_getElem hi⟩
  have rok:=hok r (List.mem_of_getElem? hr')
  have ll:xi many names i r = _:=zaM (names:=names) (i:=i) (many:=many) rok.1
  have sn:=zbO (w:=many) (names:=names) hr'
  have step:∀ {H':Hp} {v7 v8:Option V},zm H H'->H' D = some (.lst (rows.map fun r=>V.str (kw r.k)))->H' lw = some (.lst (ws.map V.str))->xi many names i r = false->(r.k = 0->r.b = false->i < many)->∃ (v7' v8':Option V) (ws':List Str),([some (.ref la),some (.ref lb),some (.int (many:Nat)),some (.ref ln),some (.ref D),some (.int (plN rows:Nat)),some (.ref lw),v7,v8,none,none,none,none]:L2.St) = [some (.ref la),some (.ref lb),some (.int (many:Nat)),some (.ref ln),some (.ref D),some (.int (plN rows:Nat)),some (.ref lw),v7',v8',none,none,none,none]/\zm H H'/\H' D = some (.lst (rows.map fun r=>V.str (kw r.k)))/\H' lw = some (.lst (ws'.map V.str))/\ws'.length<=i + 1/\(ws'.countP fun z=>!decide (z ∈ names)) = yY many names 0 (rows.take (i + 1))/\∀ j r,j < i + 1->rows[j]? = some r->r.k = 0->r.b = false->j < many:=fun s a b lb' fk=>⟨_,_,ws,rfl,s,a,b,by omega,by rw [sn,lb',cw]; rfl,fun j r2 hj hr2=>by
   rcases Nat.lt_or_ge j i with c | c
   ·exact fw j r2 c hr2
   ·have:j = i:=by omega
    subst this
    rw [hr'] at hr2
    cases hr2
    exact fk⟩
  refine zv (zw (i:=8) xg.nd rfl (Or.inl rfl) (qH (yM yK (zo zx (pv 4) (pv 7) (fun _ _=>rfl)) (zE (ac zn (ac zn zb))) (by with_unfolding_all rfl)) (zbD (yM xZ (pv 7) (pv 2) (zr _))))) ?_
  refine y6 (fun σ' H'=>σ' = [some (.ref la),some (.ref lb),some (.int (many:Nat)),some (.ref ln),some (.ref D),some (.int (plN rows:Nat)),some (.ref lw),some (.int (i:Nat)),some (.bl ((decide (r.k = 0) || decide (r.k = 1)) && decide (i < many))),none,none,none,none]/\zm H3 H') ?_ (fun key=>?_)
  rotate_left
  ·refine ⟨_,rfl,_,rfl,D,_,_,_,rfl,rfl,SqL.of eD,wAt hr',zz2,fun tt htt=>?_⟩
   have s4:=zc htt (.tup [.str "seat",.str "both"])
   refine ⟨tt,_,rfl,.inr (SqT.of za),rfl,rfl,_,rfl,?_⟩
   rw [if_neg Bool.false_ne_true,esb r.k rok.1]
   cases hsb:(decide (r.k = 0) || decide (r.k = 1)) with
   | false=>
    refine ym ?_
    exact key _ _ ⟨by rw [hsb]; rfl,s4⟩
   | true=>
    refine yT ?_
    refine ⟨_,rfl,_,rfl,_,_,rfl,rfl,?_⟩
    refine key _ _ ⟨?_,s4⟩
    rw [hsb,Bool.true_and]
    have:decide (((i:Nat):Int) < ((many:Nat):Int)) = decide (i < many):=decide_eq_decide.mpr (by omega)
    rw [this]
    rfl
  rintro σ H4 ⟨rfl,s4⟩
  have s04:=s3.trans s4
  have eD4:=s4 _ _ eD
  have ew4:=s4 _ _ ew
  obtain ⟨u,au,tu⟩:=hus3 hr' s04
  refine ⟨_,zd (zD (PW.pt (yb (zi zP (zo zx (pv 4) (pv 7) (fun _ _=>rfl)) (zE (ac zn (ac zn zb))) (by with_unfolding_all rfl)) (yb (xy (yz (zo zF (zo zx (pv 0) (pv 7) (fun _ _=>rfl)) ze (fun _ _=>rfl)))) (z4 (xy (yz (pv 8))))))) (zj (zD (zi z5 (zo zx (pv 4) (pv 7) (fun _ _=>rfl)) zn (zr _)) (zd (zp uZ)) zu) (zd (zI (yD PySem.F.plainAttrs_list PySem.F.slot_list_append PySem.F.type_list_append zL (pv 6) (ac (zo zF (zo zx (pv 0) (pv 7) (fun _ _=>rfl)) ze (fun _ _=>rfl)) zb))))) zu),?_⟩
  refine ⟨_,rfl,_,rfl,D,_,_,_,rfl,rfl,SqL.of eD4,wAt hr',zz2,fun tt htt=>?_⟩
  have s5:=zc htt (.tup [.str "tail",.str "bag"])
  have s05:=s04.trans s5
  have eD5:=s5 _ _ eD4
  have ew5:=s5 _ _ ew4
  have tu5:=s5.sqT tu
  refine ⟨tt,_,rfl,.inr (SqT.of za),rfl,rfl,_,rfl,?_⟩
  generalize upd H4 tt (.tup [.str "tail",.str "bag"]) = H5 at s5 s05 eD5 ew5 tu5 |-
  rw [if_pos rfl,etb r.k rok.1]
  by_cases hk:(decide (r.k = 2) || decide (r.k = 4)) = true
  ·refine yp (by rw [hk]; rfl) ?_
   refine ym ?_
   exact step s05 eD5 ew5 (by rw [ll,hk]; rfl) (fun h0=>by rw [h0] at hk; cases hk)
  have hk':(decide (r.k = 2) || decide (r.k = 4)) = false:=by simpa using hk
  have hk3:r.k = 0\/r.k = 1\/r.k = 3:=by
   have:=rok.1
   simp only [Bool.or_eq_false_iff,decide_eq_false_iff_not] at hk'
   omega
  rw [hk'] at ll
  refine yU (by rw [hk']; rfl) ?_
  refine ⟨_,rfl,_,rfl,la,_,_,_,rfl,rfl,SqL.of (s05 _ _ hla),au,u,_,2,_,rfl,rfl,tu5,zcv hk3,_,rfl,?_⟩
  cases hb:r.b with
  | true=>
   refine ym ?_
   exact step s05 eD5 ew5 (by rw [ll,hb]; rfl) (fun _ h=>by rw [hb] at h; cases h)
  | false=>
   rw [hb] at ll
   refine yT ?_
   refine ⟨_,rfl,_,rfl,?_⟩
   have e3:(!decide (r.k = 3)) = (decide (r.k = 0) || decide (r.k = 1)):=by rcases hk3 with h | h | h <;> rw [h] <;> rfl
   rw [e3] at ll
   cases hh:((decide (r.k = 0) || decide (r.k = 1)) && decide (i < many)) with
   | true=>
    refine ym ?_
    rw [hh] at ll
    refine step s05 eD5 ew5 (by rw [ll]; rfl) (fun _ _=>?_)
    rw [Bool.and_eq_true] at hh
    exact of_decide_eq_true hh.2
   | false=>
    rw [hh] at ll
    refine yT ?_
    refine ⟨_,rfl,_,rfl,D,_,_,_,rfl,rfl,SqL.of eD5,wAt hr',rfl,_,rfl,?_⟩
    rw [eks r.k rok.1]
    by_cases h0:r.k = 0
    ·refine yU (decide_eq_true h0) ?_
     refine qn (fun c=>?_) _ s05
     have:=(zcM hok V1.ord).mp c.1 i r hr' h0 hb
     rw [h0,decide_eq_true this] at hh
     cases hh
    refine yp (decide_eq_false h0) ?_
    refine ⟨_,rfl,.inl ⟨rfl,_,SqL.of ew5⟩,_,rfl,_,rfl,la,_,_,_,rfl,rfl,SqL.of (s05 _ _ hla),au,u,_,1,_,rfl,rfl,tu5,xq rok,lw,_,_,rfl,rfl,ew5,zG (by rw [List.length_map]; omega),?_⟩
    rw [decide_eq_false h0] at ll
    refine ⟨_,_,ws ++ [r.z],rfl,z9 s05 nlw _,by rw [zg nDw]; exact eD5,by rw [za,List.map_append]; rfl,by rw [List.length_append]; exact Nat.succ_le_succ lw',?_,fun j r2 hj hr2=>?_⟩
    ·rw [sn,ll,List.countP_append,cw]
     congr 1
     by_cases hz:r.z ∈ names
     ·simp [hz]
     ·simp [hz]
    ·rcases Nat.lt_or_ge j i with c | c
     ·exact fw j r2 c hr2
     ·have:j = i:=by omega
      subst this
      rw [hr'] at hr2
      cases hr2
      exact fun h=>absurd h h0
 rintro σ H3 ⟨v7,v8,ws,rfl,s3,eD,ew,lw',cw,fw⟩
 rw [List.take_length] at cw
 have hfew:yA rows<=many:=(zcM hok V1.ord).mpr fun i r hr'=>fw i r (List.getElem?_eq_some_iff.mp hr').1 hr'
 refine zv (zD (PW.pt (yb (zi jN (pv 2) (pv 5) (zr _)) (z4 (zi zP zn (pv 4) (by with_unfolding_all rfl))))) (zd (zp uZ)) zu) ?_
 refine y6 (fun σ' H'=>σ' = [some (.ref la),some (.ref lb),some (.int (many:Nat)),some (.ref ln),some (.ref D),some (.int (plN rows:Nat)),some (.ref lw),v7,v8,none,none,none,none]/\H3 = H'/\Vw rows many) ?_ (fun key=>?_)
 rotate_left
 ·refine ⟨_,rfl,_,rfl,_,_,rfl,rfl,_,rfl,?_⟩
  by_cases hm:plN rows < many
  ·refine dT (by show ((plN rows:Nat):Int) < (many:Nat); omega) ?_
   refine ⟨_,rfl,D,_,rfl,.inl (SqL.of eD),rfl,flW,_,rfl,?_⟩
   have e2:(if true = true then !inV (.str "tail") (rows.map fun r=>V.str (kw r.k)) else inV (.str "tail") (rows.map fun r=>V.str (kw r.k))) = !(zy 2 0 rows).isSome:=by
    rw [if_pos rfl,eW,yd,show decide (Str.ofString "tail" ∈ rows.map fun r=>kw r.k) = zbS rows 2 from wM (k:=2) (by decide) hok,qZ]
   cases ht:(zy 2 0 rows).isSome with
   | true=>
    refine yp (by rw [e2,ht]; rfl) ?_
    exact key _ _ ⟨rfl,rfl,.inl ht⟩
   | false=>
    refine yU (by rw [e2,ht]; rfl) ?_
    refine qn (fun c=>?_) _ s3
    rcases c.2 with h | h
    ·rw [ht] at h; cases h
    ·omega
  ·refine dF (by show ¬ ((plN rows:Nat):Int) < (many:Nat); omega) ?_
   refine ym ?_
   exact key _ _ ⟨rfl,rfl,.inr (by omega)⟩
 rintro σ _ ⟨rfl,rfl,vw⟩
 refine zv (vg (i:=9) ["_law_words","_law_specs_here","_law_many"] ["_law_p","_law_many","_law_specs_here","_law_words"] [none,some 2,some 0,some 4] xg.nd rfl (Or.inl rfl) rfl ⟨rfl,rfl,rfl,rfl⟩ (yv rfl U.range (ac (cB zH U.len PySem.boot_len (ac (pv 0) zb)) zb)) (zM 0) rfl rfl rfl
   (fun pins fp s H C=>⟨zk (i:=0) zeX rfl (Or.inl rfl) (.inr rfl),xr (PW.pt (wI (zi z5 (zo (r:=zbB K) zx (pv 3) (pv 0) (fun _ _=>rfl)) zn (zr _)) (x6 (PW.pt (yb (zi z5 (zo (r:=zbB K) zx (pv 3) (pv 0) (fun _ _=>rfl)) zn (zr _)) (z4 (zi ziT (pv 0) (pv 1) (zr _)))))))),zo (r:=jy K) zF (zo (r:=zbB K) zx (pv 2) (pv 0) (fun _ _=>rfl)) ze (fun _ _=>rfl)⟩)) ?_
 refine ⟨_,rfl,la,_,rfl,.inl (SqL.of (s3 _ _ hla)),((rows.length:Nat):Int),(by rw [List.length_map,lu]),by omega,by omega,fun Dt hDt=>?_⟩
 rw [show ((rows.length:Nat):Int).toNat = rows.length from rfl]
 refine qK (n:=rows.length) (fun i=>decide (rkA rows i = 3) || (decide (rkA rows i = 1) && decide (many<=i))) (fun i=>.str (rzA rows i)) hDt (by omega) (fun i H' N S hi sH n1 s1'=>?_) (fun H4 s4 e4=>?_)
 ·rw [Int.zero_add]
  obtain ⟨r,hr'⟩:∃ r,rows[i]? = some r:=⟨_,List.getElem?_eq_getElem hi⟩
  have rok:=hok r (List.mem_of_getElem? hr')
  have n1:∀ H'',zm H' H''->(decide (r.k = 3) || (decide (r.k = 1) && decide (many<=i))) = true->N (.str r.z) H'':=by rw [<- wG hr',<- vT hr']; exact n1
  have s1':∀ H'',zm H' H''->(decide (r.k = 3) || (decide (r.k = 1) && decide (many<=i))) = false->S H'':=by rw [<- wG hr']; exact s1'
  obtain ⟨u,au,tu⟩:=hus3 hr' (s3.trans sH)
  refine ⟨_,rfl,_,rfl,D,_,_,_,rfl,rfl,SqL.of (sH _ _ eD),wAt hr',rfl,_,rfl,?_⟩
  rw [ekt r.k rok.1]
  by_cases h3:r.k = 3
  ·refine yU (decide_eq_true h3) ?_
   exact ⟨fun _=>⟨_,rfl,_,rfl,la,_,_,_,rfl,rfl,SqL.of ((s3.trans sH) _ _ hla),au,u,_,1,_,rfl,rfl,tu,xq rok,n1 _ (zm.refl _) (by rw [decide_eq_true h3]; rfl)⟩,fun e=>Bool.noConfusion e⟩
  refine yp (decide_eq_false h3) ?_
  refine ⟨_,rfl,_,rfl,D,_,_,_,rfl,rfl,SqL.of (sH _ _ eD),wAt hr',rfl,_,rfl,?_⟩
  rw [ekb r.k rok.1]
  by_cases h1:r.k = 1
  ·refine yU (decide_eq_true h1) ?_
   refine ⟨_,rfl,_,rfl,_,_,rfl,rfl,_,rfl,?_⟩
   have e:decide (((many:Nat):Int)<=((i:Nat):Int)) = decide (many<=i):=decide_eq_decide.mpr (by omega)
   rw [e]
   exact ⟨fun e=>⟨_,rfl,_,rfl,la,_,_,_,rfl,rfl,SqL.of ((s3.trans sH) _ _ hla),au,u,_,1,_,rfl,rfl,tu,xq rok,n1 _ (zm.refl _) (by rw [e,decide_eq_true h1]; simp)⟩,fun e=>s1' _ (zm.refl _) (by rw [e,decide_eq_false h3]; simp)⟩
  refine yp (decide_eq_false h1) ?_
  exact ⟨fun e=>Bool.noConfusion e,fun _=>s1' _ (zm.refl _) (by rw [decide_eq_false h3,decide_eq_false h1]; rfl)⟩
 have e4:H4 Dt = some (.lst ((uK rows many).map V.str)):=by rw [e4]; unfold uK; rw [List.map_map]; rfl
 have s04:=s3.trans s4
 have eD4:=s4 _ _ eD
 dsimp only [zB]
 refine zv (vg (i:=10) ["_law_words","_law_specs_here","_law_many"] ["_law_p","_law_many","_law_specs_here","_law_words"] [none,some 2,some 0,some 4] xg.nd rfl (Or.inl rfl) rfl ⟨rfl,rfl,rfl,rfl⟩ (yv rfl U.range (ac (pv 5) zb)) (zM 0) rfl rfl rfl
   (fun pins fp s H C=>⟨zk (i:=0) zeX rfl (Or.inl rfl) (.inr rfl),xr (PW.pt (yb (zi z5 (zo (r:=zbB K) zx (pv 3) (pv 0) (fun _ _=>rfl)) zn (zr _)) (z4 (zi xZ (pv 0) (pv 1) (zr _))))),zo (r:=jy K) zF (zo (r:=zbB K) zx (pv 2) (pv 0) (fun _ _=>rfl)) ze (fun _ _=>rfl)⟩)) ?_
 refine ⟨_,rfl,((plN rows:Nat):Int),rfl,by omega,by omega,fun Dk hDk=>?_⟩
 rw [show ((plN rows:Nat):Int).toNat = plN rows from rfl]
 refine qK (n:=plN rows) (fun i=>decide (rkA rows i = 1) && decide (i < many)) (fun i=>.str (rzA rows i)) hDk (by omega) (fun i H' N S hi sH n1 s1'=>?_) (fun H5 s5 e5=>?_)
 ·rw [Int.zero_add]
  obtain ⟨r,hr'⟩:∃ r,rows[i]? = some r:=⟨_,List.getElem?_eq_getElem (by omega)⟩
  have rok:=hok r (List.mem_of_getElem? hr')
  have n1:∀ H'',zm H' H''->(decide (r.k = 1) && decide (i < many)) = true->N (.str r.z) H'':=by rw [<- wG hr',<- vT hr']; exact n1
  have s1':∀ H'',zm H' H''->(decide (r.k = 1) && decide (i < many)) = false->S H'':=by rw [<- wG hr']; exact s1'
  obtain ⟨u,au,tu⟩:=hus3 hr' (s04.trans sH)
  refine ⟨_,rfl,_,rfl,D,_,_,_,rfl,rfl,SqL.of (sH _ _ eD4),wAt hr',rfl,_,rfl,?_⟩
  rw [ekb r.k rok.1]
  by_cases h1:r.k = 1
  ·refine yU (decide_eq_true h1) ?_
   refine ⟨_,rfl,_,rfl,_,_,rfl,rfl,_,rfl,?_⟩
   have e:decide (((i:Nat):Int) < ((many:Nat):Int)) = decide (i < many):=decide_eq_decide.mpr (by omega)
   rw [e]
   exact ⟨fun e=>⟨_,rfl,_,rfl,la,_,_,_,rfl,rfl,SqL.of ((s04.trans sH) _ _ hla),au,u,_,1,_,rfl,rfl,tu,xq rok,n1 _ (zm.refl _) (by rw [e,decide_eq_true h1]; rfl)⟩,fun e=>s1' _ (zm.refl _) (by rw [e]; simp)⟩
  refine yp (decide_eq_false h1) ?_
  exact ⟨fun e=>Bool.noConfusion e,fun _=>s1' _ (zm.refl _) (by rw [decide_eq_false h1]; rfl)⟩
 have e5:H5 Dk = some (.lst ((jE rows many).map V.str)):=by rw [e5]; unfold jE; rw [List.map_map]; rfl
 have s05:=s04.trans s5
 have eD5:=s5 _ _ eD4
 have e4:=s5 _ _ e4
 have ew5:=(s4.trans s5) _ _ ew
 dsimp only [zB]
 refine zv (zw (i:=11) xg.nd rfl (Or.inl rfl) ze) ?_
 refine zv (yn PassesOwn.never rfl (zU (cB (qX rfl) U.sorted boot_sorted (ac (cTy (ug rfl) U.set PyProof.Rows.boot_set (ac (pv 3) zb)) zb))) (zk (i:=12) xg.nd rfl (Or.inl rfl)) y7) ?_
 refine ⟨_,rfl,ln,names,rfl,SqL.of (s05 _ _ hln),by omega,fun l6 n6 hl6=>?_⟩
 have s6:=zc hl6 (vt P w l6 (fun z=>decide (z ∈ names)) n6)
 refine ⟨l6,names,n6,rfl,za,by omega,fun ly ys hly nd hm=>?_⟩
 have dy:zab names (uN ys):=⟨(vk ys).nodup_iff.mpr nd,fun z=>(vk ys).mem_iff.trans (hm z)⟩
 obtain ⟨zs,hzs⟩:∃ zs,zs = uN ys:=⟨_,rfl⟩
 rw [<- hzs] at dy |-
 have s57:=s6.trans (zc hly (.lst (zs.map V.str)))
 have g7:upd (upd H5 l6 (vt P w l6 (fun z=>decide (z ∈ names)) n6)) ly (.lst (zs.map V.str)) ly = some (.lst (zs.map V.str)):=za
 refine ⟨ly,rfl,⟨_,SqL.of g7⟩,yJ (K:=K) (a:=ly) (xs:=zs.map V.str) (fun i σ H'=>∃ (v12:Option V),σ = [some (.ref la),some (.ref lb),some (.int (many:Nat)),some (.ref ln),some (.ref D),some (.int (plN rows:Nat)),some (.ref lw),v7,v8,some (.ref Dt),some (.ref Dk),some (.int (xT rows bars many (zs.take i):Nat)),v12]/\zm H5 H'/\H' ly = some (.lst (zs.map V.str))) ⟨_,rfl,s57,g7⟩ (fun i σ H' _ ⟨_,_,_,e⟩=>SqL.of e) ?_ ?_⟩
 ·rintro i x σ H7 hx ⟨v12,rfl,s57,g7⟩
  have s07:=s05.trans s57
  have eD7:=s57 _ _ eD5
  have et7:=s57 _ _ e4
  have ek7:=s57 _ _ e5
  obtain ⟨z,hz,rfl⟩:=strs_at hx
  have eB:(if true = true then !inV (.str "bag") (rows.map fun r=>V.str (kw r.k)) else inV (.str "bag") (rows.map fun r=>V.str (kw r.k))) = !(zy 4 0 rows).isSome:=by
   rw [if_pos rfl,eW,yd,show decide (Str.ofString "bag" ∈ rows.map fun r=>kw r.k) = zbS rows 4 from wM (k:=4) (by decide) hok,qZ]
  have bl:=zgJ (many:=many) (z:=z) V1
  have et:xT rows bars many (zs.take (i + 1)) = xT rows bars many (zs.take i) + (if (z3 rows bars many z).isSome = true then 1 else 0):=by
   unfold xT
   rw [wp hz,List.countP_append,List.countP_singleton]
  have isB:(z3 rows bars many z).isSome = true->∃ v12',([some (.ref la),some (.ref lb),some (.int (many:Nat)),some (.ref ln),some (.ref D),some (.int (plN rows:Nat)),some (.ref lw),v7,v8,some (.ref Dt),some (.ref Dk),some (.int (((xT rows bars many (zs.take i):Nat):Int) + 1)),some (.str z)]:L2.St) = [some (.ref la),some (.ref lb),some (.int (many:Nat)),some (.ref ln),some (.ref D),some (.int (plN rows:Nat)),some (.ref lw),v7,v8,some (.ref Dt),some (.ref Dk),some (.int (xT rows bars many (zs.take (i + 1)):Nat)),v12']/\zm H5 H7/\H7 ly = some (.lst (zs.map V.str)):=fun h=>⟨some (.str z),by rw [et,if_pos h]; rfl,s57,g7⟩
  have noB:(z3 rows bars many z).isSome = false->∃ v12',([some (.ref la),some (.ref lb),some (.int (many:Nat)),some (.ref ln),some (.ref D),some (.int (plN rows:Nat)),some (.ref lw),v7,v8,some (.ref Dt),some (.ref Dk),some (.int (xT rows bars many (zs.take i):Nat)),some (.str z)]:L2.St) = [some (.ref la),some (.ref lb),some (.int (many:Nat)),some (.ref ln),some (.ref D),some (.int (plN rows:Nat)),some (.ref lw),v7,v8,some (.ref Dt),some (.ref Dk),some (.int (xT rows bars many (zs.take (i + 1)):Nat)),v12']/\zm H5 H7/\H7 ly = some (.lst (zs.map V.str)):=fun h=>⟨some (.str z),by rw [et,h]; rfl,s57,g7⟩
  dsimp only [zB]
  refine ⟨_,zd (zD (PW.pt (wI (zi yK (pv 12) (pv 1) (by with_unfolding_all rfl)) (wI (zi yK (pv 12) (pv 10) (by with_unfolding_all rfl)) (x6 (PW.pt (yb (zi zP (pv 12) (pv 9) (by with_unfolding_all rfl)) (z4 (zi zP zn (pv 4) (by with_unfolding_all rfl))))))))) (zd (zw (i:=11) xg.nd rfl (Or.inl rfl) (zq yc (pv 11) ze))) zu),?_⟩
  refine ⟨_,rfl,_,rfl,lb,_,rfl,.inl (SqL.of (s07 _ _ hlb)),rfl,yi,_,rfl,?_⟩
  by_cases h1:z ∈ bars
  ·refine yU (by rw [if_neg Bool.false_ne_true,yd,decide_eq_true h1]) ?_
   refine yT ?_
   exact ⟨_,rfl,_,_,rfl,rfl,isB (by rw [bl,decide_eq_true h1]; rfl)⟩
  refine yp (by rw [if_neg Bool.false_ne_true,yd,decide_eq_false h1]) ?_
  rw [decide_eq_false h1,Bool.false_or] at bl
  refine ⟨_,rfl,_,rfl,Dk,_,rfl,.inl (SqL.of ek7),rfl,yi,_,rfl,?_⟩
  by_cases h2:z ∈ jE rows many
  ·refine yU (by rw [if_neg Bool.false_ne_true,yd,decide_eq_true h2]) ?_
   refine yT ?_
   exact ⟨_,rfl,_,_,rfl,rfl,isB (by rw [bl,decide_eq_true h2]; rfl)⟩
  refine yp (by rw [if_neg Bool.false_ne_true,yd,decide_eq_false h2]) ?_
  rw [decide_eq_false h2,Bool.false_or] at bl
  refine ⟨_,rfl,_,rfl,Dt,_,rfl,.inl (SqL.of et7),rfl,yi,_,rfl,?_⟩
  by_cases h3:z ∈ uK rows many
  ·refine yp (by rw [if_pos rfl,yd,decide_eq_true h3]; rfl) ?_
   refine ym ?_
   exact noB (by rw [bl,decide_eq_true h3]; rfl)
  refine yU (by rw [if_pos rfl,yd,decide_eq_false h3]; rfl) ?_
  rw [decide_eq_false h3] at bl
  refine ⟨_,rfl,D,_,rfl,.inl (SqL.of eD7),rfl,flW,_,rfl,?_⟩
  cases h4:(zy 4 0 rows).isSome with
  | false=>
   refine yU (by rw [eB,h4]; rfl) ?_
   exact ⟨_,rfl,_,_,rfl,rfl,isB (by rw [bl,h4]; rfl)⟩
  | true=>
   refine yp (by rw [eB,h4]; rfl) ?_
   exact noB (by rw [bl,h4]; rfl)
 rintro σ H7 ⟨v12,rfl,s57,g7⟩
 have s07:=s05.trans s57
 have ew7:=s57 _ _ ew5
 rw [List.length_map,List.take_length]
 refine ⟨_,zd (zp (zq xL (zq yc (zq yc (pv 11) (cB zH U.len PySem.boot_len (ac (xz ["_law_names"] ["_law_name_here","_law_names"] [none,some 3] rfl ⟨rfl,rfl,rfl,rfl⟩ (zU (pv 6)) (zM 0) rfl rfl rfl
   (fun pins fp s H C=>⟨zk (i:=0) zjJ rfl (Or.inl rfl) (.inr rfl),xr (zi (r:=rIn K true) zP (pv 0) (pv 1) (by with_unfolding_all rfl)),pv 0⟩)) zb))) (cB zH U.len PySem.boot_len (ac (pv 3) zb))) (cB zdG U.len PySem.boot_len (ac (cTy (ug rfl) U.set PyProof.Rows.boot_set (ac (pv 3) zb)) zb)))),?_⟩
 refine ⟨_,rfl,_,rfl,lw,rfl,⟨_,SqL.of ew7⟩,fun Dw hDw=>?_⟩
 refine qL (K:=K) (xs:=ws.map V.str) ws (fun z=>!decide (z ∈ names)) V.str hDw (SqL.of ew7) (by rw [List.length_map]) (by rw [List.length_map]; omega) (fun i x y H' N S hx hy sH n1 s1'=>?_) (fun H8 s8 e8=>?_)
 ·rw [List.getElem?_map,hy] at hx
  have hx:V.str y = x:=Option.some.inj hx
  subst hx
  refine ⟨_,rfl,_,rfl,ln,_,rfl,.inl (SqL.of ((s07.trans sH) _ _ hln)),rfl,yi,_,rfl,?_⟩
  rw [if_pos rfl,yd]
  exact ⟨fun e=>⟨_,rfl,n1 _ (zm.refl _) e⟩,fun e=>s1' _ (zm.refl _) e⟩
 have s08:=s07.trans s8
 refine ⟨Dw,_,rfl,.inl (SqL.of e8),_,_,rfl,rfl,_,rfl,ln,_,rfl,.inl (SqL.of (s08 _ _ hln)),_,_,rfl,rfl,_,rfl,ln,names,rfl,SqL.of (s08 _ _ hln),by omega,fun l9 n9 hl9=>?_⟩
 have s9:=zc hl9 (vt P w l9 (fun z=>decide (z ∈ names)) n9)
 refine ⟨l9,names,n9,rfl,za,fun hn=>?_⟩
 refine ⟨_,_,rfl,rfl,?_⟩
 have hq:=qy ⟨hfew,vw⟩ _ (s08.trans s9)
 have ml:=xE (bars:=bars) dy vw
 have en:=hn zs dy.1 dy.2
 have ec:((ws.filter fun z=>!decide (z ∈ names)).map V.str).length = yY many names 0 rows:=by rw [List.length_map,<- cw,List.countP_eq_length_filter]
 have ev:((xT rows bars many zs:Nat):Int) + ((((ws.filter fun z=>!decide (z ∈ names)).map V.str).length:Nat):Int) + ((names.map V.str).length:Nat) - (n9:Nat) = ((z7 rows bars many names).length:Nat):=by
  rw [ec,List.length_map,en]
  omega
 rw [ev]
 exact hq
end
theorem zaO {w:Nat} {names:List Str}:∀ (rows:List Rw) (i:Nat),yY w names i rows<=rows.length
 | [],_=>Nat.le_refl _
 | r :: rs,i=>by
  have:=zaO (w:=w) (names:=names) rs (i + 1)
  unfold yY
  rw [List.length_cons]
  split <;> omega
theorem zbJ {rows:List Rw} {bars names:List Str} {w:Nat} (tl:Vw rows w):(z7 rows bars w names).length<=names.length + rows.length:=by
 have h:=xE (bars:=bars) (vL names) tl
 have h1:xT rows bars w ((fpZ names).map (·.1))<=((fpZ names).map (·.1)).length:=List.countP_le_length
 have h2:=zaO (w:=w) (names:=names) rows 0
 omega
def zci:Sp:=fun vs H Q _=>∃ (la lb ln:Addr) (many:Nat) (us:List Addr) (rows:List Rw) (bars names:List Str),vs = [.ref la,.ref lb,.int (many:Nat),.ref ln]/\H la = some (.lst (us.map V.ref))/\Paired (TAt H) us rows/\xR rows bars/\H lb = some (.lst (bars.map V.str))/\H ln = some (.lst (names.map V.str))/\names.length<=60/\many<=100/\
 ∀ (n:Nat) (H':Hp),zm H H'->(∃ w,yA rows<=w/\Vw rows w/\n = (mtF rows bars w many names).length)->(∀ w,yA rows<=w->Vw rows w->w<=rows.length + many->n<=(mtF rows bars w many names).length)->Q (.int (n:Nat)) H'
section
variable {P:Program} {w:World} {K:Frag} {mg:Str->Option Value} {base:Heap} {f CF:Addr} {fd:FuncData} {c:C5} {m:MA}
theorem wS:zt ["_law_specs_here","_law_shut","_law_many","_law_names","_law_best","_law_k","_law_count_here"] ["_law_specs_here","_law_shut","_law_many","_law_names"] (zh zbr):=⟨rfl,rfl,rfl,by decide +kernel,rfl,by decide +kernel,by decide +kernel⟩
theorem zeL {g1:Addr} {e1:FuncData} (F:Fun K "_law_least" "_law_least" zbr f fd) (hln':mg "len" = none) (hrg:mg "range" = none) (hmn:mg "min" = none) (hab:mg "abs" = none) (cC:zC P w K mg base 1 "_law_count" g1 e1 ["_law_specs_here","_law_shut","_law_many","_law_names"] zcn):zA P w K mg base CX0 2 f fd ["_law_specs_here","_law_shut","_law_many","_law_names"] zci:=by
 refine F.ok wS (fun vs H Q E h=>?_) (fun cdv A outer s H vs Q E hr h=>?_)
 ·obtain ⟨la,lb,ln,many,us,rows,bars,names,rfl,_⟩:=h
  rfl
 obtain ⟨la,lb,ln,many,us,rows,bars,names,rfl,hla,hu,V1,hlb,hln,n60,m100,q⟩:=h
 have l24:=V1.l24
 have lu:us.length = rows.length:=hu.length
 refine zv (zw (i:=4) wS.nd rfl (Or.inl rfl) (zq u9 ze ze)) ?_
 refine ⟨_,_,rfl,rfl,⟨by decide,by decide,by decide⟩,?_⟩
 rw [show (10:Int) ^ (9:Int).toNat = 1000000000 from by decide]
 dsimp only [zB]
 refine zv (yn PassesOwn.never rfl (yv rfl hrg (ac (zq yc (zq yc (cB zH hln' PySem.boot_len (ac (pv 0) zb)) (pv 2)) ze) zb)) (zk (i:=5) wS.nd rfl (Or.inl rfl)) y7) ?_
 refine ⟨_,rfl,la,_,rfl,.inl (SqL.of hla),_,rfl,_,_,rfl,rfl,_,_,rfl,rfl,((rows.length + many + 1:Nat):Int),(by rw [List.length_map,lu]; rfl),by omega,by omega,?_⟩
 rw [show ((rows.length + many + 1:Nat):Int).toNat = rows.length + many + 1 from rfl]
 refine xH (n:=rows.length + many + 1) (fun i σ H'=>∃ (b:Int) (v5 v6:Option V),σ = [some (.ref la),some (.ref lb),some (.int (many:Nat)),some (.ref ln),some (.int b),v5,v6]/\zm H H'/\((b = 1000000000/\∀ w,yA rows<=w->Vw rows w->¬ w < i)\/∃ n:Nat,b = (n:Nat)/\(∃ w,yA rows<=w/\Vw rows w/\n = (mtF rows bars w many names).length)/\∀ w,yA rows<=w->Vw rows w->w < i->n<=(mtF rows bars w many names).length)) ⟨_,_,_,rfl,zm.refl _,.inl ⟨rfl,fun _ _ _ h=>absurd h (Nat.not_lt_zero _)⟩⟩ ?_ ?_
 ·rintro i σ H2 hi ⟨b,v5,v6,rfl,s2,inv⟩
  rw [Int.zero_add]
  dsimp only [zB]
  refine zv (zw (i:=6) wS.nd rfl (Or.inl rfl) (cF cC hr (ac (pv 0) (ac (pv 1) (ac (pv 5) (ac (pv 3) zb)))))) ?_
  refine ⟨_,rfl,_,rfl,_,rfl,_,rfl,la,lb,ln,i,us,rows,bars,names,rfl,s2 _ _ hla,zK s2 hu,V1,s2 _ _ hlb,s2 _ _ hln,n60,fun no H3 s3=>?_,fun ye H3 s3=>?_⟩
  ·dsimp only [zB]
   refine ⟨_,zd (zD (zi zcD (pv 6) uZ (zr _)) (zd (zw (i:=4) wS.nd rfl (Or.inl rfl) (cB (uh rfl) hmn boot_min (ac (pv 4) (ac (zq yc (pv 6) (cB za5 hab boot_abs (ac (zq xL (pv 2) (pv 5)) zb))) zb))))) zu),?_⟩
   refine ⟨_,rfl,rfl,_,rfl,?_⟩
   refine ym ?_
   refine ⟨b,_,_,rfl,s2.trans s3,?_⟩
   rcases inv with ⟨e,h⟩ | ⟨n,e,h1,h2⟩
   ·exact .inl ⟨e,fun w a b' c=>by
     rcases Nat.lt_or_ge w i with d | d
     ·exact h w a b' d
     ·have:w = i:=by omega
      subst this
      exact no ⟨a,b'⟩⟩
   ·exact .inr ⟨n,e,h1,fun w a b' c=>by
     rcases Nat.lt_or_ge w i with d | d
     ·exact h2 w a b' d
     ·have:w = i:=by omega
      subst this
      exact absurd ⟨a,b'⟩ no⟩
  ·dsimp only [zB]
   refine ⟨_,zd (zD (zi zcD (pv 6) uZ (zr _)) (zd (zw (i:=4) wS.nd rfl (Or.inl rfl) (cB (uh rfl) hmn boot_min (ac (pv 4) (ac (zq yc (pv 6) (cB za5 hab boot_abs (ac (zq xL (pv 2) (pv 5)) zb))) zb))))) zu),?_⟩
   refine ⟨_,rfl,rfl,_,rfl,?_⟩
   refine yT ?_
   have ms:=zbJ (bars:=bars) (names:=names) ye.2
   have ml:=vm (rows:=rows) (bars:=bars) (names:=names) (w:=i) (many:=many)
   generalize hc:(z7 rows bars i names).length = cn at *
   generalize hm:(mtF rows bars i many names).length = mn at *
   refine ⟨_,rfl,_,rfl,_,rfl,_,rfl,_,_,rfl,rfl,_,rfl,_,_,rfl,rfl,_,_,rfl,?_⟩
   have ea:(if ((many:Nat):Int) - ((i:Nat):Int) < 0 then -(((many:Nat):Int) - ((i:Nat):Int)) else ((many:Nat):Int) - ((i:Nat):Int)) = (((many - i) + (i - many):Nat):Int):=by split <;> omega
   rw [ea]
   have ev:((cn:Nat):Int) + (((many - i) + (i - many):Nat):Int) = ((mn:Nat):Int):=by omega
   rw [ev]
   refine ⟨_,_,_,rfl,s2.trans s3,.inr ?_⟩
   rcases inv with ⟨e,h⟩ | ⟨n,e,⟨w0,a1,a2,a3⟩,h2⟩
   ·refine ⟨mn,by rw [e]; split <;> omega,⟨i,ye.1,ye.2,hm.symm⟩,fun w a b' c=>?_⟩
    rcases Nat.lt_or_ge w i with d | d
    ·exact absurd d (h w a b')
    ·have:w = i:=by omega
     subst this
     omega
   ·by_cases hlt:mn < n
    ·refine ⟨mn,by rw [e]; split <;> omega,⟨i,ye.1,ye.2,hm.symm⟩,fun w a b' c=>?_⟩
     rcases Nat.lt_or_ge w i with d | d
     ·have:=h2 w a b' d
      omega
     ·have:w = i:=by omega
      subst this
      omega
    ·refine ⟨n,by rw [e]; split <;> omega,⟨w0,a1,a2,a3⟩,fun w a b' c=>?_⟩
     rcases Nat.lt_or_ge w i with d | d
     ·exact h2 w a b' d
     ·have:w = i:=by omega
      subst this
      omega
 ·rintro σ H2 ⟨b,v5,v6,rfl,s2,inv⟩
  have hf:yA rows<=plN rows:=ud _ rows _
  have hp:plN rows<=rows.length:=zcx
  rcases inv with ⟨_,h⟩ | ⟨n,rfl,h1,h2⟩
  ·exact absurd (show plN rows < rows.length + many + 1 by omega) (h (plN rows) hf (.inr (Nat.le_refl _)))
  ·exact ⟨_,zd (zp (pv 4)),_,rfl,q n H2 s2 h1 fun w a b' c=>h2 w a b' (by omega)⟩
end
end K33
namespace L2
open PySem PySem.Spec PyProof.Rows
theorem zez {X:Cx}:OpR X (binaryOp .FloorDiv) (rI (fun _ j=>0 < j/\j<=2 * 10 ^ 60) fun i j=>.int (i / j)):=opI fun i j _ _ _ _ _ hc q=>by
 have h1:(0:Int) < j:=hc.1
 have h2:j<=2 * 10 ^ 60:=hc.2
 refine floordiv_int (by omega) (by rw [Int.fdiv_eq_ediv_of_nonneg i (by omega)]; exact q) (.inl (PyProof.noPylong_of_log2 ?_))
 rw [Nat.log2_lt (by omega)]
 have e:j.natAbs<=2 * 10 ^ 60:=by omega
 have:(2 * 10 ^ 60:Nat) < 2 ^ 9000:=by decide +kernel
 omega
end L2
namespace K33
open PySem L2 PyProof.Rows
def qj (K:Frag):Sp:=fun vs H Q _=>∃ (a:Addr) (ns:List Int),vs = [.ref a]/\SqL K H a (ns.map V.int)/\ns.length<=63/\(∀ m ∈ ns,Builtin.Int.intBits m<=1048576)/\∀ H',Q (.bl true) H'
structure zjT (mg:Str->Option Value):Prop where
 len:mg "len" = none
 int:mg "int" = none
 range:mg "range" = none
 min:mg "min" = none
 max:mg "max" = none
section
variable {P:Program} {w:World} {K:Frag} {mg:Str->Option Value} {base:Heap} {f CF:Addr} {fd:FuncData} {c:C5} {m:MA}
theorem zeZ:([Str.ofString "_law_name_here",Str.ofString "_law_thing_here"]:List Str).Nodup:=by decide +kernel
theorem xc:zt ["_law_script","_law_cells","_law_grown","_law_cell","_law_specs_here","_law_names","_law_shut","_law_known","_law_handed_here","_law_things","_law_pairs","_law_found","_law_many","_law_name_here","_law_change"] ["_law_script"] (zh zhM):=⟨rfl,rfl,rfl,by decide +kernel,rfl,by decide +kernel,by decide +kernel⟩
theorem zh5 {f1 f2 f3 f4 f5 f6 f7 f8 f9 f10 f11 f12 f13 f14 gF:Addr} {e1 e2 e3 e4 e5 e6 e7 e8 e9 e10 e11 e12 e13 e14 eF:FuncData} (F:Fun K "law" "law" zhM f fd) (U:zjT mg) (cHf:zC P w K mg base 3 "_law_half" f1 e1 ["_law_script"] (zd3 K)) (cN:zC P w K mg base 1 "_law_nth" f2 e2 ["_law_script","_law_k"] (qi K)) (cSp:zC P w K mg base 5 "_law_specs" f3 e3 ["_law_cells"] (zce K)) (cR:zC P w K mg base 2 "_law_rich" f4 e4 ["_law_cell"] qh) (cB':zC P w K mg base 5 "_law_bars" f5 e5 ["_law_cells","_law_specs_here"] (zcl K)) (cH:zC P w K mg base 6 "_law_handed" f6 e6 ["_law_cells","_law_known"] (zd2 K)) (cL:zC P w K mg base 1 "_law_laid" f7 e7 ["_law_items_here"] (qk K))
  (mCF:mg "Form" = some (.ref CF)) (MF:Mk K CF gF) (GF:zA P w K mg base CX0 3 gF eF ["self","parameters","bars"] (ziI c CF)) (bF:zV K eF ["self","parameters","bars"] []) (cP:zC P w K mg base 5 "parameter_of" f8 e8 ["told"] (zgX K c)) (cNe:zC P w K mg base 7 "nearest" f9 e9 ["form","call"] (zdZ K c CF)) (cNu:zC P w K mg base 1 "_law_is_number" f10 e10 ["_law_found"] zdW) (cLe:zC P w K mg base 2 "_law_least" f11 e11 ["_law_specs_here","_law_shut","_law_many","_law_names"] zci) (cNm:zC P w K mg base 4 "_law_name" f12 e12 ["_law_cell","_law_known"] (uL K)) (cTu:zC P w K mg base 1 "_law_turned" f13 e13 ["_law_many","_law_names","_law_change"] (zdV K)) (cFt:zC P w K mg base 1 "_law_fits" f14 e14 ["_law_specs_here","_law_shut","_law_many","_law_names"] zck):zA P w K mg base CX0 8 f fd ["_law_script"] (qj K):=by
 refine F.ok xc (fun vs H Q E h=>?_) (fun cdv A outer s H vs Q E hr h=>?_)
 ·obtain ⟨a,ns,rfl,_⟩:=h
  rfl
 obtain ⟨sa,ns,rfl,hS,h63,hbit,q⟩:=h
 have hr1:yq 1 _:=hr.mono (by decide)
 have hr2:yq 2 _:=hr.mono (by decide)
 have hr3:yq 3 _:=hr.mono (by decide)
 have hr4:yq 4 _:=hr.mono (by decide)
 have hr5:yq 5 _:=hr.mono (by decide)
 have hr6:yq 6 _:=hr.mono (by decide)
 have hU:=hr.units
 have hu1:=jU hr
 refine zv (zw (i:=1) xc.nd rfl (Or.inr rfl) (cF cHf hr3 (ac (pv 0) zb))) ?_
 refine ⟨_,rfl,sa,ns,rfl,hS,h63,fun cl cs H1 s1 _ hcl lcs=>?_⟩
 clear hS hbit
 dsimp only [zB]
 refine zv (zw (i:=2) xc.nd rfl (Or.inl rfl) (yM z5 (zq xm (cF cN hr1 (ac (pv 1) (ac ze zb))) ze) ze (zr _))) ?_
 refine ⟨_,rfl,cl,cs,0,rfl,SqL.of hcl,_,_,rfl,rfl,(by show (0:Int) < 8; decide),rfl,?_⟩
 generalize decide (V.int (cs.getD 0 0 % 8) = V.int 3) = fb
 dsimp only [zB]
 refine zv (zw (i:=4) xc.nd rfl (Or.inl rfl) (cF cSp hr5 (ac (zq yG (xv xW (pv 1) (yW ze) (yW ze)) (zq qI (xz [] ["_law_cell"] [none] rfl ⟨rfl,rfl,rfl,rfl⟩ (zU (xv xW (pv 1) (yW ze) (yW ze))) (zM 0) rfl rfl rfl
  (fun pins fp s H C=>⟨zk (i:=0) zi0 rfl (Or.inl rfl) (.inr rfl),yB,zq yc (zq zez (pv 0) (zq u9 ze ze)) ze⟩)) (cTy ui U.int PyProof.Rows.boot_int (ac (pv 2) zb)))) zb))) ?_
 refine ⟨_,rfl,_,rfl,_,rfl,cl,_,rfl,SqL.of hcl,fun c1 hc1=>?_⟩
 obtain ⟨ec1,lc1⟩:=zcS cs 3 23
 rw [show wB (cs.map V.int) (some 3) (some 23) = (wa cs 3 23).map V.int from ec1]
 have s2:=zc hc1 (.lst ((wa cs 3 23).map V.int))
 have g2:upd H1 c1 (.lst ((wa cs 3 23).map V.int)) c1 = some (.lst ((wa cs 3 23).map V.int)):=za
 generalize upd H1 c1 (.lst ((wa cs 3 23).map V.int)) = H2 at s2 g2 |-
 refine ⟨_,rfl,_,rfl,_,rfl,cl,_,rfl,SqL.of (s2 _ _ hcl),fun c2 hc2=>?_⟩
 obtain ⟨ec2,lc2⟩:=zcS cs 3 7
 rw [show wB (cs.map V.int) (some 3) (some 7) = (wa cs 3 7).map V.int from ec2]
 have s3:=zc hc2 (.lst ((wa cs 3 7).map V.int))
 have g3:upd H2 c2 (.lst ((wa cs 3 7).map V.int)) c2 = some (.lst ((wa cs 3 7).map V.int)):=za
 generalize upd H2 c2 (.lst ((wa cs 3 7).map V.int)) = H3 at s3 g3 |-
 refine ⟨c2,rfl,⟨_,SqL.of g3⟩,fun D hD=>?_⟩
 refine xF (K:=K) (xs:=(wa cs 3 7).map V.int) (fun i ys H'=>zm H3 H'/\H' D = some (.lst ys)/\∃ ds:List Int,ys = ds.map V.int/\ds.length = i) ⟨zc hD _,za,[],rfl,rfl⟩ (fun i ys H' h=>SqL.of (h.1 _ _ g3)) ?_ ?_
 ·rintro i x ys H' hi hx ⟨sH,hDy,ds,ey,el⟩
  obtain ⟨k,hk,rfl⟩:=vJ hx
  rw [List.length_map] at hi
  refine ⟨fun _=>⟨_,rfl,_,_,rfl,rfl,⟨by decide,by decide,by decide⟩,_,_,rfl,rfl,⟨by decide +kernel,by decide +kernel⟩,_,_,rfl,rfl,?_⟩,fun z=>absurd z (by decide)⟩
  exact lcN.mk (by rw [List.length_map]; exact hi) (by rw [List.length_map]; exact zY (by omega)) hDy (by rw [ey,List.length_map]; omega) ⟨z9 sH hD _,za,ds ++ [_],by rw [ey,List.map_append]; rfl,by rw [List.length_append,el]; rfl⟩
 rintro ys H4 ⟨s4,hD4,ds,rfl,ld⟩
 rw [List.length_map] at ld
 obtain ⟨d2,ed2,ld2⟩:∃ d2:List Int,(List.replicate (if fb = true then (1:Int) else 0).toNat (ds.map V.int)).flatten = d2.map V.int/\d2.length<=4:=by
  cases fb with
  | true=>exact ⟨ds,by show (ds.map V.int) ++ [] = _; rw [List.append_nil],by omega⟩
  | false=>exact ⟨[],rfl,by decide⟩
 refine ⟨_,rfl,.inr ⟨_,rfl,D,_,_,rfl,rfl,hD4,by split <;> decide,by split <;> decide,(by rw [List.length_map]; cases fb <;> exact zY (by simp <;> omega)),fun c3 hc3=>?_⟩⟩
 rw [ed2]
 have s5:=zc hc3 (.lst (d2.map V.int))
 have g5:upd H4 c3 (.lst (d2.map V.int)) c3 = some (.lst (d2.map V.int)):=za
 generalize upd H4 c3 (.lst (d2.map V.int)) = H5 at s5 g5 |-
 have s25:=s3.trans (s4.trans s5)
 refine ⟨c1,c3,_,_,rfl,rfl,s25 _ _ g2,g5,zY (by rw [List.length_map,List.length_map]; omega),fun c4 hc4=>?_⟩
 rw [<- List.map_append]
 have s6:=zc hc4 (.lst ((wa cs 3 23 ++ d2).map V.int))
 refine ⟨c4,_,rfl,SqL.of za,by rw [List.length_append]; omega,fun la us rows H7 s7 nla hla hu vr=>?_⟩
 have s17:=s2.trans (s25.trans (s6.trans s7))
 have hcl:=s17 _ _ hcl
 clear s2 s3 s4 s5 s6 s7 s25 g2 g3 g5 hD4 hD hc1 hc2 hc3 hc4 ec1 ec2 s17 nla
 dsimp only [zB]
 refine zv (vg (i:=5) ["_law_cells"] ["_law_k","_law_cells"] [none,some 1] xc.nd rfl (Or.inl rfl) rfl ⟨rfl,rfl,rfl,rfl⟩ (yv rfl U.range (ac (zq xm (cF cN hr1 (ac (pv 1) (ac ze zb))) ze) zb)) (zM 0) rfl rfl rfl
  (fun pins fp s H C=>⟨zk (i:=0) zia rfl (Or.inl rfl) (.inr rfl),yB,zq wX (cF cN hr1 (ac (pv 1) (ac (pv 0) zb))) ze⟩)) ?_
 have m5:=Int.emod_lt_of_pos (cs.getD 1 0) (show (0:Int) < 5 by decide)
 have m50:=Int.emod_nonneg (cs.getD 1 0) (show (5:Int) ≠ 0 by decide)
 refine ⟨_,rfl,cl,cs,1,rfl,SqL.of hcl,_,_,rfl,rfl,(by show (0:Int) < 5; decide),cs.getD 1 0 % 5,rfl,by omega,by omega,fun D1 hD1=>?_⟩
 obtain ⟨nn,hnn⟩:∃ nn:Nat,(cs.getD 1 0 % 5).toNat = nn:=⟨_,rfl⟩
 rw [hnn]
 have hn5:nn<=5:=by omega
 refine wn (n:=nn) (fun j ys H'=>zm H7 H'/\H' D1 = some (.lst ys)/\∃ ms:List Int,ys = ms.map V.int/\ms.length = j) ⟨zc hD1 _,za,[],rfl,rfl⟩ ?_ ?_
 ·rintro j ys H' hj ⟨sH,hDy,ms,ey,el⟩
  rw [Int.zero_add]
  refine ⟨fun _=>⟨_,rfl,_,rfl,cl,cs,j,rfl,SqL.of (sH _ _ hcl),_,_,rfl,rfl,⟨by decide,by decide⟩,lcN.mk hj (zY (by omega)) hDy (by rw [ey,List.length_map]; omega) ⟨z9 sH hD1 _,za,ms ++ [_],by rw [ey,List.map_append]; rfl,by rw [List.length_append,el]; rfl⟩⟩,fun z=>absurd z (by decide)⟩
 rintro ys H8 ⟨s8,hD8,ms0,rfl,el0⟩
 have hcl8:=s8 _ _ hcl
 dsimp only [zB]
 refine zv (zD (yz (pv 2)) (zd (vg (i:=5) ["_law_cells"] ["_law_k","_law_cells"] [none,some 1] xc.nd rfl (Or.inl rfl) rfl ⟨rfl,rfl,rfl,rfl⟩ (yv rfl U.range (ac ze zb)) (zM 0) rfl rfl rfl
  (fun pins fp s H C=>⟨zk (i:=0) zia rfl (Or.inl rfl) (.inr rfl),yB,cF cR hr2 (ac (zq yc (cF cN hr1 (ac (pv 1) (ac ze zb))) (pv 0)) zb)⟩))) zu) ?_
 refine y6 (fun σ' H'=>∃ (l0:Addr) (ms:List Int),σ' = [some (.ref sa),some (.ref cl),some (.bl fb),none,some (.ref la),some (.ref l0),none,none,none,none,none,none,none,none,none]/\zm H8 H'/\H' l0 = some (.lst (ms.map V.int))/\ms.length<=60) ?_ (fun key=>?_)
 rotate_left
 ·refine ⟨_,rfl,_,rfl,?_⟩
  refine vI (fun _=>?_) (fun _=>?_)
  rotate_left
  ·exact key _ _ ⟨D1,ms0,rfl,zm.refl _,hD8,by omega⟩
  refine ⟨60,rfl,by decide,by decide,fun D2 hD2=>?_⟩
  refine wn (n:=60) (fun j ys H'=>zm H8 H'/\H' D2 = some (.lst ys)/\∃ ms:List Int,ys = ms.map V.int/\ms.length = j) ⟨zc hD2 _,za,[],rfl,rfl⟩ ?_ ?_
  ·rintro j ys H' hj ⟨sH,hDy,ms,ey,el⟩
   rw [Int.zero_add]
   refine ⟨fun _=>⟨_,rfl,cl,cs,2,rfl,SqL.of (sH _ _ hcl8),_,rfl,_,_,rfl,rfl,_,rfl,fun n=>?_⟩,fun z=>absurd z (by decide)⟩
   exact lcN.mk hj (zY (by omega)) hDy (by rw [ey,List.length_map]; omega) ⟨z9 sH hD2 _,za,ms ++ [n],by rw [ey,List.map_append]; rfl,by rw [List.length_append,el]; rfl⟩
  rintro ys H9 ⟨s9,hD9,ms,rfl,el⟩
  exact key _ _ ⟨D2,ms,rfl,s9,hD9,by omega⟩
 rintro σ H9 ⟨l0,ms,rfl,s9,hl0,lms⟩
 have s79:=s8.trans s9
 have hcl:=s79 _ _ hcl
 have hla:=s79 _ _ hla
 have hu:=zK s79 hu
 clear s8 s9 s79 hcl8 hD8 hD1 el0
 refine zv (zw (i:=6) xc.nd rfl (Or.inl rfl) (cF cB' hr5 (ac (pv 5) (ac (pv 4) zb)))) ?_
 refine ⟨_,rfl,_,rfl,l0,la,ms,us,rows,rfl,SqL.of hl0,lms,hla,hu,vr,fun lb bars H10 s10 nlb hlb V1=>?_⟩
 have hcl:=s10 _ _ hcl
 have hla:=s10 _ _ hla
 have hu:=zK s10 hu
 have l24:=V1.l24
 have l60:=V1.l60
 have hok:=V1.ok
 have lu:us.length = rows.length:=hu.length
 clear s10 nlb hl0
 dsimp only [zB]
 refine zv (zw (i:=7) xc.nd rfl (Or.inl rfl) (zq yG (xz [] ["_law_one"] [none] rfl ⟨rfl,rfl,rfl,rfl⟩ (zU (pv 4)) (zM 0) rfl rfl rfl
   (fun pins fp s H C=>⟨zk (i:=0) zcG rfl (Or.inl rfl) (.inr rfl),yB,zo (r:=jy K) zF (pv 0) ze (fun _ _=>rfl)⟩)) (pv 6))) ?_
 refine ⟨_,rfl,la,rfl,⟨_,SqL.of hla⟩,fun D3 hD3=>?_⟩
 refine jg (K:=K) TAt (fun _=>true) (fun _ r=>.str r.z) hD3 hla hu (by omega) (fun i u r H' N S hu' hr' tr sH n1 s1'=>?_) (fun H11 s11 h11=>?_)
 ·have rk:=hok r (List.mem_of_getElem? hr')
  exact ⟨fun e=>⟨_,rfl,u,_,1,_,rfl,rfl,SqT.of (sH _ _ tr),xq rk,n1 _ (zm.refl _) rfl⟩,fun e=>by cases e⟩
 rw [zcU hu] at h11
 refine ⟨_,rfl,D3,lb,_,_,rfl,rfl,h11,s11 _ _ hlb,zY (by rw [List.length_map,List.length_map,List.length_map]; omega),fun lk hlk=>?_⟩
 rw [<- List.map_append]
 have s12:=s11.trans (zc hlk (.lst ((rows.map Rw.z ++ bars).map V.str)))
 have gk:upd H11 lk (.lst ((rows.map Rw.z ++ bars).map V.str)) lk = some (.lst ((rows.map Rw.z ++ bars).map V.str)):=za
 generalize upd H11 lk (.lst ((rows.map Rw.z ++ bars).map V.str)) = H12 at s12 gk |-
 have kn:∀ z ∈ rows.map Rw.z ++ bars,yx z = true:=fun z hz=>by
  rcases List.mem_append.mp hz with h | h
  ·exact zac vr z h
  ·exact V1.bn z h
 have kl:(rows.map Rw.z ++ bars).length<=84:=by rw [List.length_append,List.length_map]; omega
 generalize rows.map Rw.z ++ bars = ks at gk kn kl
 have hcl:=s12 _ _ hcl
 have hla:=s12 _ _ hla
 have hu:=zK s12 hu
 have hlb:=s12 _ _ hlb
 clear s12 s11 h11 hD3 hlk
 dsimp only [zB]
 refine zv (zw (i:=8) xc.nd rfl (Or.inl rfl) (cF cH hr6 (ac (pv 1) (ac (pv 7) zb)))) ?_
 refine ⟨_,rfl,_,rfl,cl,lk,cs,ks,rfl,SqL.of hcl,gk,kn,by omega,fun lh xs it H13 s13 nlh hlh hxs sm=>?_⟩
 obtain ⟨ht1,hp1,nmP⟩:=sm
 have hcl:=s13 _ _ hcl
 have hla:=s13 _ _ hla
 have hu:=zK s13 hu
 have hlb:=s13 _ _ hlb
 have gk:=s13 _ _ gk
 clear s13 nlh
 dsimp only [zB]
 refine zv (wv (cF cL hr1 (ac (pv 8) zb)) (yH rfl (zz (zk (i:=9) xc.nd rfl (Or.inl rfl)) (zz (zk (i:=10) xc.nd rfl (Or.inl rfl)) yo)))) ?_
 refine ⟨_,rfl,lh,it,xs,rfl,SqL.of hlh,hxs,by omega,by omega,fun pt H14 s14 ⟨lt,lp,ys,nlt,nlp,_,_,hpt,hlt,hlp,hys⟩=>?_⟩
 refine ⟨pt,_,rfl,SqT.of hpt,rfl,_,_,rfl,_,_,rfl,rfl,?_⟩
 have hcall:zb7 K H14 lh it:=⟨xs,SqL.of (s14 _ _ hlh),Paired.imp' (fun _ _ z=>z.same s14) hxs⟩
 have hcl:=s14 _ _ hcl
 have hla:=s14 _ _ hla
 have hu:=zK s14 hu
 have hlb:=s14 _ _ hlb
 have gk:=s14 _ _ gk
 clear s14 hpt nlt nlp hlh hxs
 dsimp only [zB]
 refine zv (zw (i:=11) xc.nd rfl (Or.inl rfl) (cF cNe hr (ac (zcz MF GF hr4 rfl mCF bF .nil yh (ac (xz [] ["_law_one"] [none] rfl ⟨rfl,rfl,rfl,rfl⟩ (zU (pv 4)) (zM 0) rfl rfl rfl
   (fun pins fp s H C=>⟨zk (i:=0) zcG rfl (Or.inl rfl) (.inr rfl),yB,cF cP hr5 (ac (pv 0) zb)⟩)) (ac (pv 6) zb))) (ac (pv 8) zb)))) ?_
 refine ⟨_,rfl,la,rfl,⟨_,SqL.of hla⟩,fun D4 hD4=>?_⟩
 refine xF (K:=K) (xs:=us.map V.ref) (fun i ys H'=>∃ (ps:List Addr),ys = ps.map V.ref/\zm H14 H'/\H' D4 = some (.lst ys)/\Paired (PAt c H') ps (rows.take i))
  ⟨[],rfl,zc hD4 _,za,.nil⟩ (fun i ys H' ⟨_,_,sH,_⟩=>SqL.of (sH _ _ hla)) ?_ ?_
 ·rintro i x ys H2 hi hx ⟨ps,rfl,s2,hD2,hp2⟩
  obtain ⟨u,hu',rfl⟩:=xC hx
  obtain ⟨r,hr',tr⟩:=yw hu hu'
  have rk:=V1.ok r (List.mem_of_getElem? hr')
  have hil:i < rows.length:=(List.getElem?_eq_some_iff.mp hr').1
  have er:rows[i] = r:=(List.getElem?_eq_some_iff.mp hr').2
  have lps:ps.length<=i:=by rw [hp2.length,List.length_take]; omega
  refine ⟨fun _=>?_,fun e=>Bool.noConfusion e⟩
  refine ⟨_,rfl,u,r.k,.str r.z,r.b,rfl,rk.1,s2 _ _ tr,.inl ⟨r.z,rfl,zaI rk.2⟩,rk.2,fun pa dx H3 s3 ho=>?_⟩
  have pa3:PAt c H3 pa r:=⟨dx,ho⟩
  refine lcN.mk hi (zY (by rw [List.length_map]; omega)) (s3 _ _ hD2) (by rw [List.length_map]; exact lps) ⟨ps ++ [pa],by rw [List.map_append]; rfl,zc7 (s2.trans s3) hD4,za,?_⟩
  rw [List.take_succ_eq_append_getElem hil,er]
  exact Paired.snoc (Paired.imp' (fun _ _ z=>PAt.upd (z.same s3) (s3 _ _ hD2)) hp2) (PAt.upd pa3 (s3 _ _ hD2))
 rintro ys1 H15 ⟨ps,rfl,s15,hD15,hp15⟩
 rw [List.length_map,lu,List.take_length] at hp15
 refine ⟨_,rfl,?_⟩
 intro x dx hx hdx hne
 have smk:zm H15 (upd (upd H15 dx (.own x)) x (.ins CF dx [])):=y9 hx hdx
 have hx1:upd (upd H15 dx (.own x)) x (.ins CF dx []) x = some (.ins CF dx []):=za
 generalize upd (upd H15 dx (.own x)) x (.ins CF dx []) = H16 at smk hx1 |-
 refine ⟨x,D4,dx,.ref lb,ps,rows,bars,rfl,hx1,smk _ _ hD15,xl smk hp15,.inr ⟨lb,rfl,(s15.trans smk) _ _ hlb⟩,V1,fun H17 sx F6 L6=>?_⟩
 refine ⟨rfl,?_⟩
 have s17:zm H14 H17:=fun b' u e=>sx b' u (smk _ _ (s15 _ _ e)) (zf (s15 _ _ e) hx)
 have hF:wC c CF H17 x rows bars:=⟨let ⟨dx,fs,lr,lb,ld,ps,h1,h2,h3,h4,h5,h6,_,_⟩:=F6; ⟨dx,fs,lr,lb,ld,ps,h1,h2,h3,h4,h5,h6⟩,by omega,by omega,V1.ok⟩
 refine ⟨_,rfl,x,lh,it,rows,bars,rfl,hF,l24,l60,(let ⟨xs,h1,h2⟩:=hcall; ⟨xs,s17.seq h1,Paired.imp' (fun _ _ z=>z.same s17) h2⟩),ht1,by omega,fun ww H18 s18 hmin=>?_⟩
 have sA:=s17.trans s18
 have hcl:=sA _ _ hcl
 have hla:=sA _ _ hla
 have hu:=zK sA hu
 have hlb:=sA _ _ hlb
 have gk:=sA _ _ gk
 have hlt:=sA _ _ hlt
 have hlp:=sA _ _ hlp
 have hys:=Paired.imp' (fun _ _ z=>z.same sA) hys
 clear sA s17 s18 hF hcall F6 L6 sx smk hx1 s15 hD15 hp15 hD4
 dsimp only [zB]
 have lbd:=hmin.lb V1
 have hvw:=hmin.vw (by omega)
 obtain ⟨n0,hn0⟩:∃ n0,n0 = (mtF rows bars ww (z8 it).length (zQ it)).length:=⟨_,rfl⟩
 rw [<- hn0] at lbd |-
 refine zv (zw (i:=12) xc.nd rfl (Or.inl rfl) (cB zH U.len PySem.boot_len (ac (pv 9) zb))) ?_
 refine ⟨_,rfl,lt,_,rfl,.inl (SqL.of hlt),?_⟩
 rw [List.length_map]
 dsimp only [zB]
 refine zv (vg (i:=5) [] ["_law_name_here","_law_thing_here"] [none,none] xc.nd rfl (Or.inl rfl) rfl ⟨rfl,rfl,rfl,rfl⟩ (zU (pv 10)) (w4 (K:=K) (n:=2) 0 1) rfl rfl rfl
   (fun pins fp s H C=>⟨yH rfl (zz (zk (i:=0) zeZ rfl (Or.inl rfl) (.inr rfl)) (zz (zk (i:=1) zeZ rfl (Or.inl rfl) (.inr rfl)) yo)),yB,pv 0⟩)) ?_
 refine ⟨_,rfl,lp,rfl,⟨_,SqL.of hlp⟩,fun D hD=>?_⟩
 have lys:ys.length = (yf it).length:=by rw [hys.length,List.length_map]
 refine xF (K:=K) (xs:=ys) (fun i zs H'=>zm H18 H'/\H' D = some (.lst zs)/\zs = ((zQ it).take i).map V.str) ⟨zc hD _,za,rfl⟩ (fun i zs H' h=>SqL.of (h.1 _ _ hlp)) ?_ ?_
 ·rintro i x zs H' hlt hx ⟨sH,hDy,ez⟩
  obtain ⟨d,hd,hy⟩:=Paired.get hys hx
  obtain ⟨pr',hpr,rfl⟩:=zay hd
  obtain ⟨b,rfl,hb⟩:=jM (hy.same sH)
  refine ⟨b,_,rfl,hb,rfl,_,_,rfl,_,_,rfl,rfl,fun _=>⟨_,rfl,?_⟩,fun e=>Bool.noConfusion e⟩
  have hi:i < (zQ it).length:=by unfold zQ; rw [List.length_map]; omega
  have en:(zQ it)[i] = pr'.1:=by
   have:(zQ it)[i]? = some pr'.1:=by unfold zQ; rw [List.getElem?_map,hpr]; rfl
   rw [List.getElem?_eq_getElem hi] at this
   exact Option.some.inj this
  refine lcN.mk hlt (zY (by omega)) hDy (by rw [ez,List.length_map,List.length_take]; omega) ⟨z9 sH hD _,za,?_⟩
  rw [ez,List.take_succ_eq_append_getElem hi,en,List.map_append]
  rfl
 rintro ns0 H19 ⟨s19,hD19,en0⟩
 have e19:H19 D = some (.lst ((zQ it).map V.str)):=by
  rw [hD19,en0,List.take_of_length_le]
  unfold zQ
  rw [List.length_map]
  omega
 have ln:(zQ it).length<=60:=by unfold zQ; rw [List.length_map]; exact hp1
 have nmN:∀ z ∈ zQ it,yx z = true:=fun z hz=>by
  unfold zQ at hz
  obtain ⟨p,hp,rfl⟩:=List.mem_map.mp hz
  exact nmP p hp
 have hcl:=s19 _ _ hcl
 have hla:=s19 _ _ hla
 have hu:=zK s19 hu
 have hlb:=s19 _ _ hlb
 have gk:=s19 _ _ gk
 clear en0 hD19 lys hys hlp hlt s19
 generalize zQ it = nm0 at *
 generalize (z8 it).length = mm0 at *
 dsimp only [zB]
 refine zv (zD (PW.pt (wI (xy (yz (cF cNu hr1 (ac (pv 11) zb)))) (x6 (zi zey (pv 11) (cF cLe hr2 (ac (pv 4) (ac (pv 6) (ac (pv 12) (ac (pv 5) zb))))) (zr _))))) (zd (zp xw)) zu) ?_
 refine y6 (fun σ' H'=>σ' = [some (.ref sa),some (.ref cl),some (.bl fb),none,some (.ref la),some (.ref D),some (.ref lb),some (.ref lk),some (.ref lh),some (.ref lt),some (.ref lp),some (.int (n0:Nat)),some (.int (mm0:Nat)),none,none]/\zm H19 H') ?_ (fun key=>?_)
 rotate_left
 ·refine ⟨_,rfl,(n0:Nat),rfl,_,rfl,?_⟩
  refine ym ?_
  refine ⟨_,rfl,_,rfl,_,rfl,_,rfl,_,rfl,la,lb,D,mm0,us,rows,bars,nm0,rfl,hla,hu,V1,hlb,e19,ln,ht1,fun n H20 s20 ⟨w2,a1,a2,a3⟩ h2=>?_⟩
  have hp:=zcx (rows:=rows)
  have en:n = n0:=by
   have h3:=lbd w2 a1 a2
   have h4:=h2 ww hvw.1 hvw.2.1 (by omega)
   omega
  subst en
  refine ⟨rfl,_,rfl,?_⟩
  refine yp (by rw [decide_eq_true rfl]; rfl) ?_
  exact key _ _ ⟨rfl,s20⟩
 rintro σ H20 ⟨rfl,s20⟩
 have hcl:=s20 _ _ hcl
 have hla:=s20 _ _ hla
 have hu:=zK s20 hu
 have hlb:=s20 _ _ hlb
 have gk:=s20 _ _ gk
 have e20:=s20 _ _ e19
 clear s20 e19 hn0
 refine zv (yn PassesOwn.never rfl (zU (xv xW (pv 1) (yW ze) (yW (zq yc ze (cB (uh rfl) U.min boot_min (ac ze (ac (cB (j7 rfl) U.max boot_max (ac ze (ac (zq xL (pv 11) ze) zb))) zb))))))) (zk (i:=3) xc.nd rfl (Or.inl rfl)) y7) ?_
 refine ⟨_,rfl,_,rfl,_,rfl,_,_,rfl,rfl,_,_,rfl,_,_,rfl,_,_,rfl,rfl,_,rfl,cl,_,rfl,SqL.of hcl,fun lc hlc=>?_⟩
 obtain ⟨t,ht,htn⟩:∃ t:Nat,(37:Int) + (if (if ((n0:Nat):Int) - 1 > 0 then ((n0:Nat):Int) - 1 else 0) < 26 then (if ((n0:Nat):Int) - 1 > 0 then ((n0:Nat):Int) - 1 else 0) else 26) = ((37 + t:Nat):Int)/\t<=n0 - 1/\t<=26:=by
  refine ⟨min 26 (n0 - 1),?_,Nat.min_le_right _ _,Nat.min_le_left _ _⟩
  split <;> split <;> omega
 rw [ht]
 obtain ⟨ec,lcc⟩:=zcS cs 37 (37 + t)
 rw [show wB (cs.map V.int) (some 37) (some ((37 + t:Nat):Int)) = (wa cs 37 (37 + t)).map V.int from ec]
 have lct:(wa cs 37 (37 + t)).length<=t:=by omega
 generalize wa cs 37 (37 + t) = ts at lct
 have s21:=zc hlc (.lst (ts.map V.int))
 have g21:upd H20 lc (.lst (ts.map V.int)) lc = some (.lst (ts.map V.int)):=za
 generalize upd H20 lc (.lst (ts.map V.int)) = H21 at s21 g21 |-
 have nd:(nms rows).Nodup:=(List.nodup_append.mp V1.nd).1
 refine ⟨lc,rfl,⟨_,SqL.of g21⟩,yJ (K:=K) (a:=lc) (xs:=ts.map V.int) (fun i σ H'=>∃ (v3 v13 v14:Option V) (mm:Nat) (l:Addr) (ns':List Str),σ = [some (.ref sa),some (.ref cl),some (.bl fb),v3,some (.ref la),some (.ref l),some (.ref lb),some (.ref lk),some (.ref lh),some (.ref lt),some (.ref lp),some (.int (n0:Nat)),some (.int (mm:Nat)),v13,v14]/\zm H21 H'/\H' l = some (.lst (ns'.map V.str))/\ns'.length<=60 + i/\(∀ z ∈ ns',yx z = true)/\LB rows bars mm ns' (n0 - i)) ⟨_,_,_,mm0,D,nm0,rfl,zm.refl _,s21 _ _ e20,by omega,nmN,lbd⟩ (fun i σ H' _ ⟨_,_,_,_,_,_,_,sH,_⟩=>SqL.of (sH _ _ g21)) ?_ ?_⟩
 rotate_left
 ·rintro σ H22 ⟨v3,v13,v14,mm,l,ns',rfl,s22,hl,lns,nns,lb'⟩
  exact ⟨_,zd (zp xw),q _⟩
 rintro i y σ H22 hy ⟨v3,v13,v14,mm,l,ns',rfl,s22,hl,lns,nns,lb'⟩
 obtain ⟨k,hk,rfl⟩:=vJ hy
 have hi:i < ts.length:=(List.getElem?_eq_some_iff.mp hk).1
 have s2022:=s21.trans s22
 dsimp only [zB]
 refine zv (zw (i:=13) xc.nd rfl (Or.inl rfl) (zo zF (cF cNm hr4 (ac (zq wX (pv 3) ze) (ac (zq yG (pv 7) (pv 5)) zb))) ze (fun _ _=>rfl))) ?_
 refine ⟨_,rfl,_,_,rfl,rfl,⟨by decide,by decide⟩,_,rfl,_,rfl,lk,l,_,_,rfl,rfl,s2022 _ _ gk,hl,zY (by rw [List.length_map,List.length_map]; omega),fun lx hlx=>?_⟩
 rw [<- List.map_append]
 have s23:=zc hlx (.lst ((ks ++ ns').map V.str))
 refine ⟨_,lx,ks ++ ns',rfl,za,(fun z hz=>(List.mem_append.mp hz).elim (kn z) (nns z)),by rw [List.length_append]; omega,fun tn z rest H24 s24 htn' hz=>?_⟩
 refine ⟨tn,_,0,.str z,rfl,rfl,SqT.of htn',rfl,?_⟩
 have s2224:=s23.trans s24
 have hl24:=s2224 _ _ hl
 have s2124:=s22.trans s2224
 clear s23 s24 htn' s2224 hl s22
 dsimp only [zB]
 refine zv (zw (i:=14) xc.nd rfl (Or.inl rfl) (zo zx (zT (ac (zE (ac zn zb)) (ac (zE (ac zn zb)) (ac (zE (ac zn (ac (pv 13) zb))) (ac (zE (ac zn (ac (pv 13) zb))) zb))))) (zq xm (pv 3) ze) (fun _ _=>rfl))) ?_
 refine ⟨zz1,fun t0 ht0=>⟨zz1,fun t1 ht1'=>⟨_,rfl,zz2,fun t2 ht2=>⟨_,rfl,zz2,fun t3 ht3=>⟨(by show 4<=sizeLine; decide),fun tl htl=>?_⟩⟩⟩⟩⟩
 have a0:=zc ht0 (.tup [.str "less"])
 have a1:=zc ht1' (.tup [.str "more"])
 have a2:=zc ht2 (.tup [.str "out",.str z])
 have a3:=zc ht3 (.tup [.str "in",.str z])
 have a4:=zc htl (.lst [.ref t0,.ref t1,.ref t2,.ref t3])
 have b3:=a4 _ _ (za (a:=t3) (o:=.tup [.str "in",.str z]))
 have b2:=(a3.trans a4) _ _ (za (a:=t2) (o:=.tup [.str "out",.str z]))
 have b1:=(a2.trans (a3.trans a4)) _ _ (za (a:=t1) (o:=.tup [.str "more"]))
 have b0:=(a1.trans (a2.trans (a3.trans a4))) _ _ (za (a:=t0) (o:=.tup [.str "less"]))
 have a04:=a0.trans (a1.trans (a2.trans (a3.trans a4)))
 have b4:upd (upd (upd (upd (upd H24 t0 (.tup [.str "less"])) t1 (.tup [.str "more"])) t2 (.tup [.str "out",.str z])) t3 (.tup [.str "in",.str z])) tl (.lst [.ref t0,.ref t1,.ref t2,.ref t3]) tl = some (.lst [.ref t0,.ref t1,.ref t2,.ref t3]):=za
 generalize upd (upd (upd (upd (upd H24 t0 (.tup [.str "less"])) t1 (.tup [.str "more"])) t2 (.tup [.str "out",.str z])) t3 (.tup [.str "in",.str z])) tl (.lst [.ref t0,.ref t1,.ref t2,.ref t3]) = H25 at a4 b0 b1 b2 b3 b4 a04 |-
 clear a0 a1 a2 a3 a4 ht0 ht1' ht2 ht3 htl
 obtain ⟨tk,ck,hat,htk,hck⟩:∃ (tk:Addr) (ck:List Str),atI [V.ref t0,V.ref t1,V.ref t2,V.ref t3] (k % 4) = some (V.ref tk)/\H25 tk = some (.tup (ck.map V.str))/\(ck = wO\/ck = wo\/ck = cIn z\/ck = za6 z):=by
  have h0:=Int.emod_nonneg k (show (4:Int) ≠ 0 by decide)
  have h1:=Int.emod_lt_of_pos k (show (0:Int) < 4 by decide)
  have:k % 4 = 0\/k % 4 = 1\/k % 4 = 2\/k % 4 = 3:=by omega
  rcases this with e | e | e | e <;> rw [e]
  ·exact ⟨t0,wO,rfl,b0,.inl rfl⟩
  ·exact ⟨t1,wo,rfl,b1,.inr (.inl rfl)⟩
  ·exact ⟨t2,za6 z,rfl,b2,.inr (.inr (.inr rfl))⟩
  ·exact ⟨t3,cIn z,rfl,b3,.inr (.inr (.inl rfl))⟩
 refine ⟨_,rfl,_,_,rfl,rfl,(by show (0:Int) < 4; decide),tl,_,_,.ref tk,rfl,rfl,SqL.of b4,hat,?_⟩
 have hl25:=a04 _ _ hl24
 have s2125:=s2124.trans a04
 clear b0 b1 b2 b3 b4 hat a04 s2124 hl24
 dsimp only [zB]
 refine zv (zD (PW.pt (wI (PW.pt (yb (zi (zaC hU) (pv 14) (zE (ac zn zb)) (zr _)) (z4 (zi z5 (pv 12) ze (zr _))))) (x6 (PW.pt (yb (zi z5 (zo zF (pv 14) ze (fun _ _=>rfl)) zn (zr _)) (z4 (zi zP (pv 13) (pv 5) (by with_unfolding_all rfl)))))))) (zd (zw (i:=14) xc.nd rfl (Or.inl rfl) (zE (ac zn zb)))) zu) ?_
 refine y6 (fun σ' H'=>∃ (t':Addr) (c':List Str),σ' = [some (.ref sa),some (.ref cl),some (.bl fb),some (.int k),some (.ref la),some (.ref l),some (.ref lb),some (.ref lk),some (.ref lh),some (.ref lt),some (.ref lp),some (.int (n0:Nat)),some (.int (mm:Nat)),some (.str z),some (.ref t')]/\zm H25 H'/\H' t' = some (.tup (c'.map V.str))/\((c' = wO/\0 < mm)\/c' = wo\/c' = cIn z\/(c' = za6 z/\z ∈ ns'))) ?_ (fun key=>?_)
 rotate_left
 ·refine ⟨_,rfl,zz1,fun te hte=>?_⟩
  refine ⟨tk,te,_,_,rfl,rfl,SqT.of (zc hte _ _ _ htk),SqT.of za,yi,rfl,_,rfl,?_⟩
  have se:=zc hte (.tup [.str "less"])
  rcases hck with rfl | rfl | rfl | rfl
  ·refine yU (by decide +kernel) ?_
   refine ⟨_,rfl,rfl,_,rfl,?_⟩
   by_cases h0:mm = 0
   ·refine dT (by rw [h0]; rfl) ?_
    refine yT ?_
    exact ⟨zz1,fun p hp=>key _ _ ⟨p,wo,rfl,se.trans (zc hp _),za,.inr (.inl rfl)⟩⟩
   refine dF (fun e=>h0 (by have:=V.int.inj e; omega)) ?_
   refine ⟨_,rfl,tk,_,0,.str "less",rfl,rfl,SqT.of (se _ _ htk),rfl,rfl,_,rfl,?_⟩
   refine dF (by decide +kernel) ?_
   refine ym ?_
   exact key _ _ ⟨tk,wO,rfl,se,se _ _ htk,.inl ⟨rfl,by omega⟩⟩
  ·refine yp (by decide +kernel) ?_
   refine ym ?_
   refine ⟨_,rfl,tk,_,0,.str "more",rfl,rfl,SqT.of (se _ _ htk),rfl,rfl,_,rfl,?_⟩
   refine dF (by decide +kernel) ?_
   refine ym ?_
   exact key _ _ ⟨tk,wo,rfl,se,se _ _ htk,.inr (.inl rfl)⟩
  ·refine yp (by rfl) ?_
   refine ym ?_
   refine ⟨_,rfl,tk,_,0,.str "in",rfl,rfl,SqT.of (se _ _ htk),rfl,rfl,_,rfl,?_⟩
   refine dF (by decide +kernel) ?_
   refine ym ?_
   exact key _ _ ⟨tk,cIn z,rfl,se,se _ _ htk,.inr (.inr (.inl rfl))⟩
  ·refine yp (by rfl) ?_
   refine ym ?_
   refine ⟨_,rfl,tk,_,0,.str "out",rfl,rfl,SqT.of (se _ _ htk),rfl,rfl,_,rfl,?_⟩
   refine dT rfl ?_
   refine ⟨_,rfl,_,rfl,l,_,rfl,.inl (SqL.of (se _ _ hl25)),rfl,yi,_,rfl,?_⟩
   by_cases hzn:z ∈ ns'
   ·refine yp (by rw [if_pos rfl,yd,decide_eq_true hzn]; rfl) ?_
    exact key _ _ ⟨tk,za6 z,rfl,se,se _ _ htk,.inr (.inr (.inr ⟨rfl,hzn⟩))⟩
   refine yU (by rw [if_pos rfl,yd,decide_eq_false hzn]; rfl) ?_
   exact ⟨zz1,fun p hp=>key _ _ ⟨p,wo,rfl,se.trans (zc hp _),za,.inr (.inl rfl)⟩⟩
 rintro σ H27 ⟨t',c',rfl,s27,ht',hc'⟩
 have hl27:=s27 _ _ hl25
 have s2127:=s2125.trans s27
 refine zv (wv (cF cTu hr1 (ac (pv 12) (ac (pv 5) (ac (pv 14) zb)))) (yH rfl (zz (zk (i:=12) xc.nd rfl (Or.inl rfl)) (zz (zk (i:=5) xc.nd rfl (Or.inl rfl)) yo)))) ?_
 rcases hc' with ⟨rfl,hm0⟩ | rfl | rfl | ⟨rfl,hzn⟩
 ·refine ⟨_,rfl,_,rfl,_,rfl,mm,l,t',ns',_,rfl,hl27,SqT.of ht',by omega,.inl ⟨rfl,fun u H28 s28 hu'=>?_⟩⟩
  rw [show ((mm:Nat):Int) - 1 = ((mm - 1:Nat):Int) by omega] at hu'
  refine ⟨u,_,rfl,SqT.of hu',rfl,_,_,rfl,_,_,rfl,rfl,?_⟩
  dsimp only [zB]
  refine ⟨_,zd (zD (yz (cF cFt hr1 (ac (pv 4) (ac (pv 6) (ac (pv 12) (ac (pv 5) zb)))))) (zd (zp xw)) zu),?_⟩
  have sB:=s2127.trans s28
  have sC:=s21.trans sB
  have lbn:=lb'.less
  rw [Nat.sub_sub] at lbn
  refine ⟨_,rfl,_,rfl,_,rfl,_,rfl,la,lb,l,(mm - 1),us,rows,bars,ns',rfl,sC _ _ hla,zK sC hu,V1,sC _ _ hlb,s28 _ _ hl27,by omega,fun H29 s29=>?_⟩
  refine ⟨_,rfl,?_⟩
  refine yp (decide_eq_false (LB.miss V1 lbn (by omega))) ?_
  exact ⟨_,_,_,(mm - 1),l,ns',rfl,sB.trans s29,s29 _ _ (s28 _ _ hl27),by omega,nns,lbn⟩
 ·refine ⟨_,rfl,_,rfl,_,rfl,mm,l,t',ns',_,rfl,hl27,SqT.of ht',by omega,.inr (.inl ⟨rfl,fun u H28 s28 hu'=>?_⟩)⟩
  rw [show ((mm:Nat):Int) + 1 = ((mm + 1:Nat):Int) by omega] at hu'
  refine ⟨u,_,rfl,SqT.of hu',rfl,_,_,rfl,_,_,rfl,rfl,?_⟩
  dsimp only [zB]
  refine ⟨_,zd (zD (yz (cF cFt hr1 (ac (pv 4) (ac (pv 6) (ac (pv 12) (ac (pv 5) zb)))))) (zd (zp xw)) zu),?_⟩
  have sB:=s2127.trans s28
  have sC:=s21.trans sB
  have lbn:=lb'.more
  rw [Nat.sub_sub] at lbn
  refine ⟨_,rfl,_,rfl,_,rfl,_,rfl,la,lb,l,(mm + 1),us,rows,bars,ns',rfl,sC _ _ hla,zK sC hu,V1,sC _ _ hlb,s28 _ _ hl27,by omega,fun H29 s29=>?_⟩
  refine ⟨_,rfl,?_⟩
  refine yp (decide_eq_false (LB.miss V1 lbn (by omega))) ?_
  exact ⟨_,_,_,(mm + 1),l,ns',rfl,sB.trans s29,s29 _ _ (s28 _ _ hl27),by omega,nns,lbn⟩
 ·refine ⟨_,rfl,_,rfl,_,rfl,mm,l,t',ns',_,rfl,hl27,SqT.of ht',by omega,.inr (.inr (.inl ⟨z,rfl,fun u l' H28 s28 nl' hl' hu'=>?_⟩))⟩
  refine ⟨u,_,rfl,SqT.of hu',rfl,_,_,rfl,_,_,rfl,rfl,?_⟩
  dsimp only [zB]
  refine ⟨_,zd (zD (yz (cF cFt hr1 (ac (pv 4) (ac (pv 6) (ac (pv 12) (ac (pv 5) zb)))))) (zd (zp xw)) zu),?_⟩
  have sB:=s2127.trans s28
  have sC:=s21.trans sB
  have lbn:=lb'.in_ (z:=z) nd
  rw [Nat.sub_sub] at lbn
  refine ⟨_,rfl,_,rfl,_,rfl,_,rfl,la,lb,l',mm,us,rows,bars,(ns' ++ [z]),rfl,sC _ _ hla,zK sC hu,V1,sC _ _ hlb,hl',by rw [List.length_append]; show _ + 1<=800; omega,fun H29 s29=>?_⟩
  refine ⟨_,rfl,?_⟩
  refine yp (decide_eq_false (LB.miss V1 lbn (by omega))) ?_
  exact ⟨_,_,_,mm,l',(ns' ++ [z]),rfl,sB.trans s29,s29 _ _ (hl'),by rw [List.length_append]; show _ + 1<=_; omega,(fun y hy=>(List.mem_append.mp hy).elim (nns y) (fun h=>by rw [List.mem_singleton.mp h]; exact hz)),lbn⟩
 ·refine ⟨_,rfl,_,rfl,_,rfl,mm,l,t',ns',_,rfl,hl27,SqT.of ht',by omega,.inr (.inr (.inr ⟨z,rfl,hzn,fun u l' j H28 s28 nl' hj hl' hu'=>?_⟩))⟩
  refine ⟨u,_,rfl,SqT.of hu',rfl,_,_,rfl,_,_,rfl,rfl,?_⟩
  dsimp only [zB]
  refine ⟨_,zd (zD (yz (cF cFt hr1 (ac (pv 4) (ac (pv 6) (ac (pv 12) (ac (pv 5) zb)))))) (zd (zp xw)) zu),?_⟩
  have sB:=s2127.trans s28
  have sC:=s21.trans sB
  have lbn:=lb'.out nd hj
  rw [Nat.sub_sub] at lbn
  refine ⟨_,rfl,_,rfl,_,rfl,_,rfl,la,lb,l',mm,us,rows,bars,(ns'.eraseIdx j),rfl,sC _ _ hla,zK sC hu,V1,sC _ _ hlb,hl',Nat.le_trans (List.length_eraseIdx_le ..) (by omega),fun H29 s29=>?_⟩
  refine ⟨_,rfl,?_⟩
  refine yp (decide_eq_false (LB.miss V1 lbn (by omega))) ?_
  exact ⟨_,_,_,mm,l',(ns'.eraseIdx j),rfl,sB.trans s29,s29 _ _ (hl'),Nat.le_trans (List.length_eraseIdx_le ..) (by omega),(fun y hy=>nns y (List.mem_of_mem_eraseIdx hy)),lbn⟩
end
end K33
def PySem.W.Fast.tw13645427776659739002:Unit:=()
def PySem.W.Fast.tw16655651603708344665:Unit:=()
def PySem.W.Fast.tw14710624381790030057:Unit:=()
def PySem.W.Fast.tw2577409951514930818:Unit:=()
def PySem.W.Fast.tw6189025353955152035:Unit:=()
def PySem.W.Fast.tw18130660285640225775:Unit:=()
def PySem.W.Fast.tw18385042928905362816:Unit:=()
def PySem.W.Fast.tw15033909514946340987:Unit:=()
def PySem.W.Fast.tw2695171262735666821:Unit:=()
def PySem.W.Fast.tw298595706204249493:Unit:=()
def PySem.W.Fast.tw954362399486275771:Unit:=()
def PySem.W.Fast.tw14569531462094763158:Unit:=()
def PySem.W.Fast.tw6933957408334909037:Unit:=()
def PySem.W.Fast.tw5038132346063130231:Unit:=()
def PySem.W.Fast.tw3999597282803111710:Unit:=()
def PySem.W.Fast.tw2869056227975841914:Unit:=()
def PySem.W.Fast.tw17502104701575153228:Unit:=()
def PySem.W.Fast.tw1857900233738000656:Unit:=()
def PySem.W.Fast.tw7400260483431413086:Unit:=()
def PySem.W.Fast.tw5407273944673235311:Unit:=()
def PySem.W.Fast.tw16165368647455610236:Unit:=()
def PySem.W.Fast.tw12961681118498242479:Unit:=()
def PySem.W.Fast.tw3497055259963819752:Unit:=()
def PySem.W.Fast.tw11085353516004418176:Unit:=()
def PySem.W.Fast.tw7324187654131659792:Unit:=()
def PySem.W.Fast.tw3354798666423308420:Unit:=()
def PySem.W.Fast.tw14128568439023370548:Unit:=()
def PySem.W.Fast.tw6572296268601561299:Unit:=()
def PySem.W.Fast.tw11366881141782053341:Unit:=()
def PySem.W.Fast.tw14071649504427298618:Unit:=()
def PySem.W.Fast.tw12392564973138294006:Unit:=()
def PySem.W.Fast.tw9891080273263125955:Unit:=()
def PySem.W.Fast.tw14325805599936341875:Unit:=()
def PySem.W.Fast.tw13707910063749978978:Unit:=()
def PySem.W.Fast.tw12014947673408734227:Unit:=()
def PySem.W.Fast.tw12698946993552818630:Unit:=()
def PySem.W.Fast.tw17850757691212537949:Unit:=()
def PySem.W.Fast.tw14778242575741945556:Unit:=()
def PySem.W.Fast.tw980802189862863485:Unit:=()
def PySem.W.Fast.tw18392692475517032017:Unit:=()
def PySem.W.Fast.tw10026686003991877975:Unit:=()
def PySem.W.Fast.tw4830420527527146704:Unit:=()
def PySem.W.Fast.tw11565649631276516413:Unit:=()
def PySem.W.Fast.tw13697705896473773532:Unit:=()
def PySem.W.Fast.tw1508639183429704809:Unit:=()
def PySem.W.Fast.tw15764188429350034664:Unit:=()
def PySem.W.Fast.tw9878380896405334215:Unit:=()
def PySem.W.Fast.tw910019957493719292:Unit:=()
def PySem.W.Fast.tw6857584579691210580:Unit:=()
def PySem.W.Fast.tw9962668429252041149:Unit:=()
def PySem.W.Fast.tw14431156024150456149:Unit:=()
def PySem.W.Fast.tw1886103459692720897:Unit:=()
def PySem.W.Fast.tw3389771527595306885:Unit:=()
def PySem.W.Fast.tw15268379272433758237:Unit:=()
def PySem.W.Fast.tw16377184495617517346:Unit:=()
def PySem.W.Fast.tw17698096144154312886:Unit:=()
def PySem.W.Fast.tw11583736477667942038:Unit:=()
def PySem.W.Fast.tw16688735638599110301:Unit:=()
def PySem.W.Fast.tw5002788144340080631:Unit:=()
namespace K33
open PySem L2 PyProof.Rows
theorem zgx {w:World} {K:Frag} {Gr:Addr} {es:Array DictEntry} {n:Nat} {t0 t1 t2 t3 t4:Tok} (hl:K.lookup Gr = some ⟨.type "dict",none,.dict es n,#[]⟩) (hk:KeysLit w.params es.toList) (h0:nsIn K Gr "seat" = some (some (.int 0 t0))) (h1:nsIn K Gr "both" = some (some (.int 0 t1))) (h2:nsIn K Gr "tail" = some (some (.int 1 t2)))
  (h3:nsIn K Gr "tag" = some (some (.int 2 t3))) (h4:nsIn K Gr "bag" = some (some (.int 3 t4))):zis w K Gr zgB:=by
 refine ⟨⟨es,n,hl,hk⟩,fun x v h=>?_⟩
 unfold zgB at h
 by_cases e0:x = "seat"
 ·subst e0; rw [List.lookup_cons_self] at h; cases h; exact ⟨_,h0,_,rfl⟩
 rw [List.lookup_cons,beq_eq_false_iff_ne.mpr e0] at h
 by_cases e1:x = "both"
 ·subst e1; rw [List.lookup_cons_self] at h; cases h; exact ⟨_,h1,_,rfl⟩
 rw [List.lookup_cons,beq_eq_false_iff_ne.mpr e1] at h
 by_cases e2:x = "tail"
 ·subst e2; rw [List.lookup_cons_self] at h; cases h; exact ⟨_,h2,_,rfl⟩
 rw [List.lookup_cons,beq_eq_false_iff_ne.mpr e2] at h
 by_cases e3:x = "tag"
 ·subst e3; rw [List.lookup_cons_self] at h; cases h; exact ⟨_,h3,_,rfl⟩
 rw [List.lookup_cons,beq_eq_false_iff_ne.mpr e3] at h
 by_cases e4:x = "bag"
 ·subst e4; rw [List.lookup_cons_self] at h; cases h; exact ⟨_,h4,_,rfl⟩
 rw [List.lookup_cons,beq_eq_false_iff_ne.mpr e4] at h
 cases h
theorem zjR {l:PySem.W.OpenLaw} {w:World} {K:Frag} {h:Heap} {mg:Str->Option Value} {fa D C0 C1 C2 C3 C4 FM f1 f2 f3 f4 f5 f6 f7 f8 f9 f10 f11 f12 f13 f14 f15 f16 f17 f18 f19 f20 f21 f22 f23 f24 f25 f26 f27 f28 f29 f30 f31 f32 f33 f34 f35 f36 f37 f38 f39 f40 f41 f42 f43 f44 f45 f46 f47 f48 f49 f50 f51 f52 f53 f54 f55 f56 f57 f58:Addr} {e1 e2 e3 e4 e5 e6 e7 e8 e9 e10 e11 e12 e13 e14 e15 e16 e17 e18 e19 e20 e21 e22 e23 e24 e25 e26 e27 e28 e29 e30 e31 e32 e33 e34 e35 e36 e37 e38 e39 e40 e41 e42 e43 e44 e45 e46 e47 e48 e49 e50 e51 e52 e53 e54 e55 e56 e57 e58:FuncData} {tP tB tO sg Gr:Addr} {tL tN tMP tMB ktP0 ktP1 ktB0 ktB1 ktO0 ktO1 ktO2 ksg0 ksg1 kG0 kG1 kG2 kG3 kG4:Tok} {odtP odtB odtO odsg:Option Addr} {ntP ntB ntO nsg nG:Nat} {sltP sltB sltO slsg:Array (Option Value)} {esG:Array DictEntry} (X:K.In h) (G:h.Ns mainGlobals mg) (hfa:mg "law" = some (.ref fa))
  (cD:CD K "Parameter" D)
  (cC0:CD K "Seat" C0)
  (nC0:findIn K (.ref C0) "word" = some none/\findIn K (.ref C0) "name" = some none/\findIn K (.ref C0) "may_lack" = some none)
  (cC1:CD K "Both" C1)
  (nC1:findIn K (.ref C1) "word" = some none/\findIn K (.ref C1) "name" = some none/\findIn K (.ref C1) "may_lack" = some none)
  (cC2:CD K "Tail" C2)
  (nC2:findIn K (.ref C2) "word" = some none/\findIn K (.ref C2) "name" = some none/\findIn K (.ref C2) "may_lack" = some none)
  (cC3:CD K "Tag" C3)
  (nC3:findIn K (.ref C3) "word" = some none/\findIn K (.ref C3) "name" = some none/\findIn K (.ref C3) "may_lack" = some none)
  (cC4:CD K "Bag" C4)
  (nC4:findIn K (.ref C4) "word" = some none/\findIn K (.ref C4) "name" = some none/\findIn K (.ref C4) "may_lack" = some none)
  (cFM:CD K "Form" FM)
  (nFM:findIn K (.ref FM) "row" = some none/\findIn K (.ref FM) "bar_names" = some none/\findIn K (.ref FM) "place_count" = some none/\findIn K (.ref FM) "tail_number" = some none/\findIn K (.ref FM) "bag_number" = some none/\findIn K (.ref FM) "doors" = some none)
  (g1:GD K "is_name" sIs f1 e1)
  (g2:MD K D "__init__" "Parameter.__init__" zbo f2 e2)
  (g3:MD K D "free" "Parameter.free" zen f3 e3)
  (g4:MD K D "by_place" "Parameter.by_place" uV f4 e4)
  (g5:MD K D "by_name" "Parameter.by_name" qC f5 e5)
  (g6:MD K D "takes_one" "Parameter.takes_one" zhE f6 e6)
  (g7:MD K D "told" "Parameter.told" ziO f7 e7)
  (g8:DD K C0 "__init__" "Seat.__init__" zee f8 e8 [Value.bool false])
  (g9:DD K C1 "__init__" "Both.__init__" zeq f9 e9 [Value.bool false])
  (g10:MD K C2 "__init__" "Tail.__init__" zed f10 e10)
  (g11:DD K C3 "__init__" "Tag.__init__" zhF f11 e11 [Value.bool false])
  (g12:MD K C4 "__init__" "Bag.__init__" zhO f12 e12)
  (g13:DD K FM "__init__" "Form.__init__" zbx f13 e13 [Value.none])
  (g14:MD K FM "keep" "Form.keep" zel f14 e14)
  (g15:MD K FM "parameters" "Form.parameters" zbw f15 e15)
  (g16:MD K FM "bars" "Form.bars" zby f16 e16)
  (g17:MD K FM "places" "Form.places" uU f17 e17)
  (g18:MD K FM "tail" "Form.tail" zbv f18 e18)
  (g19:MD K FM "bag" "Form.bag" zep f19 e19)
  (g20:MD K FM "number_of" "Form.number_of" zeo f20 e20)
  (g21:MD K FM "told" "Form.told" zhN f21 e21)
  (g22:GD K "parameter_of" zhG f22 e22)
  (g23:GD K "refuse_too_many" zbm f23 e23)
  (g24:GD K "refuse_bad_order" qx f24 e24)
  (g25:GD K "refuse_bars_without_name" zbn f25 e25)
  (g26:GD K "refuse_twice" qw f26 e26)
  (g27:GD K "number_of_word" zeh f27 e27)
  (g28:GD K "laid" zej f28 e28)
  (g29:GD K "shape" zbl f29 e29)
  (g30:GD K "first_numbers" qA f30 e30)
  (g31:GD K "misfits_of" zhL f31 e31)
  (g32:GD K "overs" zbp f32 e32)
  (g33:GD K "unwelcomes" zhD f33 e33)
  (g34:GD K "lackings" zek f34 e34)
  (g35:GD K "one_entry" zeg f35 e35)
  (g36:GD K "fewest_by_place" qB f36 e36)
  (g37:GD K "nearest" uT f37 e37)
  (g38:GD K "mends" zbq f38 e38)
  (g39:GD K "wanted_numbers" qu f39 e39)
  (g40:GD K "mends_to" zhK f40 e40)
  (g41:GD K "_law_nth" zhI f41 e41)
  (g42:GD K "_law_is_number" zhH f42 e42)
  (g43:GD K "_law_mix" zhJ f43 e43)
  (g44:GD K "_law_rich" zef f44 e44)
  (g45:GD K "_law_half" zem f45 e45)
  (g46:GD K "_law_take" zec f46 e46)
  (g47:GD K "_law_name" zei f47 e47)
  (g48:GD K "_law_specs" zbk f48 e48)
  (g49:GD K "_law_bars" zer f49 e49)
  (g50:GD K "_law_thing" zbj f50 e50)
  (g51:GD K "_law_items" zbu f51 e51)
  (g52:GD K "_law_laid" zbs f52 e52)
  (g53:GD K "_law_fits" zbt f53 e53)
  (g54:GD K "_law_turned" qv f54 e54)
  (g55:GD K "_law_count" zbz f55 e55)
  (g56:GD K "_law_least" zbr f56 e56)
  (g57:GD K "_law_handed" qz f57 e57)
  (g58:GD K "law" zhM f58 e58)
  (zisinstance:nsIn K mainGlobals "isinstance" = some none)
  (zstr:nsIn K mainGlobals "str" = some none)
  (zbool:nsIn K mainGlobals "bool" = some none)
  (zlen:nsIn K mainGlobals "len" = some none)
  (zall:nsIn K mainGlobals "all" = some none)
  (zrange:nsIn K mainGlobals "range" = some none)
  (zlist:nsIn K mainGlobals "list" = some none)
  (zenumerate:nsIn K mainGlobals "enumerate" = some none)
  (zset:nsIn K mainGlobals "set" = some none)
  (zmin:nsIn K mainGlobals "min" = some none)
  (zmax:nsIn K mainGlobals "max" = some none)
  (zint:nsIn K mainGlobals "int" = some none)
  (zzip:nsIn K mainGlobals "zip" = some none)
  (zreversed:nsIn K mainGlobals "reversed" = some none)
  (zsum:nsIn K mainGlobals "sum" = some none)
  (zsorted:nsIn K mainGlobals "sorted" = some none)
  (zabs:nsIn K mainGlobals "abs" = some none)
  (gL:nsIn K mainGlobals "LETTERS" = some (some (.str letters tL)))
  (gN:nsIn K mainGlobals "LONGEST" = some (some (.int 8 tN)))
  (gMP:nsIn K mainGlobals "MOST_PARAMETERS" = some (some (.int 24 tMP)))
  (gMB:nsIn K mainGlobals "MOST_BARS" = some (some (.int 60 tMB)))
  (ytP:nsIn K mainGlobals "BY_PLACE" = some (some (.ref tP)))
  (utP:K.lookup tP = some ⟨.type "tuple",odtP,.seq #[.str "seat" ktP0,.str "both" ktP1] ntP,sltP⟩)
  (ytB:nsIn K mainGlobals "BY_NAME" = some (some (.ref tB)))
  (utB:K.lookup tB = some ⟨.type "tuple",odtB,.seq #[.str "both" ktB0,.str "tag" ktB1] ntB,sltB⟩)
  (ytO:nsIn K mainGlobals "OF_ONE_THING" = some (some (.ref tO)))
  (utO:K.lookup tO = some ⟨.type "tuple",odtO,.seq #[.str "seat" ktO0,.str "both" ktO1,.str "tag" ktO2] ntO,sltO⟩)
  (ysg:nsIn K mainGlobals "SINGLE_GROUPS" = some (some (.ref sg)))
  (usg:K.lookup sg = some ⟨.type "tuple",odsg,.seq #[.int 1 ksg0,.int 3 ksg1] nsg,slsg⟩)
  (yGr:nsIn K mainGlobals "GROUPS" = some (some (.ref Gr)))
  (lGr:K.lookup Gr = some ⟨.type "dict",none,.dict esG nG,#[]⟩)
  (kGr:KeysLit w.params esG.toList)
  (eG0:nsIn K Gr "seat" = some (some (.int 0 kG0)))
  (eG1:nsIn K Gr "both" = some (some (.int 0 kG1)))
  (eG2:nsIn K Gr "tail" = some (some (.int 1 kG2)))
  (eG3:nsIn K Gr "tag" = some (some (.int 2 kG3)))
  (eG4:nsIn K Gr "bag" = some (some (.int 3 kG4)))
  (dga:jw K D "__init__" f2)
  (h0:findIn K (.ref C0) "free" = some (some (.ref f3))/\findIn K (.ref C0) "by_place" = some (some (.ref f4))/\findIn K (.ref C0) "by_name" = some (some (.ref f5))/\findIn K (.ref C0) "takes_one" = some (some (.ref f6))/\findIn K (.ref C0) "told" = some (some (.ref f7)))
  (h1:findIn K (.ref C1) "free" = some (some (.ref f3))/\findIn K (.ref C1) "by_place" = some (some (.ref f4))/\findIn K (.ref C1) "by_name" = some (some (.ref f5))/\findIn K (.ref C1) "takes_one" = some (some (.ref f6))/\findIn K (.ref C1) "told" = some (some (.ref f7)))
  (h2:findIn K (.ref C2) "free" = some (some (.ref f3))/\findIn K (.ref C2) "by_place" = some (some (.ref f4))/\findIn K (.ref C2) "by_name" = some (some (.ref f5))/\findIn K (.ref C2) "takes_one" = some (some (.ref f6))/\findIn K (.ref C2) "told" = some (some (.ref f7)))
  (h3:findIn K (.ref C3) "free" = some (some (.ref f3))/\findIn K (.ref C3) "by_place" = some (some (.ref f4))/\findIn K (.ref C3) "by_name" = some (some (.ref f5))/\findIn K (.ref C3) "takes_one" = some (some (.ref f6))/\findIn K (.ref C3) "told" = some (some (.ref f7)))
  (h4:findIn K (.ref C4) "free" = some (some (.ref f3))/\findIn K (.ref C4) "by_place" = some (some (.ref f4))/\findIn K (.ref C4) "by_name" = some (some (.ref f5))/\findIn K (.ref C4) "takes_one" = some (some (.ref f6))/\findIn K (.ref C4) "told" = some (some (.ref f7)))
  : ∃ fd:FuncData,(∀ (s:Shared) (v:Value),BindsTo s fd ⟨[v],[]⟩ [("_law_script",v)])/\∀ base:Heap,K.In base->base.Ns mainGlobals mg->zA l.prog w K mg base CX0 8 fa fd ["_law_script"] (qj K):=by
 have e:=hfa.symm.trans (mg_of X G g58.a)
 cases e
 have no:∀ {x:Str},nsIn K mainGlobals x = some none->mg x = none:=fun z=>PySem.W.mg_none_of X G z
 have T:zja K mg:=⟨no zisinstance,no zstr,no zbool,no zlen,no zall,no zrange,⟨tL,mg_of X G gL⟩,⟨tN,mg_of X G gN⟩,uz K,zbQ K,zaR K,zaP K,qM K,zaQ K,zbP K,qN K⟩
 have Wd:Wds K mg tP tB tO:=⟨mg_of X G ytP,mg_of X G ytB,mg_of X G ytO,fun H=>.inr ⟨_,_,_,utP,rfl,rfl,zz2,.cons ⟨_,rfl⟩ (.cons ⟨_,rfl⟩ (.nil))⟩,fun H=>.inr ⟨_,_,_,utB,rfl,rfl,zz2,.cons ⟨_,rfl⟩ (.cons ⟨_,rfl⟩ (.nil))⟩,fun H=>.inr ⟨_,_,_,utO,rfl,rfl,zz3,.cons ⟨_,rfl⟩ (.cons ⟨_,rfl⟩ (.cons ⟨_,rfl⟩ (.nil)))⟩⟩
 have TF:za8 w K mg Gr sg:=⟨no zlen,no zenumerate,no zlist,no zset,⟨tMP,mg_of X G gMP⟩,⟨tMB,mg_of X G gMB⟩,mg_of X G yGr,zgx lGr kGr eG0 eG1 eG2 eG3 eG4,mg_of X G ysg,fun H=>.inr ⟨_,_,_,usg,rfl,rfl,zz2,.cons ⟨_,rfl⟩ (.cons ⟨_,rfl⟩ .nil)⟩⟩
 have pc0:PC K ⟨f3,f4,f5,f6,f7⟩ C0:=⟨cC0.c,nC0.1,nC0.2.1,nC0.2.2,⟨h0.1,g3.m.fn,g3.F.kp⟩,⟨h0.2.1,g4.m.fn,g4.F.kp⟩,⟨h0.2.2.1,g5.m.fn,g5.F.kp⟩,⟨h0.2.2.2.1,g6.m.fn,g6.F.kp⟩,⟨h0.2.2.2.2,g7.m.fn,g7.F.kp⟩⟩
 have pc1:PC K ⟨f3,f4,f5,f6,f7⟩ C1:=⟨cC1.c,nC1.1,nC1.2.1,nC1.2.2,⟨h1.1,g3.m.fn,g3.F.kp⟩,⟨h1.2.1,g4.m.fn,g4.F.kp⟩,⟨h1.2.2.1,g5.m.fn,g5.F.kp⟩,⟨h1.2.2.2.1,g6.m.fn,g6.F.kp⟩,⟨h1.2.2.2.2,g7.m.fn,g7.F.kp⟩⟩
 have pc2:PC K ⟨f3,f4,f5,f6,f7⟩ C2:=⟨cC2.c,nC2.1,nC2.2.1,nC2.2.2,⟨h2.1,g3.m.fn,g3.F.kp⟩,⟨h2.2.1,g4.m.fn,g4.F.kp⟩,⟨h2.2.2.1,g5.m.fn,g5.F.kp⟩,⟨h2.2.2.2.1,g6.m.fn,g6.F.kp⟩,⟨h2.2.2.2.2,g7.m.fn,g7.F.kp⟩⟩
 have pc3:PC K ⟨f3,f4,f5,f6,f7⟩ C3:=⟨cC3.c,nC3.1,nC3.2.1,nC3.2.2,⟨h3.1,g3.m.fn,g3.F.kp⟩,⟨h3.2.1,g4.m.fn,g4.F.kp⟩,⟨h3.2.2.1,g5.m.fn,g5.F.kp⟩,⟨h3.2.2.2.1,g6.m.fn,g6.F.kp⟩,⟨h3.2.2.2.2,g7.m.fn,g7.F.kp⟩⟩
 have pc4:PC K ⟨f3,f4,f5,f6,f7⟩ C4:=⟨cC4.c,nC4.1,nC4.2.1,nC4.2.2,⟨h4.1,g3.m.fn,g3.F.kp⟩,⟨h4.2.1,g4.m.fn,g4.F.kp⟩,⟨h4.2.2.1,g5.m.fn,g5.F.kp⟩,⟨h4.2.2.2.1,g6.m.fn,g6.F.kp⟩,⟨h4.2.2.2.2,g7.m.fn,g7.F.kp⟩⟩
 have PP:Pcs K ⟨f3,f4,f5,f6,f7⟩ ⟨C0,C1,C2,C3,C4⟩:=fun k hk=>by
  rcases lt5 hk with rfl | rfl | rfl | rfl | rfl
  ·exact pc0
  ·exact pc1
  ·exact pc2
  ·exact pc3
  ·exact pc4
 have FK:FC K FM:=⟨cFM.c,nFM.1,nFM.2.1,nFM.2.2.1,nFM.2.2.2.1,nFM.2.2.2.2.1,nFM.2.2.2.2.2⟩
 have UL:zio mg:=⟨no zisinstance,no zint,no zlen,no zrange,no zlist,no zzip,no zmax⟩
 have UM:zin mg:=⟨no zmax,no zlist,no zrange,no zmin,no zlen⟩
 refine ⟨_,g58.law,fun base KB GB=>?_⟩
 have B:TB l.prog w K mg base:=⟨fun e=>mg_of X G e⟩
 have cI:=g1.c1 B (ziV g1.F T)
 have GP:zA l.prog w K mg base CX0 2 f2 _ ["self","word","name","may_lack"] (spP K ⟨f3,f4,f5,f6,f7⟩):=zeG g2.F cI
 have mD:=mg_of X G cD.a
 have UC:zhf l.prog w K mg base ⟨C0,C1,C2,C3,C4⟩ f8 f9 f10 f11 f12 _ _ _ _ _:=⟨⟨⟨cC0.ms,g8.m.at_,g8.m.fn,cC0.kc⟩,zf9 g8.F pc0 dga mD GP g2.F.b4,mg_of X G cC0.a,g8.b0⟩,⟨⟨cC1.ms,g9.m.at_,g9.m.fn,cC1.kc⟩,zgo g9.F pc1 dga mD GP g2.F.b4,mg_of X G cC1.a,g9.b0⟩,⟨⟨cC2.ms,g10.m.at_,g10.m.fn,cC2.kc⟩,zf8 g10.F pc2 dga mD GP g2.F.b4,mg_of X G cC2.a,g10.F.b2⟩,⟨⟨cC3.ms,g11.m.at_,g11.m.fn,cC3.kc⟩,zhZ g11.F pc3 dga mD GP g2.F.b4,mg_of X G cC3.a,g11.b0⟩,⟨⟨cC4.ms,g12.m.at_,g12.m.fn,cC4.kc⟩,zh7 g12.F pc4 dga mD GP g2.F.b4,mg_of X G cC4.a,g12.F.b2⟩⟩
 have GF:zA l.prog w K mg base CX0 1 f3 _ ["self"] (ql K ⟨f3,f4,f5,f6,f7⟩):=zgl g3.F
 have GQ:zA l.prog w K mg base CX0 1 f4 _ ["self"] (uM K ⟨f3,f4,f5,f6,f7⟩ bpL):=zaE g4.F Wd
 have GN:zA l.prog w K mg base CX0 1 f5 _ ["self"] (uM K ⟨f3,f4,f5,f6,f7⟩ bnL):=zbI g5.F Wd
 have cM1:=g23.c2 B (zgg g23.F TF)
 have cM2:=g24.c1 B (zeI g24.F TF PP)
 have cM3:=g25.c1 B (zeF g25.F cI)
 have cM4:=g26.c2 B (zeB g26.F TF PP GN g5.F.b1)
 have cW:=g27.c2 B (zgc g27.F TF PP)
 have GK:=zgi g14.F TF PP FK cW GQ g4.F.b1 GN g5.F.b1
 have GI:=zeS g13.F FK g14.m cM1 cM2 cM3 cM4 GK (g14.F.b3)
 have Gpa:zA l.prog w K mg base CX0 1 f15 _ ["self"] (vR ⟨C0,C1,C2,C3,C4⟩ FM):=zeR g15.F TF FK
 have Gba:zA l.prog w K mg base CX0 1 f16 _ ["self"] (zbe ⟨C0,C1,C2,C3,C4⟩ FM):=zeT g16.F TF FK
 have Gpl:zA l.prog w K mg base CX0 1 f17 _ ["self"] (wg ⟨C0,C1,C2,C3,C4⟩ FM):=zbH g17.F FK
 have Gta:zA l.prog w K mg base CX0 1 f18 _ ["self"] (vj ⟨C0,C1,C2,C3,C4⟩ FM 2):=zeQ g18.F FK
 have Gbg:zA l.prog w K mg base CX0 1 f19 _ ["self"] (vj ⟨C0,C1,C2,C3,C4⟩ FM 4):=zgn g19.F FK
 have Gnu:zA l.prog w K mg base CX0 1 f20 _ ["self","name"] (zdY ⟨C0,C1,C2,C3,C4⟩ FM):=zgm g20.F FK
 have cL:=g28.c1 B (zgh g28.F)
 have cSh:=g29.c1 B (zeE g29.F (no zlen) cL)
 have cFn:=g30.c1 B (zdg g30.F (no zenumerate))
 have cOv:=g32.c2 B (zeH g32.F (no zrange) FK g18.m Gta (g18.F.b1) g17.m Gpl (g17.F.b1))
 have cUn:=g33.c3 B (zhY g33.F (no zset) FK g16.m Gba (g16.F.b1) g20.m Gnu (g20.F.b2) g19.m Gbg (g19.F.b1) g17.m Gpl (g17.F.b1))
 have cEn:=g35.c4 B (zgb g35.F PP GQ g4.F.b1 GN g5.F.b1)
 have cLa:=g34.c3 B (zeO g34.F (no zenumerate) PP FK g15.m Gpa (g15.F.b1) GF g3.F.b1 cEn)
 have cMo:=g31.c3 B (zh3 g31.F (no zenumerate) cFn cOv cUn cLa)
 have cPf:=g22.c1 B (zh0 g22.F UC)
 have cFw:=g36.c2 B (zh6 g36.F (no zrange) (no zreversed) FK PP g15.m Gpa (g15.F.b1) g17.m Gpl (g17.F.b1) GN g5.F.b1 GF g3.F.b1)
 have cWn:=g39.c2 B (zdf g39.F UM FK PP cFw g15.m Gpa (g15.F.b1) g17.m Gpl (g17.F.b1) g18.m Gta (g18.F.b1) GN g5.F.b1)
 have cMt:=g40.c4 B (zh2 g40.F FK PP cMo g15.m Gpa (g15.F.b1))
 have cMe:=g38.c2 B (zeJ g38.F UM cSh cWn cMt)
 have cNe:=g37.c2 B (zge g37.F (no zlen) cMe)
 have cN:=g41.c2 B (zgd g41.F UL)
 have cNu:=g42.c1 B (zh1 g42.F UL)
 have cMx:=g43.c2 B (zh4 g43.F)
 have cRi:=g44.c1 B (zga g44.F (no zrange) cMx)
 have cHf:=g45.c1 B (zgk g45.F (no zlist) cN cRi)
 have cTk:=g46.c2 B (zf7 g46.F (no zsum) (no zlen) cRi)
 have cNm:=g47.c2 B (zgf g47.F (no zlen) cTk)
 have cSp:=g48.c1 B (zeD g48.F (no zint) cTk cNm)
 have cBa:=g49.c2 B (zeM g49.F cNm)
 have cTh:=g50.c1 B (zeC g50.F)
 have cIt:=g51.c2 B (zeP g51.F (no zrange) cTk cNm cTh)
 have cL2:=g52.c1 B (zeN g52.F)
 have cFt:=g53.c4 B (zeK g53.F ⟨no zlen,no zset,no zrange⟩)
 have cTu:=g54.c3 B (zf6 g54.F ⟨no zlen,no zmax,no zrange⟩)
 have cCo:=g55.c4 B (zeU g55.F ⟨no zlen,no zset,no zrange,no zsorted⟩)
 have cLe:=g56.c4 B (zeL g56.F (no zlen) (no zrange) (no zmin) (no zabs) cCo)
 have cHa:=g57.c2 B (zgj g57.F (no zrange) cIt cN cTh)
 exact zh5 g58.F ⟨no zlen,no zint,no zrange,no zmin,no zmax⟩ cHf cN cSp cRi cBa cHa cL2 (mg_of X G cFM.a) ⟨cFM.ms,g13.m.at_,g13.m.fn,cFM.kc⟩ GI g13.b0 cPf cNe cNu cLe cNm cTu cFt
theorem zj9 {l:PySem.W.OpenLaw} {q:Program} {loose:List Str} {XP:(Str->Option Value)->Heap->Prop} {YP:World->Heap->Prop} {d:DefRec} {K:Params->Frag} (hn:l.most = some 63) (hdf:d.params.defaults = [])
  (hY:∀ (w:World) (h:Heap),YP w h->(K w.params).In h)
  (F:∀ (w:World) (mg:Str->Option Value) (fa:Addr) (h:Heap),(K w.params).In h->h.Ns mainGlobals mg->mg d.name = some (.ref fa)->
   ∃ fd:FuncData,(∀ (s:Shared) (u:Value),BindsTo s fd ⟨[u],[]⟩ [("_law_script",u)])/\∀ base:Heap,(K w.params).In base->base.Ns mainGlobals mg->zA l.prog w (K w.params) mg base CX0 8 fa fd ["_law_script"] (qj (K w.params))) :
  PySem.W.WalkO q loose XP YP l.row.toRowW d [] (fun f vs=>PySem.call f vs):=
 L2.ziu (n:=63) (k:=8) (x:="_law_script") (CX:=fun _=>CX0) (sp:=fun w=>qj (K w.params)) hn (by decide) hdf ⟨rfl,by decide,by decide⟩ hY F (fun _ _ a ns hl hb _ hS=>⟨a,ns,rfl,hS,hl,hb,fun _=>rfl⟩) fun _ _ _ _ _ z=>z
end K33
open PySem PySem.W PyProof.Rows
set_option maxRecDepth 100000 in
set_option maxHeartbeats 0 in
theorem PySem.Challenge.cw_callbinds_k33_whole_no_fewer_holds : PySem.Challenge.rw_callbinds_k33_whole_no_fewer.Holds := by
 w_on; o_law; k_head; (case hw => w_witness2)
 k_fill
 refine K33.zj9 (l := PySem.Challenge.rw_callbinds_k33_whole_no_fewer) rfl rfl (fun w h Y => PySem.W.kIn_of Y) ?F
 case F =>
  intro w mg fa h KX G hmg
  refine' K33.zjR KX G hmg ?cD ?cC0 ?nC0 ?cC1 ?nC1 ?cC2 ?nC2 ?cC3 ?nC3 ?cC4 ?nC4 ?cFM ?nFM ?g1 ?g2 ?g3 ?g4 ?g5 ?g6 ?g7 ?g8 ?g9 ?g10 ?g11 ?g12 ?g13 ?g14 ?g15 ?g16 ?g17 ?g18 ?g19 ?g20 ?g21 ?g22 ?g23 ?g24 ?g25 ?g26 ?g27 ?g28 ?g29 ?g30 ?g31 ?g32 ?g33 ?g34 ?g35 ?g36 ?g37 ?g38 ?g39 ?g40 ?g41 ?g42 ?g43 ?g44 ?g45 ?g46 ?g47 ?g48 ?g49 ?g50 ?g51 ?g52 ?g53 ?g54 ?g55 ?g56 ?g57 ?g58 ?zisinstance ?zstr ?zbool ?zlen ?zall ?zrange ?zlist ?zenumerate ?zset ?zmin ?zmax ?zint ?zzip ?zreversed ?zsum ?zsorted ?zabs ?gL ?gN ?gMP ?gMB ?ytP ?utP ?ytB ?utB ?ytO ?utO ?ysg ?usg ?yGr ?lGr ?kGr ?eG0 ?eG1 ?eG2 ?eG3 ?eG4 ?dga ?h0 ?h1 ?h2 ?h3 ?h4
  (case cD | cC0 => apply L2.zj8 <;> k_is)
  (case nC0 => exact ⟨by k_is, by k_is, by k_is⟩)
  (case cC1 => apply L2.zj8 <;> k_is)
  (case nC1 => exact ⟨by k_is, by k_is, by k_is⟩)
  (case cC2 => apply L2.zj8 <;> k_is)
  (case nC2 => exact ⟨by k_is, by k_is, by k_is⟩)
  (case cC3 => apply L2.zj8 <;> k_is)
  (case nC3 => exact ⟨by k_is, by k_is, by k_is⟩)
  (case cC4 => apply L2.zj8 <;> k_is)
  (case nC4 => exact ⟨by k_is, by k_is, by k_is⟩)
  (case cFM => apply L2.zj8 <;> k_is)
  (case nFM => exact ⟨by k_is, by k_is, by k_is, by k_is, by k_is, by k_is⟩)
  (case g1 => apply L2.zj6 <;> k_is)
  (case g2 | g3 | g4 | g5 | g6 | g7 => apply L2.zj5 <;> k_is)
  (case g8 | g9 => apply L2.zj7 <;> k_is)
  (case g10 => apply L2.zj5 <;> k_is)
  (case g11 => apply L2.zj7 <;> k_is)
  (case g12 => apply L2.zj5 <;> k_is)
  (case g13 => apply L2.zj7 <;> k_is)
  (case g14 | g15 | g16 | g17 | g18 | g19 | g20 | g21 => apply L2.zj5 <;> k_is)
  (case g22 | g23 | g24 | g25 | g26 | g27 | g28 | g29 | g30 | g31 | g32 | g33 | g34 | g35 | g36 | g37 | g38 | g39 | g40 | g41 | g42 | g43 | g44 | g45 | g46 | g47 | g48 | g49 | g50 | g51 | g52 | g53 | g54 | g55 | g56 | g57 | g58 => apply L2.zj6 <;> k_is)
  (case zisinstance | zstr | zbool | zlen | zall | zrange | zlist | zenumerate | zset | zmin | zmax | zint | zzip | zreversed | zsum | zsorted | zabs | gL | gN | gMP | gMB | ytP | utP | ytB | utB | ytO | utO | ysg | usg | yGr | lGr => k_is)
  (case kGr => k_keys)
  (case eG0 | eG1 | eG2 | eG3 | eG4 => k_is)
  (case dga => exact ⟨by k_is, by k_is, by k_is, by k_is⟩)
  (case h0 | h1 | h2 | h3 | h4 => exact ⟨by k_is, by k_is, by k_is, by k_is, by k_is⟩)
#print axioms PySem.Challenge.cw_callbinds_k33_whole_no_fewer_holds
